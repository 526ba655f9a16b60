import PyProof.Rows.All
import Wide.All
import OpenK.AllK
import Wide.FinOn
import Lean
import PyProof.EqAt
import PyProof.EqKinds
import PyProof.TupleCall
import PyProof.ExcArgsOwn
import PyProof.AttrMissSeq
import KE.KMinKey
import KE.KBoundM
import KE.KSortTup
import KE.KItemsList
import PyProof.SeqI3
import PySem.Challenge.RW_talkhall_k09_roles
set_option Elab.async false
set_option linter.all false
set_option maxRecDepth 100000
set_option bootstrap.genMatcherCode false
set_option genSizeOf false
set_option genInjectivity false
set_option maxHeartbeats 4000000
def aP:=@PySem.wpAny_bind
def bQ:=@List.getElem?_eq_getElem
def bL:=@PySem.Heap.get?_push_of_some
def bj:=@List.length_map
def a_:=@PySem.wpAny_pure
def b_:=@List.mem_cons_of_mem
def bB:=@List.mem_cons
def bW:=@List.getElem?_map
def bu:=@Nat.le_refl
def bH:=@List.map_cons
def bp:=@PySem.Heap.lt_size
def cf:=@PySem.Heap.get?_push_size
def bP:=@Bool.and_eq_true
def aS:=@if_pos
def cg:=@List.set_cons_succ
def cj:=@List.set_cons_zero
def cp:=@List.mem_cons_self
def bX:=@beq_self_eq_true
def aW:=@if_neg
def bS:=@Nat.ne_of_lt
def cO:=@List.size_toArray
def cE:=@List.lookup_cons
def cU:=@Nat.lt_of_lt_of_le
def d_:=@List.getD_eq_getElem?_getD
def cI:=@List.not_mem_nil
def cW:=@Bool.false_eq_true
def cX:=@List.mem_singleton
def dk:=@List.mem_append_right
def cw:=@Nat.le_trans
def cA:=@List.mem_map
def dS:=@List.mem_of_getElem?
def dg:=@List.length_cons
def cF:=@List.map_map
def de:=@Option.map_some
def dm:=@List.all_eq_true
def eO:=@List.contains_iff_mem
def fT:=@List.getElem?_eq_some_iff
def dw:=@List.mem_append
def ee:=@of_decide_eq_true
def eP:=@List.length_append
def dz:=@Bool.not_true
def fD:=@Bool.false_ne_true
def iV:=@List.getElem?_eq_none_iff
def fU:=@Array.length_toList
def cx:=@if_false
def fV:=@List.mem_map_of_mem
def dA:=@Nat.le_of_lt
def dB:=@Nat.ne_of_gt
def gG:=@PySem.Around.under_plainId
def eQ:=@PySem.W.kia_one
def gH:=@List.map_congr_left
def fh:=@decide_eq_false
def eR:=@Bool.not_false
def eC:=@Nat.lt_irrefl
def cJ:=@or_false
def jM:=@List.filter_cons_of_neg
def dH:=@PySem.sizeLine_eq
def fE:=@PySem.codeAny_builtin
def cQ:=@congrArg
def dU:=@Nat.zero_le
def fY:=@List.mem_filter
def iW:=@beq_eq_false_iff_ne
def hU:=@decide_eq_true_eq
def fi:=@PySem.wpAny_holding
def gJ:=@PySem.wpAny_call_entry
def kX:=@List.filter_cons_of_pos
def cK:=@if_true
def jO:=@List.mem_append_left
def gK:=@List.nodup_cons
def dW:=@PySem.wpAny_mono
def iX:=@PySem.wpAny_setField_rec
def kY:=@PySem.W.hideAll_none
def mV:=@PySem.F.slot_list_append
def gL:=@PySem.wpAny_seqItems
def eV:=@beq_iff_eq
def jP:=@Option.isSome_map
def mW:=@PySem.F.plain_min_loop
def kZ:=@PySem.mem_of_lookup
def gM:=@PySem.plainId_quiet
def mX:=@PySem.Calls.callWith_builtin
def mY:=@PySem.Heap.get?_update_other
def mZ:=@Array.getElem?_toList
def k_:=@List.mem_filterMap
def hV:=@List.all_cons
def p5:=@PySem.F.type_list_append
def iY:=@decide_eq_true
def p7:=@PySem.F.plainAttrs_dict
def lh:=@Nat.lt_succ_of_lt
def lj:=@Int.toNat_natCast
def jQ:=@List.append_nil
def jR:=@List.find?_cons
def jT:=@beq_false_of_ne
def jU:=@List.map_append
def m3:=@PySem.Calls.evalArgs_plain
def m4:=@List.replicate_succ
def fZ:=@PySem.wpAny_field
def iZ:=@List.any_cons
def p8:=@PySem.wpAny_callSpecial?_slot
def m5:=@Option.isSome_some
def p9:=@PySem.F.slot_dict_get
def og:=@List.getElem?_append_left
def oh:=@List.drop_eq_getElem_cons
def lY:=@List.getElem?_set_ne
def kl:=@PySem.Calls.spliced_cons
def lZ:=@PySem.W.hideAll_get
def km:=@PySem.wpAny_newObj_type
def kn:=@PySem.wpAny_pyIter_list
def oj:=@PySem.Str.length_append
def ko:=@PySem.wpAny_setState_of
def kr:=@List.getElem_mem
def fo:=@PySem.wpAny_rule
def l0:=@PySem.W.of_hideAll
def om:=@List.getElem?_set_self
def oo:=@PySem.W.funFrames_hide
def jg:=@PySem.Heap.size_push
def ky:=@List.length_set
def oq:=@List.length_filter_le
def l6:=@List.flatten_cons
def l7:=@List.getElem?_set
def hW:=@PySem.codeAny_mono
def l8:=@PySem.wpAny_Call_Name_kw
def l9:=@PySem.tupleKind_room_in1
def l_:=@Nat.succ_ne_self
def md:=@Nat.le_add_right
def ou:=@List.filterMap_cons
def oz:=@PySem.W.plainGet_of
def oA:=@List.filter_eq_self
def rX:=@Option.isSome_iff_exists
def kz:=@Bool.false_or
def rY:=@PySem.F.slot_tuple_iterator_next
def kA:=@PySem.wpAny_tryCatch
def jh:=@PySem.call_meetsIn
def ji:=@PySem.F.called_set
def oB:=@Option.isSome_none
def rZ:=@List.getElem?_replicate
def r6:=@PySem.F.plainAttrs_list
def r8:=@PySem.F.plain_list_iadd
def oC:=@PySem.Heap.SameBut.update
def r9:=@PySem.F.entry_dict_get
def oE:=@List.ext_getElem?
def oF:=@Bool.not_eq_true'
def me:=@PySem.wpAny_ite_split
def r_:=@PySem.F.slot_dict_pop
def oG:=@Nat.lt_succ_self
def oH:=@List.filter_cons
def oJ:=@Option.getD_some
def oK:=@List.drop_length
def oM:=@PySem.wpAny_truthy_bool
def oN:=@PySem.Calls.spliced_nil
def kB:=@List.map_id
def se:=@Array.toArray_toList
def oO:=@List.forIn_cons
def oP:=@List.filter_map
def oQ:=@Option.map_none
def sf:=@PySem.Heap.get?_update_self
def sg:=@List.length_pos_iff
def v9:=@PyProof.Rows.callWith_type1
def mf:=@List.map_nil
def oR:=@PySem.wpAny_isInstance
def v_:=@List.getElem?_append_right
def sj:=@Nat.lt_of_le_of_lt
def oS:=@PySem.wpAny_passesOwn
def oU:=@PySem.PassesOwn.never
def oV:=@PySem.wpAny_updateSeq
def sk:=@PySem.W.kitx_dict
def wa:=@PyProof.Rows.slot_tuple_getitem
def sq:=@bne_self_eq_false
def sx:=@List.length_range
def sA:=@List.filter_congr
def wb:=@PySem.F.slot_tuple_index
def oW:=@Bool.true_and
def wc:=@PySem.Calls.Name_function_global
def kC:=@PySem.call_meets
def wd:=@decide_eq_false_iff_not
def oX:=@List.all_map
def we:=@Nat.le_of_succ_le_succ
def wg:=@PySem.F.entry_min_loop
def sC:=@List.of_mem_zip
def sD:=@PySem.wpAny_Call_method
def sE:=@PySem.W.kia_tup
def sF:=@Bool.eq_iff_iff
def mh:=@PySem.wpAny_letGo
def wj:=@List.length_replicate
def oY:=@PySem.wpAny_newList
def wk:=@PySem.F.slot_list_getattribute
def sG:=@List.mem_range
def oZ:=@Nat.le_succ
def sH:=@PySem.wpAny_execs_nil
def sI:=@Bool.or_false
def sJ:=@PySem.F.slot_zip_next
def wm:=@PySem.W.callWith_K
def wo:=@PySem.builtinLookup_eq_fast
def wq:=@PySem.F.typeOf_object_class
def wt:=@Option.isNone_some
def BD:=@List.findIdx?_eq_some_iff_getElem
def sL:=@PySem.W.looks_findIn
def wu:=@PySem.W.kitx_list
def wx:=@List.append_assoc
def wy:=@List.nodup_append
def wz:=@PySem.codeAny_call_builtin
def mi:=@PySem.W.Looks.ld
def wA:=@Nat.le_of_lt_succ
def wB:=@PyProof.Rows.F.plain_set_update_loop
def wC:=@decide_eq_decide
def sM:=@PySem.wpAny_attempt
def o4:=@PySem.wpAny_load
def o5:=@PySem.wpAny_call
def wD:=@List.length_nil
def wF:=@Nat.not_lt_zero
def wG:=@List.filter_nil
def wH:=@Int.emod_nonneg
def BE:=@PySem.F.plain_proto_collect
def wI:=@Bool.false_and
def wJ:=@Bool.and_false
def wK:=@PySem.PassesOwn.leaving
def BF:=@List.length_eraseIdx_of_lt
def wL:=@PySem.fits_of_scanBound
def sN:=@PySem.wpAny_typeOf
def wM:=@List.forIn_nil
def BG:=@PySem.F.excBase_ValueError
namespace HT
open PySem PyProof.Rows
section
open PySem.SeqAt
open PySem.AutoSeq1 (wpAny_loadPart')
open PySem.MeetsSeq PySem.MeetsSeq2 PySem.MeetsSeq3
end
section
variable {prog:Program}{w:World}{A:Around}{E:Value->Shared->Prop}{s:Shared}
theorem Ms{t b:Addr}{vs ws:List Value}{Q:Value->Shared->Prop}(ht:IsTup s.heap t vs.toArray)(hb:IsTup s.heap b ws.toArray)(hv:vs≠[])
  (h1:ws=[]->Q (.ref t) s) (h2:ws≠[]->Q (.ref s.heap.objs.size) {s with heap:=s.heap.push {cls:=.type "tuple",data:=.seq (vs++ws).toArray}})
  (hsz:vs.length+ws.length<=sizeLine):wpAny (model prog w) A (binaryOp .Add (.ref t) (.ref b)) Q E s:=by
 obtain⟨⟨cls,dd,data,sl⟩,ho,hc,n,hd⟩:=id ht;obtain⟨⟨aa7,Ue,data2,Yz⟩,YA,hc2,n2,hd2⟩:=id hb;simp only at hc hd hc2 hd2;subst hc hd hc2 hd2;have e:vs.toArray++ws.toArray=(vs++ws).toArray:=by simp
 by_cases hw:ws=[]
 ·exact concat_meets ⟨_,ho,rfl⟩ ⟨_,YA,rfl⟩ noFill_tuple_add seq_tuple_add PySem.F.slot_tuple_add PySem.F.entry_tuple_add (PySem.F.args_tuple_add_2 _ _)
   (tuple_addW1 t b vs.toArray ws.toArray n n2 dd Ue sl Yz (by simpa using hv) (by simp[hw])) ⟨ho,YA,h1 hw⟩
 ·refine concat_meets ⟨_,ho,rfl⟩ ⟨_,YA,rfl⟩ noFill_tuple_add seq_tuple_add PySem.F.slot_tuple_add PySem.F.entry_tuple_add (PySem.F.args_tuple_add_2 _ _)
   (tuple_addW2 t b vs.toArray ws.toArray n n2 dd Ue sl Yz (by simpa using hv) (by simpa using hw) (by rw[List.size_toArray,List.size_toArray];exact hsz)) ⟨ho,YA,?_⟩
  rw[e];exact h2 hw
def g8(n d:Nat):Option Int->Nat
 |none=>d
 |some v=>if v<0 then(v+(n:Int)).toNat else min v.toNat n
theorem Qc(n d:Nat)(hd:d<=n)(o:Option Int):g8 n d o<=n:=by
 cases o with
 |none=>exact hd
 |some v=>
  show(if v<0 then(v+(n:Int)).toNat else min v.toNat n)<=n;by_cases hv:v<0
  ·rw[if_pos hv];omega
  ·rw[if_neg hv];exact Nat.min_le_right _ _
theorem z6(v:Int)(n d:Nat):(if v<0 then max (v+(n:Int)) 0 else min v (n:Int))=((g8 n d (some v):Nat):Int):=by
 show(if v<0 then max (v+(n:Int)) 0 else min v (n:Int))=(((if v<0 then(v+(n:Int)).toNat else min v.toNat n):Nat):Int);by_cases hv:v<0
 ·simp only[if_pos hv];omega
 ·simp only[if_neg hv];omega
theorem DJ(lo hi:Option Int)(n:Nat):Builtin.Slice.sliceAdjust lo hi 1 (n:Int)=(((g8 n 0 lo:Nat):Int),((g8 n n hi:Nat):Int)):=by
 have h1:¬((1:Int)<0):=by omega
 unfold Builtin.Slice.sliceAdjust;simp only[h1,if_false];refine Prod.ext ?_ ?_
 ·cases lo with
  |none=>rfl
  |some v=>exact z6 v n 0
 ·cases hi with
  |none=>rfl
  |some v=>exact z6 v n n
theorem DK(i j:Nat):Builtin.Slice.slicePlaces (i:Int) (j:Int) 1=j - i:=by
 unfold Builtin.Slice.slicePlaces;have h1:(1:Int)>0:=by omega
 simp only[h1,if_true,Int.ediv_one];split<;>omega
theorem wN{v:Value}{o:Option Int}{Q:Option Int->Shared->Prop}(p:IsPart v o)(h:Q o s):wpAny (model prog w) A (Builtin.Slice.slicePartIndex v) Q E s:=by
 cases p with
 |none=>exact slicePart_none h
 |int i t=>exact slicePart_int h
theorem mj{sl:Addr}{vl vu:Value}{lo hi:Option Int}{n:Nat}{Q:Int×Int×Nat->Shared->Prop}(hs:s.heap.IsSliceOf sl vl vu .none)(pl:IsPart vl lo)(pu:IsPart vu hi)
  (h:Q (((g8 n 0 lo:Nat):Int),1,g8 n n hi - g8 n 0 lo) s):wpAny (model prog w) A (Builtin.Slice.sliceApplied (.ref sl) (pure (n:Int))) Q E s:=by
 obtain⟨os,Qd,YB,UH⟩:=id hs;unfold Builtin.Slice.sliceApplied Builtin.Slice.sliceFields;refine wpAny_bind (wpAny_bind (wpAny_field Qd UH (x:=vl) rfl (wpAny_bind (wpAny_field Qd UH (x:=vu) rfl (wpAny_bind (wpAny_field Qd UH (x:=.none) rfl (wpAny_pure ?_)))))));refine wpAny_bind (slicePart_none ?_);show wpAny _ _ (if((1:Int)==0)=true then _ else _) _ _ s;rw[if_neg (by decide)];refine wpAny_bind (wN pl (wpAny_bind (wN pu (wpAny_bind (wpAny_pure ?_)))));show wpAny _ _ (match Builtin.Slice.sliceAdjust lo hi 1 (n:Int)with|(lo,hi)=>pure (lo,(1:Int),Builtin.Slice.slicePlaces lo hi 1)) _ _ s;rw[DJ lo hi n];show wpAny _ _ (pure (((g8 n 0 lo:Nat):Int),(1:Int),Builtin.Slice.slicePlaces ((g8 n 0 lo:Nat):Int) ((g8 n n hi:Nat):Int) 1)) _ _ s;rw[DK];exact wpAny_pure h
theorem IM(xs:Array Value)(i k:Nat):((List.range k).filterMap fun(m:Nat)=>xs[((i:Int)+(m:Int)*1).toNat]?).toArray=((xs.toList.drop i).take k).toArray:=by
 have e:(fun(m:Nat)=>xs[((i:Int)+(m:Int)*1).toNat]?)=fun m=>xs[i+m]? :=by
  funext m;have:((i:Int)+(m:Int)*1).toNat=i+m:=by omega
  rw[this]
 rw[e];have:=pick_run xs i k;rw[List.filterMap_map]at this;have e2:((fun x=>xs[x]?)∘fun x=>i+x)=fun m=>xs[i+m]? :=rfl
 rw[e2]at this;rw[this]
theorem sO{t sl:Addr}{a8:Array Value}{vl vu:Value}{lo hi:Option Int}{Q:Value->Shared->Prop}(ht:IsTup s.heap t a8)(hs:s.heap.IsSliceOf sl vl vu .none)(pl:IsPart vl lo)(pu:IsPart vu hi)
  (hw:¬(g8 a8.size 0 lo=0/\g8 a8.size a8.size hi=a8.size))
  (h:Q (.ref s.heap.objs.size) {s with heap:=s.heap.push {cls:=.type "tuple",data:=.seq ((a8.toList.drop (g8 a8.size 0 lo)).take (g8 a8.size a8.size hi - g8 a8.size 0 lo)).toArray}})
  (hsz:a8.size<=sizeLine):wpAny (model prog w) A (getItem (.ref t) (.ref sl)) Q E s:=by
 have Fb:sizeOk (.seq ((a8.toList.drop (g8 a8.size 0 lo)).take (g8 a8.size a8.size hi - g8 a8.size 0 lo)).toArray):=by
  show((a8.toList.drop (g8 a8.size 0 lo)).take (g8 a8.size a8.size hi - g8 a8.size 0 lo)).toArray.size<=sizeLine;rw[List.size_toArray,List.length_take,List.length_drop,Array.length_toList];omega
 have hj:g8 a8.size a8.size hi<=a8.size:=Qc _ _ (Nat.le_refl _) hi;obtain⟨os,Qd,YB,UH⟩:=id hs;have Zh:s.TypeIs (.ref sl) "slice":=⟨os,Qd,YB⟩;unfold getItem
 try with_reducible refine wpAny_holding ?_
 first|refine wpAny_bind (wpAny_pure ?_)|skip
 refine wpAny_bind (wpAny_sequenceKey ht.typeIs (by decide) ?_);refine wpAny_bind (wpAny_callSpecial?_slot (name:=Str.ofString "__getitem__") ht.typeIs PyProof.Rows.slot_tuple_getitem
  (wpAny_call_entry PyProof.Rows.slot_tuple_getitem ht.typeIs entry_tuple_getitem ?_ (args_tuple_getitem _ _)))
 show wpAny _ _ (Builtin.Tuple.tupleItemsOf (.ref t)>>=_) _ _ s;refine wpAny_bind (tupleItemsOf_ ht ?_);refine wpAny_bind (wpAny_typeOf Zh ?_);rw[if_pos (by decide)];refine wpAny_bind (mj hs pl pu ?_);have IP:¬((((g8 a8.size 0 lo:Nat):Int)==0&&(1:Int)==1&&(g8 a8.size a8.size hi - g8 a8.size 0 lo)==a8.size)=true):=by
  intro q;rw[Bool.and_eq_true,Bool.and_eq_true]at q;have q1:((g8 a8.size 0 lo:Nat):Int)=0:=eq_of_beq q.1.1;have q2:g8 a8.size a8.size hi - g8 a8.size 0 lo=a8.size:=eq_of_beq q.2;exact hw ⟨by omega,by omega⟩
 show wpAny _ _ (if(((g8 a8.size 0 lo:Nat):Int)==0&&(1:Int)==1&&(g8 a8.size a8.size hi - g8 a8.size 0 lo)==a8.size)=true then _ else _) _ _ s;rw[if_neg IP,IM]
 first
  |exact wpAny_bind (m:=Builtin.Tuple.tupleExact _) (wpAny_newObj_type (wpAny_pure ⟨_,rfl,wpAny_pure h⟩) Fb)
  |exact wpAny_bind (m:=Builtin.Tuple.tupleExact _) (wpAny_newObj_type (wpAny_bind (wpAny_pure (wpAny_pure ⟨_,rfl,wpAny_pure h⟩))) Fb)
  |exact wpAny_bind (wpAny_bind (m:=Builtin.Tuple.tupleExact _) (wpAny_newObj_type (wpAny_pure (wpAny_pure ⟨_,rfl,wpAny_pure h⟩)) Fb))
  |exact wpAny_bind (wpAny_bind (m:=Builtin.Tuple.tupleExact _) (wpAny_newObj_type (wpAny_pure ⟨_,rfl,wpAny_pure h⟩) Fb))
end
end HT
namespace Att
open PySem PySem.W PySem.Calls PyProof.Rows
theorem vq{P:Params}{h:Heap}:∀(ns:List Int) (vs:List Value),WellAll P h vs (ns.map WData.int)->IntsAre vs ns:=by
 intro ns
 induction ns with
 |nil=>
  intro vs w;rw[List.map_nil]at w;cases w;exact .nil
 |cons n ns ih=>
  intro vs w;rw[List.map_cons]at w;cases w with
  |cons a b=>
   cases a;exact .cons _ _ (ih _ b)
theorem GP{l:OpenLaw}{n:Nat}(hn:l.most=some n){P:Params}{h:Heap}{args:List WData}{vals:List Value}
  (Mt:l.row.toRowW.claim.pre args=true) (UI:WellAll P h vals args):
  ∃a vs ns,vals=[Value.ref a]/\args=[WData.list (ns.map WData.int)]/\h.get? a=some {cls:=.type "list",data:=.seq vs.toArray}/\IntsAre vs ns/\ns.length<=n:=by
 have Zi:WShape.hasAll [] args [.list .int]=true:=(pre_splitW Mt).1;have hc:l.pre.holds [] {args:=args}=true:=(pre_splitW Mt).2;obtain⟨d,r,rfl,h1,h2⟩:=hasAllW_cons Zi;obtain rfl:=hasAllW_nil h2;obtain⟨xs,rfl,h3⟩:=hasW_list h1;obtain⟨ns,rfl⟩:=items_int h3;have b9:ns.length<=n:=by
  unfold OpenLaw.pre at hc;have h4:(WTm.not (.lt (.lit (.int (n:Int))) (.len (.arg 0)))).holds [] {args:=[.list (ns.map .int)]}=true:=by
   have h4:=(holds_andW hc).1;rw[hn]at h4;exact h4
  have h5:=condW_of h4 (w_not (w_lt w_lit (w_len_list (w_arg rfl))));rw[List.length_map]at h5;refine Nat.le_of_not_lt fun q=>?_
  have q':(n:Int)<((ns.length:Nat):Int):=by omega
  first
   |(rw[decide_eq_true q']at h5;exact absurd h5 (by decide))
   |(simp at h5;omega)
 cases UI with
 |cons w1 w2=>
  cases w2;cases w1 with
  |list ho uw=>exact⟨_,_,ns,rfl,rfl,ho,vq ns _ uw,b9⟩
theorem GQ(l:OpenLaw)(args:List WData):l.row.toRowW.claim.post args (.bool true) args=true:=
 postW_of (r:=l.row.toRowW) (X:=(true==true))
  (show WShape.has [] (.bool true) .bool=true by first|rfl|decide|simp[WShape.has,WShape.arms,WShape.armsAll])
  (show(WTm.eq .res (.lit (.bool true))).value [] {args:=args,res:=some (.bool true),after:=args}=some (.bool (true==true))from w_eq_bool (w_res rfl) w_lit) rfl
theorem BH{l:OpenLaw}{n:Nat}{q:Program}{loose:List Str}{XP:(Str->Option Value)->Heap->Prop}{YP:World->Heap->Prop}{d:DefRec}
  (hn:l.most=some n) (UJ:d.params.defaults=[])
  (call:∀(w:World) (f9 cZ:Shared) (mg mb:Str->Option Value) (fa:Addr) (o:Obj) (pm cd doc:Value) (a:Addr) (vs:List Value) (ns:List Int),
   Ground q loose [] XP w f9 mg mb cZ.heap->YP w cZ.heap->
   cZ.heap.get? fa=some o->o.data=.func (docDef d.name d.params d.body d.scope pm cd doc)->cZ.heap.CodeRec cd d.name->mg d.name=some (.ref fa)->
   cZ.heap.get? a=some {cls:=.type "list",data:=.seq vs.toArray}->IntsAre vs ns->ns.length<=n->cZ.gens=#[]->
   codeAny (model l.prog w) callerA (.call (.ref fa) ⟨[.ref a],[]⟩) (fun r s'=>r=.ok (.ret (.bool true))/\OldK cZ.heap s'.heap/\s'.os=cZ.os/\AllBare s'.gens) cZ):
  WalkO q loose XP YP l.row.toRowW d [] (fun f vs=>PySem.call f vs):=by
 intro w f9 cZ mg mb G ρ fa o pm cd doc dV kV ho hd DL hD UK hg args vals as Mt aa8 hrd UI hlo;obtain rfl:dV=.none:=Dflts.none hD UJ;obtain rfl:kV=.none:=Dflts.noKw hD;obtain⟨a,vs,ns,rfl,rfl,Qe,hints,b9⟩:=GP hn Mt UI;refine enter_call (codeAny_mono (call w f9 cZ mg mb fa o pm cd doc a vs ns G ρ ho (fd_plain hd) DL UK Qe hints b9 hg) fun r s' hq=>?_);obtain⟨rfl,h2,h3,h4⟩:=hq;exact⟨.inl ⟨.bool true,.bool true,[],rfl,fun _=>rfl,.bool true,GQ l _,fun _=>⟨List.Pairwise.nil,fun _ hm=>(nomatch hm)⟩⟩,h2,h3,h4⟩
end Att
namespace PySem
abbrev YC(h:Heap)(l1:Addr):Heap:=h.push {cls:=.type "tuple_iterator",data:=.fields #[.ref l1,.int 0 0]}
abbrev YD(h:Heap)(l1 l2:Addr):Heap:=(YC h l1).push {cls:=.type "tuple_iterator",data:=.fields #[.ref l2,.int 0 0]}
abbrev YE(h:Heap)(l1 l2:Addr):Heap:=(YD h l1 l2).push {cls:=.type "tuple",data:=.seq #[.ref h.objs.size,.ref (YC h l1).objs.size]}
abbrev YF(h:Heap)(l1 l2:Addr):Heap:=(YE h l1 l2).push {cls:=.type "tuple",data:=.seq #[.none,.none]}
abbrev Ug(h:Heap)(l1 l2:Addr):Heap:=(YF h l1 l2).push {cls:=.type "zip",data:=.fields #[.none,.bool false,.bool false,.ref (YD h l1 l2).objs.size,.ref (YE h l1 l2).objs.size]}
theorem DM(l1 l2:Addr)(xs ys:Array Value):Meets (Builtin.«zip.__new__» ⟨[.type "zip",.ref l1,.ref l2],[]⟩)
  (fun _ R s=>s.heap.IsTuple l1 xs/\s.heap.IsTuple l2 ys/\R (.ok (.ret (.ref (YF s.heap l1 l2).objs.size))) {s with heap:=Ug s.heap l1 l2}):=
 .of_wp fun prog w A R s h=>by
  obtain⟨hp,g,d,tk,os⟩:=s;obtain⟨IG,Mu,h⟩:=h;have Qf:=sub_zip;have UL:Heap.IsTuple (Shared.heap ⟨hp,g,d,tk,os⟩) l1 xs:=IG;have hL2:Heap.IsTuple (Shared.heap ⟨hp.push {cls:=.type "tuple_iterator",data:=.fields #[.ref l1,.int 0 0]},g,d,tk,os⟩) l2 ys:=Mu.at fun o e=>Heap.get?_push_of_some _ e
  wp_walk using wpAny_pyIter_tuple UL,wpAny_pyIter_tuple hL2
  exact⟨_,rfl,h⟩
section
variable {prog:Program}{w:World}{A:Around}{E:Value->Shared->Prop}{s:Shared}
theorem GR{l1 l2:Addr}{xs ys:Array Value}{Q:Value->Shared->Prop}(IG:s.heap.IsTuple l1 xs)(Mu:s.heap.IsTuple l2 ys)
  (h:∀h',IsZip h' (s.heap.objs.size+4) (s.heap.objs.size+2) (s.heap.objs.size+3) .none->IsPair h' (s.heap.objs.size+2) (.ref s.heap.objs.size) (.ref (s.heap.objs.size+1))->
   IsPair h' (s.heap.objs.size+3) .none .none->h'.IsTupleIter s.heap.objs.size l1 0->h'.IsTupleIter (s.heap.objs.size+1) l2 0->(∀c o,s.heap.get? c=some o->h'.get? c=some o)->Q (.ref (s.heap.objs.size+4)) {s with heap:=h'}):
  wpAny (model prog w) A (call (.type "zip") [.ref l1,.ref l2]) Q E s:=by
 refine callType_new F.called_zip (by decide) (F.typeCall_zip_2 _ _) (F.newCall_zip_2 _ _) (fun obj=>F.args_object_init_3 obj _ _) F.entry_zip_new (DM l1 l2 xs ys) ⟨IG,Mu,?_⟩;have z1:(YC s.heap l1).objs.size=s.heap.objs.size+1:=Heap.size_push ..;have z2:(YD s.heap l1 l2).objs.size=s.heap.objs.size+2:=by rw[Heap.size_push,z1]
 have z3:(YE s.heap l1 l2).objs.size=s.heap.objs.size+3:=by rw[Heap.size_push,z2]
 have z4:(YF s.heap l1 l2).objs.size=s.heap.objs.size+4:=by rw[Heap.size_push,z3]
 have up:∀{h:Heap} {c:Addr} {o o':Obj},h.get? c=some o->(h.push o').get? c=some o:=fun e=>Heap.get?_push_of_some _ e;have g5:(Ug s.heap l1 l2).get? (YF s.heap l1 l2).objs.size=some _:=Heap.get?_push_size _ rfl;have g4:(Ug s.heap l1 l2).get? (YE s.heap l1 l2).objs.size=some _:=up (Heap.get?_push_size _ rfl);have g3:(Ug s.heap l1 l2).get? (YD s.heap l1 l2).objs.size=some _:=up (up (Heap.get?_push_size _ rfl));have g2:(Ug s.heap l1 l2).get? (YC s.heap l1).objs.size=some _:=up (up (up (Heap.get?_push_size _ rfl)));have g1:(Ug s.heap l1 l2).get? s.heap.objs.size=some _:=up (up (up (up (Heap.get?_push_size _ rfl))));show _/\_;rw[z2,z3,z4]at g5;rw[z1,z2]at g3;rw[z3]at g4;rw[z1]at g2;rw[z4];exact⟨⟨_,g5,rfl⟩,h _ g5 g3 g4 ⟨_,g1,rfl,rfl⟩ ⟨_,g2,rfl,rfl⟩ fun c o x=>up (up (up (up (up x))))⟩
end
end PySem
namespace PySem.SeqAt
open PySem PySem.Spec PySem.Calls PyProof.Rows PySem.MeetsSeq
theorem GS{M:Model}{A:Around}{E:Value->Shared->Prop}{s:Shared}{β:Type}(f:Nat->β->Sem (ForInStep β))(I:List Nat->β->Shared->Prop)(Q:β->Shared->Prop)
  (turn:∀x c9 b s,I (x::c9) b s->wpAny M A (f x b) (fun r s'=>match r with|.yield b'=>I c9 b' s'|.done b'=>Q b' s') E s)
  (fin:∀b s,I [] b s->Q b s) (n:Nat) (b:β) (h:I (List.range' 0 n) b s):wpAny M A (forIn [:n] b f) Q E s:=by
 rw[Std.Legacy.Range.forIn_eq_forIn_range'];simp only[Std.Legacy.Range.size,Nat.sub_zero,Nat.add_sub_cancel,Nat.div_one];exact wpAny_forIn_list f I Q turn fin _ b h
theorem yH(l:Addr)(a8:Array Value)(n:Nat)(dd:Option Addr)(sl:Array (Option Value))(x:Value)(e:Value->Bool)(j:Nat)(hj:j<a8.size)(hit:e a8[j]=true)(IP:∀m (hm:m<a8.size),m<j->e a8[m]=false):
  Meets (Builtin.«tuple.index» ⟨[.ref l,x],[]⟩)
   (fun A R s=>s.heap.get? l=some {cls:=.type "tuple",dict:=dd,data:=.seq a8 n,slots:=sl}/\(∀y,y∈a8->EqAt A.in1 s y x (e y))/\R (.ok (.ret (.int j s.toks))) {s with toks:=s.toks+1}):=
 .of_wp fun prog w A R s h=>by
  obtain⟨hp,g,d,tk,os⟩:=s;obtain⟨hl,he,h⟩:=h
  wp_walk using wpAny_loadPart' hl,GS _ (fun c9 (b:Option _×Unit) s'=>b.1=none/\s'=⟨hp,g,d,tk,os⟩/\∃i,c9=List.range' i (a8.size - i)/\i<=j) _
  case turn=>
   rintro y c9 b s' ⟨hb,rfl,i,hr,hi⟩
   have f_:i<a8.size:=Nat.lt_of_le_of_lt hi hj;obtain⟨rfl,UM⟩:y=i/\c9=List.range' (i+1) (a8.size - (i+1)):=by
    have e:a8.size - i=(a8.size - (i+1))+1:=by omega
    rw[e,List.range'_succ]at hr;injection hr with h1 h2
    exact⟨h1,h2⟩
   rw[Array.getElem?_eq_getElem f_];refine wpAny_bind (he _ (Array.getElem_mem f_) prog w _ _ ?_);by_cases z:y=j
   ·subst z;rw[hit]
    wp_walk
    exact⟨_,rfl,h⟩
   ·rw[IP y f_ (by omega)]
    wp_walk
    exact⟨rfl,rfl,y+1,UM,by omega⟩
  case fin=>
   rintro b s' ⟨hb,rfl,i,hr,hi⟩
   have e:a8.size - i=(a8.size - (i+1))+1:=by omega
   rw[e,List.range'_succ]at hr;exact nomatch hr
  case h=>exact⟨rfl,rfl,0,by rw[Nat.min_self,Nat.sub_zero],Nat.zero_le _⟩
end PySem.SeqAt
namespace HT
open PySem PyProof.Rows
section
variable {prog:Program}{w:World}{A:Around}{E:Value->Shared->Prop}{s:Shared}
theorem qM{t sl:Addr}{a8:Array Value}{vl vu:Value}{lo hi:Option Int}{Q:Value->Shared->Prop}(ht:IsTup s.heap t a8)(hs:s.heap.IsSliceOf sl vl vu .none)(pl:IsPart vl lo)(pu:IsPart vu hi)
  (hw:g8 a8.size 0 lo=0/\g8 a8.size a8.size hi=a8.size) (h:Q (.ref t) s):wpAny (model prog w) A (getItem (.ref t) (.ref sl)) Q E s:=by
 obtain⟨os,Qd,YB,UH⟩:=id hs;have Zh:s.TypeIs (.ref sl) "slice":=⟨os,Qd,YB⟩;unfold getItem
 try with_reducible refine wpAny_holding ?_
 first|refine wpAny_bind (wpAny_pure ?_)|skip
 refine wpAny_bind (wpAny_sequenceKey ht.typeIs (by decide) ?_);refine wpAny_bind (wpAny_callSpecial?_slot (name:=Str.ofString "__getitem__") ht.typeIs PyProof.Rows.slot_tuple_getitem
  (wpAny_call_entry PyProof.Rows.slot_tuple_getitem ht.typeIs entry_tuple_getitem ?_ (args_tuple_getitem _ _)))
 show wpAny _ _ (Builtin.Tuple.tupleItemsOf (.ref t)>>=_) _ _ s;refine wpAny_bind (tupleItemsOf_ ht ?_);refine wpAny_bind (wpAny_typeOf Zh ?_);rw[if_pos (by decide)];refine wpAny_bind (mj hs pl pu ?_);have Zj:((((g8 a8.size 0 lo:Nat):Int)==0&&(1:Int)==1&&(g8 a8.size a8.size hi - g8 a8.size 0 lo)==a8.size)=true):=by
  rw[hw.1,hw.2];simp
 show wpAny _ _ (if(((g8 a8.size 0 lo:Nat):Int)==0&&(1:Int)==1&&(g8 a8.size a8.size hi - g8 a8.size 0 lo)==a8.size)=true then _ else _) _ _ s;rw[if_pos Zj];refine wpAny_bind (m:=Builtin.Tuple.tupleIsExact (.ref t)) ?_
 show wpAny _ _ (typeOf (.ref t)>>=_) _ _ s;refine wpAny_bind (wpAny_typeOf ht.typeIs (wpAny_pure ?_));rw[if_pos (by decide)];exact wpAny_bind (wpAny_rule (wpAny_pure ⟨_,rfl,wpAny_pure h⟩))
end
end HT
namespace L2
open PySem.W (Frag)
open PySem PySem.Spec PyProof.Rows
variable {aa:Heap}{ae:Unit->Shared->Prop}{af:Value}{ag:Type}{ah aj:List Stmt}{ai:Stmt}{ak:Array Value}{am:Expr}{aq:List Value}{au:Addr}{av:Str}{aw:Result->Shared->Prop}{ax:Scope}{ay:String}{az:List Expr}{aK:Option Value->Shared->Prop}
variable {K:Frag}{U:List (Addr×Obj)}{pos p b8:Pos}{E Q:Value->Shared->Prop}{es:List Expr}{e tg o:Expr}{s:Shared}{a:Addr}{x:Str}{w:World}{A:Around}{mg:Str->Option Value}{i:Nat}{P:Program}{ps:List Str}
theorem fe{p:Prop}(h:False):p:=h.elim
abbrev Db(x:Str):Prop:=(x==("__debug__":Str))=false
abbrev sP(pos b8:Pos)(o:Expr)(m:Str)(es:List Expr)(env:Env)(pl:Sem Bool):Sem Value:=do
 let ov<-eval o env
 standAt b8.atName
 let(f,first)<-holding [ov] (getMethod ov m pl)
 callWith pos f first (backTo pos (starEach es env)) (backToKw pos (keywordEach [] env))
abbrev Key:=Sum Int Str
def ml:Key->Value->Bool
 |.inl k,v=>Value.isInt k v
 |.inr x,v=>Value.isStrOf x v
def Zk(w:World):Key->Int
 |.inl k=>hashInt k
 |.inr x=>hashStr w x
theorem dD:∀{k:Key} {v:Value},ml k v=true->(∃i t,k=Sum.inl i/\v=Value.int i t)\/(∃x t,k=Sum.inr x/\v=Value.str x t)
 |.inl i,v,h=>by
  obtain⟨t,e⟩:=Value.isInt_shape (k:=i) (v:=v) h;exact .inl ⟨i,t,rfl,e⟩
 |.inr x,v,h=>by
  obtain⟨t,e⟩:=Value.isStrOf_shape (x:=x) (v:=v) h;exact .inr ⟨x,t,rfl,e⟩
theorem GU(i:Int)(t:Tok):ml (.inl i) (.int i t)=true:=by simp[ml,Value.isInt]
theorem GV(x:Str)(t:Tok):ml (.inr x) (.str x t)=true:=by simp[ml,Value.isStrOf]
theorem Qg(a b:Int):decide ((Sum.inl a:Key)=Sum.inl b)=(a==b):=by
 by_cases e:a=b
 ·subst e;simp
 ·have h:¬(Sum.inl a:Key)=Sum.inl b:=fun q=>e (Sum.inl.inj q);rw[fh h];exact(iW.mpr e).symm
theorem Qh(a b:Str):decide ((Sum.inr a:Key)=Sum.inr b)=decide (a=b):=by
 by_cases e:a=b
 ·subst e;simp
 ·have h:¬(Sum.inr a:Key)=Sum.inr b:=fun q=>e (Sum.inr.inj q);rw[fh h,fh e]
theorem Qi(a:Int)(b:Str):decide ((Sum.inl a:Key)=Sum.inr b)=false:=fh (fun q=>nomatch q)
theorem Qj(a:Str)(b:Int):decide ((Sum.inr a:Key)=Sum.inl b)=false:=fh (fun q=>nomatch q)
def bY(prog:Program)(w:World):PySem.KeyKind prog w Key where
 is:=ml
 hash:=Zk w
 inj:=fun v a b ha hb=>by
  rcases dD ha with⟨i,t,rfl,rfl⟩|⟨x,t,rfl,rfl⟩
  ·rcases dD hb with⟨j,u,rfl,e⟩|⟨y,u,rfl,e⟩
   ·injection e with e1 _;rw[e1]
   ·exact nomatch e
  ·rcases dD hb with⟨j,u,rfl,e⟩|⟨y,u,rfl,e⟩
   ·exact nomatch e
   ·injection e with e1 _;rw[e1]
 byValue:=fun k v h=>by
  rcases dD h with⟨i,t,rfl,rfl⟩|⟨x,t,rfl,rfl⟩<;>rfl
 pyHash:=fun hv h=>by
  rcases dD hv with⟨i,t,rfl,rfl⟩|⟨x,t,rfl,rfl⟩
  ·exact wpAny_pyHash_int h
  ·exact wpAny_pyHash_str h
 eqBool:=fun hu hv h=>by
  rcases dD hu with⟨i,t,rfl,rfl⟩|⟨x,t,rfl,rfl⟩
  ·rcases dD hv with⟨j,u,rfl,rfl⟩|⟨y,u,rfl,rfl⟩
   ·rw[Qg]at h;exact wpAny_eqBool_int h
   ·rw[Qi]at h;exact SeqAt.EqAt.int_str i t y u _ _ _ _ h
  ·rcases dD hv with⟨j,u,rfl,rfl⟩|⟨y,u,rfl,rfl⟩
   ·rw[Qj]at h;exact SeqAt.EqAt.str_int x t j u _ _ _ _ h
   ·rw[Qh]at h;exact wpAny_eqBool_str h
 «strs»:=fun k x t v h=>by
  rcases dD h with⟨i,u,rfl,e⟩|⟨y,u,rfl,e⟩
  ·exact nomatch e
  ·injection e with e1 _
   subst e1;cases v<;>rfl
theorem BI(prog:Program)(w:World)(i:Int)(t:Tok):(bY prog w).is (.inl i) (.int i t)=true:=GU i t
theorem BJ(prog:Program)(w:World)(x:Str)(t:Tok):(bY prog w).is (.inr x) (.str x t)=true:=GV x t
set_option genInjectivity true in
inductive V where
 |cu|bl (b:Bool)|int (i:Int)|str (x:Str)|O0 (b:Array UInt8)|GW (b:UInt64)|ref (a:Addr)|ty (n:String)
 deriving DecidableEq
variable {ar:List V}
variable {kvs:List (Key×V)}
def RelV:V->Value->Prop
 |.cu,u=>u=Value.none
 |.bl b,u=>u=Value.bool b
 |.int i,u=>∃t,u=Value.int i t
 |.str x,u=>∃t,u=Value.str x t
 |.O0 b,u=>∃t,u=Value.bytes b t
 |.GW b,u=>∃t,u=Value.float b t
 |.ref a,u=>u=Value.ref a
 |.ty n,u=>u=Value.type n
abbrev Vals:List V->List Value->Prop:=Paired RelV
theorem Vals.length {xs:List V}{us:List Value}(r:Vals xs us):xs.length=us.length:=Paired.length r
theorem Vals.get:∀{xs:List V} {us:List Value} {i:Nat} {x:V},Vals xs us->xs[i]?=some x->∃u,us[i]?=some u/\RelV x u
 |_,_,_,_,.nil,e=>by simp at e
 |_,_,0,_,.cons r _,e=>by simp at e;subst e;exact⟨_,rfl,r⟩
 |_,_,i+1,x,.cons _ t,e=>by
  obtain⟨u,h1,h2⟩:=Vals.get (i:=i) (x:=x) t (by simpa using e);exact⟨u,by simpa using h1,h2⟩
theorem Vals.set {x:V}{u:Value}(r:RelV x u):∀{xs:List V} {us:List Value} (i:Nat),Vals xs us->Vals (xs.set i x) (us.set i u)
 |_,_,_,.nil=>.nil
 |_,_,0,.cons _ t=>.cons r t
 |_,_,i+1,.cons q t=>.cons q (Vals.set r i t)
theorem Vals.append:∀{xs ys:List V} {us ws:List Value},Vals xs us->Vals ys ws->Vals (xs++ys) (us++ws)
 |_,_,_,_,.nil,s=>s
 |_,_,_,_,.cons r t,s=>.cons r (Vals.append t s)
theorem Vals.take:∀{xs:List V} {us:List Value} (n:Nat),Vals xs us->Vals (xs.take n) (us.take n)
 |_,_,0,_=>.nil
 |_,_,_+1,.nil=>.nil
 |_,_,n+1,.cons r t=>.cons r (Vals.take n t)
theorem Vals.drop:∀{xs:List V} {us:List Value} (n:Nat),Vals xs us->Vals (xs.drop n) (us.drop n)
 |_,_,0,r=>r
 |_,_,_+1,.nil=>.nil
 |_,_,n+1,.cons _ t=>Vals.drop n t
def lG:Option V->Option Value->Prop
 |some v,some u=>RelV v u
 |none,none=>True
 |_,_=>False
def KV{κ:Type}:List (κ×V)->List (κ×Value)->Prop:=Paired fun(p:κ×V) (q:κ×Value)=>p.1=q.1/\RelV p.2 q.2
def kV:Key->V
 |.inl i=>.int i
 |.inr x=>.str x
inductive HO where
 |lst (xs:List V)
 |tup (xs:List V)
 |dK (kvs:List (Key×V))|dT (kvs:List (List Key×V))
 |set (S:Int->Bool) (n:Nat)
 |ins (C dx:Addr) (fs:List (Str×V))
 |own (x:Addr)
 |xd (fs:List (Str×V))
 |met (f x:Addr)
 |YG (lo hi:Int)
 |kR (o:Obj) (u:HO)
 |O1 (ps:Array Value)
 |ext (φ:Heap->Prop)
abbrev Hp:=Addr->Option HO
variable {ac:Hp}
variable {H:Hp}
def upd(H:Hp)(a:Addr)(o:HO):Hp:=fun b=>if b=a then some o else H b
theorem bG{o:HO}:upd H a o a=some o:=by unfold upd;rw[aS rfl]
theorem bb{b:Addr}{o:HO}(h:b≠a):upd H a o b=H b:=by unfold upd;rw[aW h]
theorem UN{b:Addr}{o u:HO}(h:H a=some o)(h':H b=some u)(d:o≠u):a≠b:=by
 intro e;subst e;rw[h]at h';exact d (Option.some.inj h')
theorem bM{b:Addr}{o:HO}(h:H a=some o)(h':H b=none):a≠b:=by
 intro e;subst e;rw[h]at h';cases h'
section
variable (P:Program)(w:World)
def cR(H:Hp)(h:Heap)(a:Addr):HO->Prop
 |.lst xs=>xs.length<=sizeLine/\∃(cc:List Value) (n:Nat),Vals xs cc/\h.get? a=some {cls:=.type "list",data:=.seq cc.toArray n}
 |.tup xs=>xs.length<=sizeLine/\∃cc:List Value,Vals xs cc/\IsTup h a cc.toArray
 |.dK kvs=>kvs.length<=sizeLine/\(a==sysModules)=false/\∃vs,KV kvs vs/\h.DictOf (bY P w) a vs
 |.dT kvs=>kvs.length<=sizeLine/\(a==sysModules)=false/\∃xs:List (List Key×Addr×Value),
   Paired (fun(p:List Key×V) (q:List Key×Addr×Value)=>p.1=q.1/\H q.2.1=some (.tup (p.1.map kV))/\RelV p.2 q.2.2) kvs xs/\
   ∃o es ep,h.get? a=some o/\o.ExactDict/\o.data=.dict es ep/\es.toList=xs.map (entryOfKey (tupleKind (bY P w)))/\(xs.map (·.1)).Nodup
 |.set S n=>h.SetOf (intKind P w) a S n
 |.ins C dx fs=>H dx=some (.own a)/\fs.length<=1000/\dx≠a/\h.get? a=some (PySem.W.instObj C dx)/\
   ∃mA,h.Ns1 dx mA/\(∀f,lG (fs.lookup f) (mA f))/\PySem.Within mA (fs.map (·.1))
 |.own _=>∃o,h.get? a=some o
 |.xd fs=>∃mA,h.Ns1 a mA/\∀f,lG (fs.lookup f) (mA f)
 |.YG lo hi=>∃t u v,h.get? a=some {cls:=.type "range",data:=.fields #[.int lo t,.int hi u,.int 1 v]}
 |.kR o u=>h.get? a=some o/\cR H h a u
 |.O1 ps=>h.get? a=some {cls:=.none,data:=.fields ps}
 |.met f x=>h.get? a=some (PySem.W.methodObj (.ref f) (.ref x))
 |.ext φ=>φ h/\(∃o,h.get? a=some o)/\∀h1 h2:Heap,φ h1->(∀o,h1.get? a=some o->h2.get? a=some o)->φ h2
def rB(H:Hp)(h:Heap):Prop:=∀a o,H a=some o->cR P w H h a o
end
section
variable {h':Heap}{o:HO}
theorem cR.lt (x:cR P w H aa a o):a<aa.objs.size:=by
 cases o with
 |lst xs=>obtain⟨_,_,_,_,e⟩:=x;exact bp e
 |tup xs=>obtain⟨_,_,_,p⟩:=x;exact p.lt
 |dK kvs=>obtain⟨_,_,_,_,o,_,_,e,_⟩:=x;exact bp e
 |dT kvs=>obtain⟨_,_,_,_,o,_,_,e,_⟩:=x;exact bp e
 |set S n=>obtain⟨o,_,_,_,e,_⟩:=x;exact bp e
 |ins C dx fs=>obtain⟨_,_,_,e,_⟩:=x;exact bp e
 |own y=>obtain⟨_,e⟩:=x;exact bp e
 |xd fs=>obtain⟨_,⟨_,_,_,e,_⟩,_⟩:=x;exact bp e
 |YG lo hi=>obtain⟨_,_,_,e⟩:=x;exact bp e
 |kR ob u=>obtain⟨e,_⟩:=x;exact bp e
 |O1 ps=>exact bp (show aa.get? a=some _ from x)
 |met f y=>exact bp (show aa.get? a=some _ from x)
 |ext φ=>obtain⟨_,⟨_,e⟩,_⟩:=x;exact bp e
theorem Paired.Qk {α β:Type}{F G:α->β->Prop}:∀{UO:List α} {z7:List β},Paired F UO z7->(∀a b,F a b->G a b)->Paired G UO z7
 |_,_,.nil,_=>.nil
 |_,_,.cons r t,f=>.cons (f _ _ r) (Paired.Qk t f)
theorem cR.o6 (x:cR P w H aa a o)(k:∀b u,(b=a\/H b=some (.own a))->aa.get? b=some u->h'.get? b=some u)
  (ho:∀b,H b=some (.own a)->ac b=some (.own a)) (ht:∀b xs,H b=some (.tup xs)->ac b=some (.tup xs)):cR P w ac h' a o:=by
 induction o with
 |lst xs=>obtain⟨z,cc,n,r,e⟩:=x;exact⟨z,cc,n,r,k _ _ (.inl rfl) e⟩
 |tup xs=>obtain⟨z,cc,r,ob,e,c⟩:=x;exact⟨z,cc,r,ob,k _ _ (.inl rfl) e,c⟩
 |dK kvs=>obtain⟨z,y,vs,r,ob,es,ep,e,c⟩:=x;exact⟨z,y,vs,r,ob,es,ep,k _ _ (.inl rfl) e,c⟩
 |dT kvs=>
  obtain⟨z,y,xs,r,ob,es,ep,e,c⟩:=x;exact⟨z,y,xs,Paired.Qk r fun p q z=>⟨z.1,ht _ _ z.2.1,z.2.2⟩,ob,es,ep,k _ _ (.inl rfl) e,c⟩
 |set S n=>obtain⟨ob,es,ep,t,e,c⟩:=x;exact⟨ob,es,ep,t,k _ _ (.inl rfl) e,c⟩
 |ins C dx fs=>
  obtain⟨d,z,ne,e,mA,⟨od,es,ep,e2,c⟩,r⟩:=x;exact⟨ho _ d,z,ne,k _ _ (.inl rfl) e,mA,⟨od,es,ep,k _ _ (.inr d) e2,c⟩,r⟩
 |own y=>obtain⟨ob,e⟩:=x;exact⟨ob,k _ _ (.inl rfl) e⟩
 |xd fs=>obtain⟨mA,⟨od,es,ep,e,c⟩,r⟩:=x;exact⟨mA,⟨od,es,ep,k _ _ (.inl rfl) e,c⟩,r⟩
 |YG lo hi=>obtain⟨t,u,v,e⟩:=x;exact⟨t,u,v,k _ _ (.inl rfl) e⟩
 |kR ob u ih=>obtain⟨e,q⟩:=x;exact⟨k _ _ (.inl rfl) e,ih q⟩
 |O1 ps=>
  have e:aa.get? a=some {cls:=.none,data:=.fields ps}:=x;show h'.get? a=some {cls:=.none,data:=.fields ps};exact k a _ (.inl rfl) e
 |met f y=>
  have e:aa.get? a=some (PySem.W.methodObj (.ref f) (.ref y)):=x;show h'.get? a=some (PySem.W.methodObj (.ref f) (.ref y));exact k a _ (.inl rfl) e
 |ext φ=>obtain⟨p,⟨o,e⟩,st⟩:=x;exact⟨st _ _ p fun o q=>k _ _ (.inl rfl) q,⟨o,k _ _ (.inl rfl) e⟩,st⟩
theorem rB.lt (x:rB P w H aa)(e:H a=some o):a<aa.objs.size:=(x a o e).lt
theorem rB.fresh (x:rB P w H aa)(e:aa.objs.size<=a):H a=none:=by
 cases q:H a with
 |none=>rfl
 |some u=>exact absurd (cU (x.lt q) e) (eC _)
theorem rB.kept (x:rB P w H aa)(k:∀b u,aa.get? b=some u->h'.get? b=some u):rB P w H h':=fun a o e=>
 (x a o e).o6 (fun b u _ q=>k b u q) (fun _ q=>q) fun _ _ q=>q
theorem rB.laid (x:rB P w H aa)(k:∀b u,aa.get? b=some u->h'.get? b=some u)(hp:aa.objs.size<=a)(new:cR P w (upd H a o) h' a o):rB P w (upd H a o) h':=fun b u e=>by
 have hn:=x.fresh hp;by_cases hb:b=a
 ·subst hb;rw[bG]at e;cases e;exact new
 ·rw[bb hb]at e;exact(x b u e).o6 (fun c v _ q=>k c v q) (fun c q=>by rw[bb (bM q hn)];exact q) fun c xs q=>by rw[bb (bM q hn)];exact q
end
def Rd(H:Hp)(a:Addr)(u:HO):Prop:=H a=some u\/∃o,H a=some (.kR o u)
theorem Rd.ok {h:Heap}{u:HO}(r:Rd H a u)(x:rB P w H h):cR P w H h a u:=by
 rcases r with r|⟨o,r⟩
 ·exact x a u r
 ·obtain⟨_,q⟩:=x a _ r;exact q
def UP:Option HO->Prop
 |some (.lst _)=>True
 |some (.dK _)=>True
 |some (.dT _)=>True
 |some (.set _ _)=>True
 |some (.ins _ _ _)=>True
 |some (.ext _)=>True
 |_=>False
section
variable {h':Heap}{x e:Addr}{o':HO}
theorem rB.write (ok:rB P w H aa)(mu:UP (H x))(he:e=x\/H e=some (.own x))(k:∀b u,b≠e->aa.get? b=some u->h'.get? b=some u)(Uh:∃u,h'.get? e=some u)
  (new:cR P w (upd H x o') h' x o'):rB P w (upd H x o') h':=fun b u q=>by
 have UQ:∀c y,H c=some (.own y)->c≠x:=fun c y r z=>by subst z;rw[r]at mu;exact mu
 have Zl:∀c xs,H c=some (.tup xs)->c≠x:=fun c xs r z=>by subst z;rw[r]at mu;exact mu
 by_cases hb:b=x
 ·subst hb;rw[bG]at q;cases q;exact new
 ·rw[bb hb]at q;by_cases Ql:b=e
  ·have q':H b=some (.own x):=by
    rcases he with z|z
    ·exact absurd (Ql.trans z) hb
    ·rw[Ql];exact z
   rw[q]at q';cases q';obtain⟨v,hv⟩:=Uh;exact⟨v,by rw[Ql];exact hv⟩
  ·refine(ok b u q).o6 (fun c v hc r=>k c v ?_ r) (fun c r=>by rw[bb (UQ c b r)];exact r) fun c xs r=>by rw[bb (Zl c xs r)];exact r
   rcases hc with rfl|hc
   ·exact Ql
   ·rintro rfl
    rcases he with z|z
    ·exact UQ c b hc z
    ·rw[hc]at z;cases z;exact hb rfl
end
structure Un(fs ex:List Addr)(H H':Hp)(h h':Heap):Prop where
 keep:∀b o,h.get? b=some o->H b=none->b∉fs->b∉ex->h'.get? b=some o
 slot:∀b o,h.get? b=some o->H b=none->b∈fs->b∉ex->∃sl,h'.get? b=some {o with slots:=sl}
 free:∀b o,h.get? b=some o->H b=none->b∉ex->H' b=none
 there:∀b o,h.get? b=some o->b∉ex->∃o',h'.get? b=some o'
 mn:∀b xs,H b=some (.tup xs)->H' b=some (.tup xs)
 kT:∀b o u,H b=some (.kR o u)->H' b=some (.kR o u)
 m6:∀b ps,H b=some (.O1 ps)->∃more,H' b=some (.O1 (ps++more))
section
variable {fs fs' ex ex':List Addr}{H2:Hp}{h h2 h':Heap}{x e:Addr}{o:HO}
theorem Un.any (u:Un fs ex H ac h aa){b:Addr}{ob:Obj}(q:h.get? b=some ob)(n:H b=none)(hx:b∉ex):∃sl,aa.get? b=some {ob with slots:=sl}:=by
 by_cases hb:b∈fs
 ·exact u.slot b ob q n hb hx
 ·exact⟨ob.slots,u.keep b ob q n hb hx⟩
theorem Un.trans (a:Un fs ex H ac h aa)(b:Un fs ex ac H2 aa h2):Un fs ex H H2 h h2 where
 keep:=fun c ob q n hc hx=>b.keep c ob (a.keep c ob q n hc hx) (a.free c ob q n hx) hc hx
 slot:=fun c ob q n hc hx=>by
  obtain⟨sl,e1⟩:=a.slot c ob q n hc hx;obtain⟨UR,e2⟩:=b.slot c _ e1 (a.free c ob q n hx) hc hx;exact⟨UR,e2⟩
 free:=fun c ob q n hx=>by
  obtain⟨o',e1⟩:=a.there c ob q hx;exact b.free c o' e1 (a.free c ob q n hx) hx
 there:=fun c ob q hx=>by
  obtain⟨o',e1⟩:=a.there c ob q hx;exact b.there c o' e1 hx
 mn:=fun c xs q=>b.mn c xs (a.mn c xs q)
 kT:=fun c ob xs q=>b.kT c ob xs (a.kT c ob xs q)
 m6:=fun c ps q=>by
  obtain⟨m1,e1⟩:=a.m6 c ps q;obtain⟨m2,e2⟩:=b.m6 c _ e1;exact⟨m1++m2,by rw[e2,Array.append_assoc]⟩
theorem Un.kept (k:∀b u,h.get? b=some u->h'.get? b=some u):Un fs ex H H h h':=
 ⟨fun b ob q _ _ _=>k b ob q,fun b ob q _ _ _=>⟨ob.slots,k b ob q⟩,fun _ _ _ n _=>n,fun b ob q _=>⟨ob,k b ob q⟩,fun _ _ q=>q,fun _ _ _ q=>q,fun _ ps q=>⟨#[],by rw[q];simp⟩⟩
theorem Un.refl:Un fs ex H H h h:=Un.kept fun _ _ q=>q
theorem Un.laid (k:∀b u,h.get? b=some u->h'.get? b=some u)(hp:h.objs.size<=a)(hn:H a=none):Un fs ex H (upd H a o) h h' where
 keep:=fun b u q _ _ _=>k b u q
 slot:=fun b u q _ _ _=>⟨u.slots,k b u q⟩
 free:=fun b u q n _=>by rw[bb (bS (cU (bp q) hp))];exact n
 there:=fun b u q _=>⟨u,k b u q⟩
 mn:=fun b xs q=>by rw[bb (bM q hn)];exact q
 kT:=fun b u xs q=>by rw[bb (bM q hn)];exact q
 m6:=fun b ps q=>⟨#[],by rw[bb (bM q hn),q];simp⟩
theorem Un.write (mu:UP (H x))(he:e=x\/H e=some (.own x))(k:∀b u,b≠e->h.get? b=some u->h'.get? b=some u)(Uh:∃u,h'.get? e=some u):Un fs ex H (upd H x o) h h':=by
 have hx:∀b,H b=none->b≠x:=fun b n z=>by subst z;rw[n]at mu;exact mu
 have hb:∀b,H b=none->b≠e:=fun b n z=>by
  subst z;rcases he with r|r
  ·exact hx b n r
  ·rw[n]at r;cases r
 have hm:∀b u,H b=some u->¬UP (some u)->b≠x:=fun b u q nm z=>by subst z;rw[q]at mu;exact nm mu
 refine⟨fun b u q n _ _=>k b u (hb b n) q,fun b u q n _ _=>⟨u.slots,k b u (hb b n) q⟩,fun b u q n _=>by rw[bb (hx b n)];exact n,fun b u q _=>?_,
  fun b xs q=>by rw[bb (hm b _ q fun z=>z)];exact q,fun b u xs q=>by rw[bb (hm b _ q fun z=>z)];exact q,fun b ps q=>⟨#[],by rw[bb (hm b _ q fun z=>z),q];simp⟩⟩
 by_cases Ql:b=e
 ·subst Ql;exact Uh
 ·exact⟨u,k b u Ql q⟩
end
def YH(h:Heap)(H:Hp):List Addr:=(List.range h.objs.size).filter fun a=>(H a).isSome
def z8(h:Heap)(H:Hp):Heap:=PySem.W.hideAll h (YH h H)
theorem GX(h:Heap)(H:Hp):(z8 h H).objs.size=h.objs.size:=PySem.W.hideAll_size _ _
theorem IQ{o:Obj}(e:aa.get? a=some o)(n:H a=none):(z8 aa H).get? a=some o:=
 lZ _ e fun hm=>by
  have q:(H a).isSome=true:=(fY.mp hm).2;rw[n]at q;simp at q
theorem Mv{h:Heap}{o:Obj}(e:(z8 h H).get? a=some o):h.get? a=some o/\H a=none:=by
 have e':h.get? a=some o:=l0 (YH h H) e;refine⟨e',?_⟩;cases q:H a with
 |none=>rfl
 |some x=>
  have hm:a∈YH h H:=fY.mpr ⟨sG.mpr (bp e'),by simp[q]⟩;have z:(z8 h H).get? a=none:=kY (YH h H) hm;rw[z]at e;cases e
structure Mod(K:Frag)(mg:Str->Option Value)(base:Heap):Prop where
 O2:K.In base
 glob:base.Ns mainGlobals mg
 blt:∃mb,base.Ns builtinsNs mb/\∀x:Str,x≠"__name__"->mb x=bootBuiltins x
 nolimit:base.NoLimit
structure Cx where
 prog:Program
 w:World
 K:Frag
 mg:Str->Option Value
 base:Heap
 A:Around
 N:List Str
 f9:Shared
 BK:Hp
 env:Env
 outer:List Env
 stack:List Env
 ex:List Addr
 fn:Str->Bool
 calm:Bool
 pn:List (Addr×Obj)
 xe:Value->Shared->Prop
variable {X:Cx}
abbrev yE(X:Cx)(x:Str):Prop:=X.fn x=true\/X.env.scope.names.lookup x=some .local
def jG(l:List Env):List Addr:=l.filterMap (·.frame)
abbrev Cx.fs (X:Cx):List Addr:=jG X.outer
def YI(sc:Scope)(x:Str):Prop:=sc.names.lookup x=some .local\/sc.names.lookup x=some .cell\/sc.names.lookup x=some .free
def Loc(sc:Scope)(x:Str):Prop:=sc.names.lookup x=some .local\/sc.names.lookup x=some .cell
def Look(env:Env)(h:Heap)(m:Str->Option Value)(x:Str)(u:Value):Prop:=
 (env.kindOf x=some .local/\m x=some u)\/((env.kindOf x=some .cell\/env.kindOf x=some .free)/\∃c,env.cells.lookup x=some c/\h.IsCell c (some u))
structure Cx.Ok (X:Cx):Prop where
 mod:Mod X.K X.mg X.base
 kind:X.env.scope.kind=.function
 glob:X.env.globals=mainGlobals
 blt:X.env.builtins=builtinsNs
 above:X.f9.heap.objs.size<=X.env.locals
 inj:∀x y c,X.env.cells.lookup x=some c->X.env.cells.lookup y=some c->x=y
 has:∀x,(X.env.kindOf x=some .cell\/X.env.kindOf x=some .free)->∃c,X.env.cells.lookup x=some c
 O3:∀x c,X.fn x=true->X.env.cells.lookup x=some c->X.f9.heap.objs.size<=c
 hd:X.calm=true->X.A.handled=none
 frames:X.A.frames=some X.stack
 Mh:X.stack=X.outer\/(X.stack=X.env::X.outer/\X.env.frame=some X.env.locals)
 Ui:∀b∈X.ex,b≠X.env.locals/\∀x c,X.env.cells.lookup x=some c->c≠b
 bs:∀b o,X.base.get? b=some o->X.f9.heap.get? b=some o/\X.BK b=none
 GY:X.base.objs.size<=X.f9.heap.objs.size
 z9:∀b o,X.base.get? b=some o->b∉X.ex
 BL:∀b∈X.ex,b∉X.fs
 qN:X.f9.heap.FunFrames X.base X.outer
 IS:∀b∈X.fs,X.BK b=none
structure Inv(X:Cx)(U:List (Addr×Obj))(Z:List (Option V))(H:Hp)(s:Shared):Prop where
 ok:X.Ok
 os:s.os=X.f9.os
 bare:AllBare s.gens
 base:Un X.fs X.ex X.BK H X.f9.heap s.heap
 loc:∃m,s.heap.Ns X.env.locals m/\∀(i:Nat) (x:Str) (v:V),X.N[i]?=some x->Z[i]?=some (some v)->YI X.env.scope x->∃u,RelV v u/\Look X.env s.heap m x u
 cell:∀x c,X.env.cells.lookup x=some c->∃v,s.heap.IsCell c v
 free:H X.env.locals=none
 fI:∀x c,X.env.cells.lookup x=some c->H c=none
 pin:∀p∈X.pn++U,s.heap.get? p.1=some p.2/\H p.1=none/\p.1≠X.env.locals/\p.1∉X.fs/\∀v,p.2.data≠ .cell v
 cP:rB X.prog X.w H s.heap
 len:Z.length=X.N.length
section
variable {Z:List (Option V)}{H':Hp}{h':Heap}
theorem Cx.Ok.Zm (ok:X.Ok){b:Addr}{o:Obj}(e:X.base.get? b=some o):b∉X.fs:=fun hb=>by
 have:=(ok.qN.mem hb).1;rw[e]at this;cases this
theorem Inv.bs (I:Inv X U Z H s):∀b o,X.base.get? b=some o->s.heap.get? b=some o/\H b=none:=fun b o e=>
 ⟨I.base.keep b o (I.ok.bs b o e).1 (I.ok.bs b o e).2 (I.ok.Zm e) (I.ok.z9 b o e),I.base.free b o (I.ok.bs b o e).1 (I.ok.bs b o e).2 (I.ok.z9 b o e)⟩
theorem Inv.bk (I:Inv X U Z H s):∀b o,X.base.get? b=some o->s.heap.get? b=some o:=fun b o e=>(I.bs b o e).1
theorem Inv.mod (I:Inv X U Z H s):Mod X.K X.mg X.base:=I.ok.mod
theorem Inv.lH (I:Inv X U Z H s):X.K.In s.heap:=I.ok.mod.O2.keeps I.bk
theorem Inv.fr (I:Inv X U Z H s):∃m,Fr X.base X.env.locals s.heap m:=
 let⟨m,hn,_⟩:=I.loc
 ⟨m,hn,I.bk,cw I.ok.GY I.ok.above⟩
theorem Inv.lt (I:Inv X U Z H s):X.env.locals<s.heap.objs.size:=let⟨_,hn,_⟩:=I.loc;hn.lt
theorem Inv.sz (I:Inv X U Z H s):X.f9.heap.objs.size<=s.heap.objs.size:=cw I.ok.above (dA I.lt)
theorem Inv.US (I:Inv X U Z H s)(h:s.heap.objs.size<=a):a∉X.fs:=fun hb=>by
 obtain⟨_,o,ho,_⟩:=I.ok.qN.mem hb;exact absurd (cU (bp ho) (cw I.sz h)) (eC _)
theorem Inv.GZ (I:Inv X U Z H s):∀x c,X.env.cells.lookup x=some c->c≠X.env.locals:=fun x c e z=>by
 obtain⟨v,o,ho,hd⟩:=I.cell x c e;obtain⟨m,⟨o',es,ep,Mw,Mx,_⟩,_⟩:=I.loc;rw[z,Mw]at ho;cases ho;rw[Mx]at hd;cases hd
theorem Inv.qN (I:Inv X U Z H s):s.heap.FunFrames X.base X.outer:=by
 have all:∀(l:List Env),(∀b∈jG l,b∈X.fs)->X.f9.heap.FunFrames X.base l->s.heap.FunFrames X.base l:=by
  intro l
  induction l with
  |nil=>intro _ _;trivial
  |cons env r ih=>
   intro hs hl;obtain⟨hk,⟨L,o,hf,hn,ho,hd⟩,hr⟩:=hl;have hL:L∈X.fs:=hs L (by unfold jG;rw[ou,hf];exact cp);obtain⟨sl,e⟩:=I.base.slot L o ho (I.ok.IS L hL) hL fun z=>I.ok.BL L z hL;exact⟨hk,⟨L,_,hf,hn,e,hd⟩,ih (fun b hb=>hs b (by unfold jG;rw[ou,hf];exact b_ _ hb)) hr⟩
 exact all X.outer (fun _ hb=>hb) I.ok.qN
theorem Inv.stack (I:Inv X U Z H s):s.heap.FunFrames X.base X.stack:=by
 rcases I.ok.Mh with e|⟨e,hf⟩
 ·rw[e];exact I.qN
 ·rw[e];obtain⟨m,hn,_⟩:=I.loc;refine .cons (by rw[I.ok.kind];decide) hf hn ?_ I.qN
  exact Heap.get?_none_of_le (cw I.ok.GY I.ok.above)
theorem Inv.wO (I:Inv X U Z H s):∀b∈jG X.stack,b∈X.env.locals::X.fs:=fun b hb=>by
 rcases I.ok.Mh with e|⟨e,hf⟩
 ·rw[e]at hb;exact b_ _ hb
 ·rw[e]at hb;unfold jG at hb;rw[ou,hf]at hb;exact hb
theorem Inv.vJ (I:Inv X U Z H s):∀b∈jG X.stack,H b=none:=fun b hb=>by
 rcases bB.mp (I.wO b hb)with e|hb
 ·rw[e];exact I.free
 ·obtain⟨_,o,ho,_⟩:=I.ok.qN.mem hb;exact I.base.free b o ho (I.ok.IS b hb) fun z=>I.ok.BL b z hb
theorem Inv.step {g':Array GenState}{t':Nat}{d':Drawn}{ch:List Addr}(I:Inv X U Z H s)
  (y1:∀b∈ch,(b∈X.ex\/X.f9.heap.objs.size<=b)/\b≠X.env.locals/\(∀x c,X.env.cells.lookup x=some c->c≠b)/\∀p∈X.pn++U,p.1≠b)
  (keep:∀b o,b≠X.env.locals->b∉X.fs->b∉ch->s.heap.get? b=some o->H b=none->h'.get? b=some o)
  (slot:∀b o,b≠X.env.locals->b∈X.fs->b∉ch->s.heap.get? b=some o->H b=none->∃sl,h'.get? b=some {o with slots:=sl}) (free:∀b o,b∉ch->s.heap.get? b=some o->H b=none->H' b=none)
  (there:∀b o,b∉ch->s.heap.get? b=some o->∃o',h'.get? b=some o')
  (mn:∀b xs,H b=some (.tup xs)->H' b=some (.tup xs)) (kT:∀b o u,H b=some (.kR o u)->H' b=some (.kR o u)) (m6:∀b ps,H b=some (.O1 ps)->∃more,H' b=some (.O1 (ps++more)))
  (ns:∀m,s.heap.Ns X.env.locals m->h'.Ns X.env.locals m) (cP:rB X.prog X.w H' h') (hg:AllBare g'):
  Inv X U Z H' {s with heap:=h',gens:=g',drawn:=d',toks:=t'}:=by
 have neL:∀b o,X.f9.heap.get? b=some o->b≠X.env.locals:=fun b o e=>bS (cU (bp e) I.ok.above);have My:∀b o,X.f9.heap.get? b=some o->b∉X.ex->b∉ch:=fun b o e hx hb=>by
  rcases(y1 b hb).1 with z|z
  ·exact hx z
  ·exact absurd (cU (bp e) z) (eC _)
 have cellK:∀x c,X.env.cells.lookup x=some c->∀v,s.heap.IsCell c v->h'.IsCell c v:=fun x c e v ⟨o,ho,hd⟩=>by
  have IT:c∉ch:=fun z=>(y1 c z).2.2.1 x c e rfl;by_cases hc:c∈X.fs
  ·obtain⟨sl,q⟩:=slot c o (I.GZ x c e) hc IT ho (I.fI x c e);exact⟨_,q,hd⟩
  ·exact⟨o,keep c o (I.GZ x c e) hc IT ho (I.fI x c e),hd⟩
 refine⟨I.ok,I.os,hg,⟨fun b o e n hb hx=>?_,fun b o e n hb hx=>?_,fun b o e n hx=>?_,fun b o e hx=>?_,fun b xs e=>mn b xs (I.base.mn b xs e),fun b o xs e=>kT b o xs (I.base.kT b o xs e),fun b ps e=>?_⟩,?_,fun x c e=>?_,?_,fun x c e=>?_,fun p hp=>?_,cP,I.len⟩
 ·exact keep b o (neL b o e) hb (My b o e hx) (I.base.keep b o e n hb hx) (I.base.free b o e n hx)
 ·obtain⟨sl,e1⟩:=I.base.slot b o e n hb hx;obtain⟨UR,e2⟩:=slot b _ (neL b o e) hb (My b o e hx) e1 (I.base.free b o e n hx);exact⟨UR,e2⟩
 ·obtain⟨o',e1⟩:=I.base.there b o e hx;exact free b o' (My b o e hx) e1 (I.base.free b o e n hx)
 ·obtain⟨o',e1⟩:=I.base.there b o e hx;exact there b o' (My b o e hx) e1
 ·obtain⟨m1,e1⟩:=I.base.m6 b ps e;obtain⟨m2,e2⟩:=m6 b _ e1;exact⟨m1++m2,by rw[e2,Array.append_assoc]⟩
 ·obtain⟨m,hn,hl⟩:=I.loc;refine⟨m,ns m hn,fun i x v e1 e2 e3=>?_⟩;obtain⟨u,r,l⟩:=hl i x v e1 e2 e3;refine⟨u,r,?_⟩;rcases l with l|⟨k,c,e,z⟩
  ·exact .inl l
  ·exact .inr ⟨k,c,e,cellK x c e _ z⟩
 ·obtain⟨v,z⟩:=I.cell x c e;exact⟨v,cellK x c e v z⟩
 ·obtain⟨m,⟨o,_,_,ho,_⟩,_⟩:=I.loc;exact free _ o (fun z=>(y1 _ z).2.1 rfl) ho I.free
 ·obtain⟨v,o,ho,hd⟩:=I.cell x c e;exact free c o (fun z=>(y1 c z).2.2.1 x c e rfl) ho (I.fI x c e)
 ·obtain⟨e,n,ne,nf,d⟩:=I.pin p hp;have IT:p.1∉ch:=fun z=>(y1 p.1 z).2.2.2 p hp rfl;exact⟨keep p.1 p.2 ne nf IT e n,free p.1 p.2 IT e n,ne,nf,d⟩
theorem Inv.un {t':Nat}(I:Inv X U Z H s)(u:Un X.fs [] H H' s.heap h')(cP:rB X.prog X.w H' h'):Inv X U Z H' {s with heap:=h',toks:=t'}:=by
 obtain⟨m,⟨o,es,ep,ho,r⟩,_⟩:=id I.loc;obtain⟨sl,hL⟩:=u.any ho I.free (by simp);exact I.step (g':=s.gens) (d':=s.drawn) (ch:=[]) (fun _ z=>nomatch z) (fun b o _ hb _ e n=>u.keep b o e n hb (by simp)) (fun b o _ hb _ e n=>u.slot b o e n hb (by simp)) (fun b o _ e n=>u.free b o e n (by simp)) (fun b o _ e=>u.there b o e (by simp)) u.mn u.kT u.m6 (fun m' hm=>by
  obtain⟨o',z_,IU,Mw,r'⟩:=hm;rw[ho]at Mw;cases Mw;exact⟨_,z_,IU,hL,r'⟩) cP I.bare
theorem Inv.call {g':Array GenState}{t':Nat}{d':Drawn}{ch:List Addr}(I:Inv X U Z H s)(u:Un (jG X.stack) ch H H' s.heap h')(cP:rB X.prog X.w H' h')(hg:AllBare g')
  (y1:∀b∈ch,(b∈X.ex\/X.f9.heap.objs.size<=b)/\b≠X.env.locals/\(∀x c,X.env.cells.lookup x=some c->c≠b)/\∀p∈X.pn++U,p.1≠b):
  Inv X U Z H' {s with heap:=h',gens:=g',drawn:=d',toks:=t'}:=by
 obtain⟨m,⟨o,es,ep,ho,r⟩,_⟩:=id I.loc;obtain⟨sl,hL⟩:=u.any ho I.free fun z=>(y1 _ z).2.1 rfl;exact I.step (ch:=ch) y1 (fun b o hL hb hc e n=>u.keep b o e n (fun z=>(bB.mp (I.wO b z)).elim hL hb) hc) (fun b o _ _ hc e n=>u.any e n hc) (fun b o hc e n=>u.free b o e n hc) (fun b o hc e=>u.there b o e hc) u.mn u.kT u.m6 (fun m' hm=>by
  obtain⟨o',z_,IU,Mw,r'⟩:=hm;rw[ho]at Mw;cases Mw;exact⟨_,z_,IU,hL,r'⟩) cP hg
theorem Inv.turned {t':Nat}{it:Addr}(I:Inv X U Z H s)(k:∀b o,b≠it->s.heap.get? b=some o->h'.get? b=some o)(hn:H it=none)(hL:it≠X.env.locals)
  (h1:it∈X.ex\/X.f9.heap.objs.size<=it) (h2:∀x c,X.env.cells.lookup x=some c->c≠it) (h3:∀p∈X.pn++U,p.1≠it):Inv X U Z H {s with heap:=h',toks:=t'}:=by
 have nit:∀b u,H b=some u->b≠it:=fun b u e z=>by rw[z,hn]at e;cases e
 refine I.step (g':=s.gens) (d':=s.drawn) (ch:=[it]) (fun b hb=>?_) (fun b o _ _ hc e _=>k b o (fun z=>hc (by simp[z])) e) (fun b o _ _ hc e _=>⟨o.slots,k b o (fun z=>hc (by simp[z])) e⟩) (fun _ _ _ _ n=>n)
  (fun b o hc e=>⟨o,k b o (fun z=>hc (by simp[z])) e⟩) (fun _ _ e=>e) (fun _ _ _ e=>e) (fun b ps e=>⟨#[],by rw[e];simp⟩) (fun m hm=>?_) (fun b u e=>?_) I.bare
 ·have e:b=it:=by simpa using hb
  subst e;exact⟨h1,hL,h2,h3⟩
 ·obtain⟨o,es,ep,ho,r⟩:=hm;exact⟨o,es,ep,k _ o (Ne.symm hL) ho,r⟩
 ·refine(I.cP b u e).o6 (fun c v hc q=>k c v ?_ q) (fun _ q=>q) fun _ _ q=>q;rcases hc with z|z
  ·rw[z];exact nit b u e
  ·exact nit c _ z
theorem Inv.tok (I:Inv X U Z H s)(t:Nat):Inv X U Z H {s with toks:=t}:=I.un (h':=s.heap) (t':=t) Un.refl I.cP
theorem Inv.kept {t':Nat}(I:Inv X U Z H s)(k:∀b u,s.heap.get? b=some u->h'.get? b=some u):Inv X U Z H {s with heap:=h',toks:=t'}:=I.un (Un.kept k) (I.cP.kept k)
theorem Inv.laid {a:Addr}{o:HO}{t':Nat}(I:Inv X U Z H s)(k:∀b u,s.heap.get? b=some u->h'.get? b=some u)(hp:s.heap.objs.size<=a)(new:cR X.prog X.w (upd H a o) h' a o):
  Inv X U Z (upd H a o) {s with heap:=h',toks:=t'}:=I.un (Un.laid k hp (I.cP.fresh hp)) (I.cP.laid k hp new)
theorem Inv.write {x e:Addr}{o:HO}{t':Nat}(I:Inv X U Z H s)(mu:UP (H x))(he:e=x\/H e=some (.own x))(k:∀b u,b≠e->s.heap.get? b=some u->h'.get? b=some u)(Uh:∃u,h'.get? e=some u)
  (new:cR X.prog X.w (upd H x o) h' x o):Inv X U Z (upd H x o) {s with heap:=h',toks:=t'}:=I.un (Un.write mu he k Uh) (I.cP.write mu he k Uh new)
theorem Inv.jV {IV:List (Addr×Obj)}(I:Inv X U Z H s)(h:∀p∈IV,s.heap.get? p.1=some p.2/\H p.1=none/\p.1≠X.env.locals/\p.1∉X.fs/\∀v,p.2.data≠ .cell v):Inv X IV Z H s:=
 ⟨I.ok,I.os,I.bare,I.base,I.loc,I.cell,I.free,I.fI,fun p hp=>(dw.mp hp).elim (fun z=>I.pin p (jO _ z)) (h p),I.cP,I.len⟩
theorem sQ(hN:ps.Nodup){j:Nat}(a:ps[i]?=some x)(b:ps[j]?=some x):i=j:=by
 obtain⟨h1,e1⟩:=fT.mp a;obtain⟨h2,e2⟩:=fT.mp b;exact(List.getElem_inj hN).mp (e1.trans e2.symm)
theorem y2{M:Model}{v:V}(I:Inv X U Z H s)(hN:X.N.Nodup)(hi:X.N[i]?=some x)(hx:Loc X.env.scope x)(r:RelV v af)
  (h:∀s',Inv X U (Z.set i (some v)) H s'->(∃a,Heap.SameBut a s.heap s'.heap/\(a=X.env.locals\/X.env.cells.lookup x=some a))->ae () s') (hf:yE X x:=by first|exact .inl rfl|exact .inr rfl|assumption):wpAny M A (storeName X.env x af) ae E s:=by
 obtain⟨m,hn,hl⟩:=id I.loc;have Aa:(X.env.scope.kind== .class||(X.env.scope.kind== .module&&X.env.locals !=X.env.globals))=false:=by rw[I.ok.kind];rfl
 have UT:i<Z.length:=by rw[I.len];exact(fT.mp hi).1
 have GZ:=I.GZ;have tracked:∀{a:Addr} {h':Heap},(∃o,s.heap.get? a=some o/\H a=none)->Heap.SameBut a s.heap h'->rB X.prog X.w H h':=fun{a h'} ha hs b ob e=>by
  obtain⟨_,_,Fc⟩:=ha;refine(I.cP b ob e).o6 (fun c w' hc q=>(hs.2 c ?_).trans q) (fun _ q=>q) fun _ _ q=>q
  rintro rfl
  rcases hc with rfl|hc
  ·rw[Fc]at e;cases e
  ·rw[Fc]at hc;cases hc
 rcases hx with hk|hk
 ·refine wpAny_storeName_local hk hn (fun h' O4 hs=>?_) Aa;obtain⟨oL,_,_,Fd,_⟩:=id hn;refine h _ ⟨I.ok,I.os,I.bare,⟨fun b o e n hb hx=>?_,fun b o e n hb hx=>?_,I.base.free,fun b o e hx=>?_,I.base.mn,I.base.kT,I.base.m6⟩,⟨_,O4,fun j y v' e1 e2 e3=>?_⟩,fun y c e=>?_,I.free,I.fI,fun p hp=>?_,tracked ⟨oL,Fd,I.free⟩ hs,by simpa using I.len⟩ ⟨_,hs,.inl rfl⟩
  ·exact(hs.2 b (bS (cU (bp e) I.ok.above))).trans (I.base.keep b o e n hb hx)
  ·obtain⟨sl,e1⟩:=I.base.slot b o e n hb hx;exact⟨sl,(hs.2 b (bS (cU (bp e) I.ok.above))).trans e1⟩
  ·obtain⟨o',e1⟩:=I.base.there b o e hx;exact⟨o',(hs.2 b (bS (cU (bp e) I.ok.above))).trans e1⟩
  ·by_cases hj:j=i
   ·subst hj;rw[hi]at e1;cases e1;rw[om UT]at e2;cases e2;exact⟨af,r,.inl ⟨hk,by simp⟩⟩
   ·rw[lY (Ne.symm hj)]at e2;obtain⟨u',r',q⟩:=hl j y v' e1 e2 e3;refine⟨u',r',?_⟩;rcases q with⟨k,e⟩|⟨k,c,e,z⟩
    ·refine .inl ⟨k,?_⟩;have:y≠x:=fun e=>hj (sQ hN e1 (e▸hi));simp[this,e]
    ·exact .inr ⟨k,c,e,z.sameBut hs (GZ y c e)⟩
  ·obtain⟨w',z⟩:=I.cell y c e;exact⟨w',z.sameBut hs (GZ y c e)⟩
  ·obtain⟨e,n,ne,nf,d⟩:=I.pin p hp;exact⟨(hs.2 p.1 ne).trans e,n,ne,nf,d⟩
 ·have Mz:X.fn x=true:=by
   rcases hf with z|z
   ·exact z
   ·rw[z]at hk;cases hk
  obtain⟨c,hc⟩:=I.ok.has x (.inl hk);obtain⟨w',z⟩:=I.cell x c hc;refine wpAny_storeName_cell I.ok.kind hk hc z (fun h' UU hs=>?_);obtain⟨oc,Qm,Zn⟩:=id z;refine h {s with heap:=h'} ⟨I.ok,I.os,I.bare,⟨fun b o e n hb hx=>?_,fun b o e n hb hx=>?_,I.base.free,fun b o e hx=>?_,I.base.mn,I.base.kT,I.base.m6⟩,⟨m,hn.sameBut hs (Ne.symm (GZ x c hc)),fun j y v' e1 e2 e3=>?_⟩,fun y c' e=>?_,I.free,I.fI,fun p hp=>?_,tracked ⟨oc,Qm,I.fI x c hc⟩ hs,by simpa using I.len⟩ ⟨c,hs,.inr hc⟩
  ·exact(hs.2 b (bS (cU (bp e) (I.ok.O3 x c Mz hc)))).trans (I.base.keep b o e n hb hx)
  ·obtain⟨sl,e1⟩:=I.base.slot b o e n hb hx;exact⟨sl,(hs.2 b (bS (cU (bp e) (I.ok.O3 x c Mz hc)))).trans e1⟩
  ·obtain⟨o',e1⟩:=I.base.there b o e hx;exact⟨o',(hs.2 b (bS (cU (bp e) (I.ok.O3 x c Mz hc)))).trans e1⟩
  ·by_cases hj:j=i
   ·subst hj;rw[hi]at e1;cases e1;rw[om UT]at e2;cases e2;exact⟨af,r,.inr ⟨.inl hk,c,hc,UU⟩⟩
   ·rw[lY (Ne.symm hj)]at e2;obtain⟨u',r',q⟩:=hl j y v' e1 e2 e3;refine⟨u',r',?_⟩;rcases q with q|⟨k,c',e,z'⟩
    ·exact .inl q
    ·refine .inr ⟨k,c',e,z'.sameBut hs ?_⟩
     rintro rfl
     exact hj (sQ hN e1 (I.ok.inj _ _ _ e hc▸hi))
  ·by_cases hcc:c'=c
   ·subst hcc;exact⟨_,UU⟩
   ·obtain⟨w2,z2⟩:=I.cell y c' e;exact⟨w2,z2.sameBut hs hcc⟩
  ·obtain⟨e,n,ne,nf,d⟩:=I.pin p hp;refine⟨(hs.2 p.1 ?_).trans e,n,ne,nf,d⟩;intro q;rw[q,Qm]at e;have q':oc=p.2:=Option.some.inj e;exact d w' (by rw[<-q'];exact Zn)
theorem wQ{M:Model}{v:V}(I:Inv X U Z H s)(hN:X.N.Nodup)(hi:X.N[i]?=some x)(hx:Loc X.env.scope x)(r:RelV v af)
  (h:∀s',Inv X U (Z.set i (some v)) H s'->ae () s') (hf:yE X x:=by first|exact .inl rfl|exact .inr rfl|assumption):wpAny M A (storeName X.env x af) ae E s:=
 y2 I hN hi hx r (fun s' I' _=>h s' I') hf
theorem Inv.UW {s':Shared}{ch:List Addr}(I:Inv X U Z H s)(ho:s'.os=s.os)(u:Un (jG X.stack) ch H H' s.heap s'.heap)(cP:rB X.prog X.w H' s'.heap)(hg:AllBare s'.gens)
  (y1:∀b∈ch,(b∈X.ex\/X.f9.heap.objs.size<=b)/\b≠X.env.locals/\(∀x c,X.env.cells.lookup x=some c->c≠b)/\∀p∈X.pn++U,p.1≠b):Inv X U Z H' s':=by
 obtain⟨h',g',d',t',o'⟩:=s';have e:o'=s.os:=ho;subst e;exact I.call (g':=g') (t':=t') (d':=d') u cP hg y1
end
abbrev XK:=Value->Option Addr->Hp->Prop
abbrev St:=List (Option V)
variable {Z:St}
abbrev VK:=V->Hp->Prop
abbrev TE:=St->Hp->VK->Prop
abbrev TT:=St->Hp->(Bool->Hp->Prop)->Prop
abbrev TA:=St->Hp->(List V->Hp->Prop)->Prop
structure Ends where
 nx:St->Hp->Prop
 rt:VK
 bk:St->Hp->Prop:=fun _ _=>False
 ct:St->Hp->Prop:=fun _ _=>False
abbrev TS:=Ends->St->Hp->Prop
def EP(X:Cx)(U:List (Addr×Obj))(Z:St)(Q:VK)(u:Value)(s':Shared):Prop:=∃v H',Inv X U Z H' s'/\RelV v u/\Q v H'
def TP(X:Cx)(U:List (Addr×Obj))(Z:St)(Q:Bool->Hp->Prop)(b:Bool)(s':Shared):Prop:=∃H',Inv X U Z H' s'/\Q b H'
def AP(X:Cx)(U:List (Addr×Obj))(Z:St)(Q:List V->Hp->Prop)(us:List Value)(s':Shared):Prop:=∃vs H',Inv X U Z H' s'/\Vals vs us/\Q vs H'
def SP(X:Cx)(U:List (Addr×Obj))(D:Ends)(f:Flow)(s':Shared):Prop:=
 match f with
 |.next=>∃di H',Inv X U di H' s'/\D.nx di H'
 |.brk=>∃di H',Inv X U di H' s'/\D.bk di H'
 |.cont=>∃di H',Inv X U di H' s'/\D.ct di H'
 |.ret u=>∃v di H',Inv X U di H' s'/\RelV v u/\D.rt v H'
def PE(X:Cx)(e:Expr)(t:TE):Prop:=
 ∀(U:List (Addr×Obj)) (s:Shared) (Z:St) (H:Hp) (Q:VK),Inv X U Z H s->t Z H Q->wpAny (model X.prog X.w) X.A (eval e X.env) (EP X U Z Q) X.xe s
def PT(X:Cx)(e:Expr)(t:TT):Prop:=
 ∀(U:List (Addr×Obj)) (s:Shared) (Z:St) (H:Hp) (Q:Bool->Hp->Prop),Inv X U Z H s->t Z H Q->wpAny (model X.prog X.w) X.A (isTrue e X.env (eval e X.env)) (TP X U Z Q) X.xe s
def PW(X:Cx)(e:Expr)(t:TT):Prop:=
 ∀(whole:Sem Value) (U:List (Addr×Obj)) (s:Shared) (Z:St) (H:Hp) (Q:Bool->Hp->Prop),Inv X U Z H s->t Z H Q->wpAny (model X.prog X.w) X.A (isTrue e X.env whole) (TP X U Z Q) X.xe s
theorem PW.pt {t:TT}(h:PW X e t):PT X e t:=h _
def PA(X:Cx)(es:List Expr)(t:TA):Prop:=
 ∀(pos:Pos) (U:List (Addr×Obj)) (s:Shared) (Z:St) (H:Hp) (Q:List V->Hp->Prop),Inv X U Z H s->t Z H Q->wpAny (model X.prog X.w) X.A (spliced (backTo pos (starEach es X.env))) (AP X U Z Q) X.xe s
def PS(X:Cx)(st:Stmt)(t:TS):Prop:=
 ∀(U:List (Addr×Obj)) (s:Shared) (Z:St) (H:Hp) (D:Ends),Inv X U Z H s->t D Z H->wpAny (model X.prog X.w) X.A (exec st X.env) (SP X U D) X.xe s
def n_(X:Cx)(st:List Stmt)(t:TS):Prop:=
 ∀(U:List (Addr×Obj)) (s:Shared) (Z:St) (H:Hp) (D:Ends),Inv X U Z H s->t D Z H->wpAny (model X.prog X.w) X.A (execs st X.env) (SP X U D) X.xe s
theorem d7{t:Sem ag}{Q Q':ag->Shared->Prop}{M:Model}(h:wpAny M A t Q E s)(hQ:∀a s,Q a s->Q' a s):wpAny M A t Q' E s:=dW h hQ fun _ _ x=>x
section
def Zo(i:Nat):TE:=fun Z H Q=>∃v,Z[i]?=some (some v)/\Q v H
def tC(v:V):TE:=fun _ H Q=>Q v H
theorem Qn(hN:X.N[i]?=some x)(hv:YI X.env.scope x)(hd:Db x:=by decide) (DL:(x==("__classdict__":Str))=false:=by decide):PE X (.Name x pos) (Zo i):=by
 intro U s Z H Q I h;obtain⟨v,e,h⟩:=h;obtain⟨m,hn,hl⟩:=I.loc;obtain⟨u,r,l⟩:=hl i x v hN e hv;have fin:EP X U Z Q u s:=⟨v,H,I,r,h⟩;rcases l with⟨hk,hm⟩|⟨hk,c,hc,O5⟩
 ·exact wpAny_Name (wpAny_loadName_local I.ok.kind hk hn hm fin) hd
 ·rcases hk with hk|hk
  ·exact wpAny_Name (wpAny_loadName_cell I.ok.kind hk hc O5 fin) hd
  ·exact wpAny_Name (wpAny_loadName_free I.ok.kind hk hc O5 fin DL) hd
theorem Qo{i j pos}:PE X (.Constant (.int i) j pos) (tC (.int i)):=fun _ _ _ H _ I h=>wpAny_Constant_int ⟨.int i,H,I.tok _,⟨_,rfl⟩,h⟩
theorem UX{b j pos}:PE X (.Constant (.bool b) j pos) (tC (.bl b)):=fun _ _ _ H _ I h=>Constant_bool ⟨.bl b,H,I,rfl,h⟩
theorem Qp{j pos}:PE X (.Constant .none j pos) (tC .cu):=fun _ _ _ H _ I h=>Constant_none ⟨.cu,H,I,rfl,h⟩
theorem Qq{x j pos}:PE X (.Constant (.str x) j pos) (tC (.str x)):=fun _ _ _ H _ I h=>Calls.Constant_str ⟨.str x,H,I.tok _,⟨_,rfl⟩,h⟩
def Gl(X:Cx)(x:Str):Prop:=X.env.kindOf x=some .globalImplicit
theorem p_(I:Inv X U Z H s)(hg:Gl X x)(hm:X.mg x=some af)(h:Q af s)
  (hd:Db x:=by decide):wpAny (model X.prog X.w) X.A (eval (.Name x pos) X.env) Q E s:=
 wc I.ok.kind hg (Calls.loadGlobal_global (by rw[I.ok.glob];exact I.mod.glob.keeps I.bk) hm h) hd
theorem ux{u:Value}(I:Inv X U Z H s)(hg:Gl X x)(hm:X.mg x=none)(hv:bootBuiltins x=some u)(h:Q u s)
  (hn:x≠"__name__":=by decide) (hd:Db x:=by decide):wpAny (model X.prog X.w) X.A (eval (.Name x pos) X.env) Q E s:=by
 obtain⟨mb,h1,h2⟩:=I.mod.blt;exact wc I.ok.kind hg (Calls.loadGlobal_builtin (by rw[I.ok.glob];exact I.mod.glob.keeps I.bk) hm (by rw[I.ok.blt];exact h1.keeps I.bk) ((h2 x hn).trans hv) h) hd
theorem Ac{v:V}(hg:Gl X x)(hm:X.mg x=some af)(r:RelV v af)(hd:Db x:=by decide):PE X (.Name x pos) (tC v):=
 fun _ _ _ H _ I h=>p_ I hg hm ⟨v,H,I,r,h⟩ hd
theorem Fe{v:V}(hg:Gl X x)(hm:X.mg x=none)(hv:bootBuiltins x=some af)(r:RelV v af)(hn:x≠"__name__":=by decide) (hd:Db x:=by decide):PE X (.Name x pos) (tC v):=
 fun _ _ _ H _ I h=>ux I hg hm hv ⟨v,H,I,r,h⟩ hn hd
variable {a b:Expr}{ta tb:TE}
variable {tA YJ:TT}{c9:List Expr}
def Zp(t u:TT):TT:=fun Z H Q=>t Z H fun c H1=>if c=true then u Z H1 Q else Q false H1
def tOr(t u:TT):TT:=fun Z H Q=>t Z H fun c H1=>if c=true then Q true H1 else u Z H1 Q
def Zq(t:TT):TT:=fun Z H Q=>t Z H fun c H1=>Q (!c) H1
theorem pw_and1(ha:PT X a tA):PW X (.BoolOp .And [a] pos) tA:=by
 intro wh U s Z H Q I h;refine isTrue_and (d7 (ha U s Z H Q I h) fun c s1 e=>?_);cases c with
 |true=>exact isTrue_and_nil e
 |false=>exact e
theorem pw_or1(ha:PT X a tA):PW X (.BoolOp .Or [a] pos) tA:=by
 intro wh U s Z H Q I h;refine isTrue_or (d7 (ha U s Z H Q I h) fun c s1 e=>?_);cases c with
 |false=>exact isTrue_or_nil e
 |true=>exact e
theorem pw_and(ha:PT X a tA)(hb:PW X (.BoolOp .And (b::c9) pos) YJ):PW X (.BoolOp .And (a::b::c9) pos) (Zp tA YJ):=by
 intro wh U s Z H Q I h;refine isTrue_and (d7 (ha U s Z H _ I h) fun c s1 ⟨H1,I1,q1⟩=>?_);cases c with
 |true=>exact hb wh U s1 Z H1 Q I1 q1
 |false=>exact⟨H1,I1,q1⟩
theorem pw_or(ha:PT X a tA)(hb:PW X (.BoolOp .Or (b::c9) pos) YJ):PW X (.BoolOp .Or (a::b::c9) pos) (tOr tA YJ):=by
 intro wh U s Z H Q I h;refine isTrue_or (d7 (ha U s Z H _ I h) fun c s1 ⟨H1,I1,q1⟩=>?_);cases c with
 |true=>exact⟨H1,I1,q1⟩
 |false=>exact hb wh U s1 Z H1 Q I1 q1
theorem IW(ha:PT X a tA):PT X (.UnaryOp .Not a pos) (Zq tA):=by
 intro U s Z H Q I h;exact isTrue_not (ha U s Z H (fun c H1=>Q (!c) H1) I h)
theorem Qr{op}{t:TE}(h:PE X a t):PE X (.BoolOp op [a] pos) t:=fun U s Z H Q I hw=>BoolOp_one (h U s Z H Q I hw)
def tIf(t:TT)(ta tb:TE):TE:=fun Z H Q=>t Z H fun c H1=>if c=true then ta Z H1 Q else tb Z H1 Q
theorem IX(hc:PT X e tA)(ha:PE X a ta)(hb:PE X b tb):PE X (.IfExp e a b pos) (tIf tA ta tb):=by
 intro U s Z H Q I h;refine wpAny_IfExp (d7 (hc U s Z H _ I h) fun d s1 ⟨H1,I1,q1⟩=>?_);cases d with
 |true=>exact ha U s1 Z H1 Q I1 q1
 |false=>exact hb U s1 Z H1 Q I1 q1
end
def ll(K:Frag)(H:Hp)(a:Addr)(xs:List V):Prop:=
 Rd H a (.lst xs)\/
  ∃(o:Obj) (cc:Array Value) (n:Nat),K.lookup a=some o/\o.cls=.type "list"/\o.dict=none/\o.data=.seq cc n/\cc.size<=sizeLine/\Vals xs cc.toList
def i7(K:Frag)(H:Hp)(a:Addr)(xs:List V):Prop:=
 Rd H a (.tup xs)\/
  ∃(o:Obj) (cc:Array Value) (n:Nat),K.lookup a=some o/\o.cls=.type "tuple"/\o.data=.seq cc n/\cc.size<=sizeLine/\Vals xs cc.toList
def Zr:Value->Option V
 |.none=>some .cu
 |.bool b=>some (.bl b)
 |.int i _=>some (.int i)
 |.str x _=>some (.str x)
 |.bytes b _=>some (.O0 b)
 |.float b _=>some (.GW b)
 |.ref a=>some (.ref a)
 |.type n=>some (.ty n)
 |_=>none
theorem RelV.abs {x:V}{u:Value}(r:RelV x u):Zr u=some x:=by
 cases x with
 |cu=>cases r;rfl
 |bl _=>cases r;rfl
 |int _=>obtain⟨t,rfl⟩:=r;rfl
 |str _=>obtain⟨t,rfl⟩:=r;rfl
 |O0 _=>obtain⟨t,rfl⟩:=r;rfl
 |GW _=>obtain⟨t,rfl⟩:=r;rfl
 |_=>cases r;rfl
theorem RelV.inj {x y:V}{u:Value}(r:RelV x u)(q:RelV y u):x=y:=Option.some.inj (r.abs.symm.trans q.abs)
theorem Vals.inj:∀{xs ys:List V} {us:List Value},Vals xs us->Vals ys us->xs=ys
 |_,_,_,.nil,.nil=>rfl
 |_,_,_,.cons r t,.cons r' t'=>by rw[r.inj r',Vals.inj t t']
section
variable {xs ys:List V}
theorem ll.of (h:H a=some (.lst xs)):ll K H a xs:=.inl (.inl h)
theorem i7.of (h:H a=some (.tup xs)):i7 K H a xs:=.inl (.inl h)
theorem Inv.list (I:Inv X U Z H s)(h:ll X.K H a xs):∃cc:List Value,Vals xs cc/\PlainL s.heap a cc.toArray/\xs.length<=sizeLine:=by
 rcases h with h|⟨o,cc,n,hk,hc,hd,hs,hz,r⟩
 ·obtain⟨z,cc,n,r,e⟩:=h.ok I.cP;exact⟨cc,r,⟨_,n,e,rfl,rfl,rfl⟩,z⟩
 ·refine⟨cc.toList,r,⟨o,n,I.lH a o hk,hc,hd,by simpa using hs⟩,?_⟩;have e:=r.length;simp only[fU]at e;omega
theorem Inv.tuple (I:Inv X U Z H s)(h:i7 X.K H a xs):∃cc:List Value,Vals xs cc/\IsTup s.heap a cc.toArray/\xs.length<=sizeLine:=by
 rcases h with h|⟨o,cc,n,hk,hc,hs,hz,r⟩
 ·obtain⟨z,cc,r,p⟩:=h.ok I.cP;exact⟨cc,r,p,z⟩
 ·refine⟨cc.toList,r,⟨o,I.lH a o hk,hc,n,by simpa using hs⟩,?_⟩;have e:=r.length;simp only[fU]at e;omega
theorem Inv.IY (I:Inv X U Z H s)(h:ll X.K H a xs)(h':ll X.K H a ys):xs=ys:=by
 obtain⟨cc,r,⟨o,n,e,_,_,d⟩,_⟩:=I.list h;obtain⟨sR,r',⟨o',n',e',_,_,d'⟩,_⟩:=I.list h';rw[e]at e';cases e';rw[d]at d';injection d' with d1 _
 have:cc=sR:=by simpa using cQ Array.toList d1
 subst this;exact r.inj r'
theorem Inv.qa (I:Inv X U Z H s)(h:i7 X.K H a xs)(h':i7 X.K H a ys):xs=ys:=by
 obtain⟨cc,r,⟨o,e,_,n,d⟩,_⟩:=I.tuple h;obtain⟨sR,r',⟨o',e',_,n',d'⟩,_⟩:=I.tuple h';rw[e]at e';cases e';rw[d]at d';injection d' with d1 _
 have:cc=sR:=by simpa using cQ Array.toList d1
 subst this;exact r.inj r'
end
abbrev Cx.yI (X:Cx)(E:Value->Shared->Prop):Cx:={X with xe:=E}
abbrev Cx.IH (X:Cx):Cx:=X.yI fun _ _=>False
theorem Cx.Ok.yI (ok:X.Ok)(E:Value->Shared->Prop):(X.yI E).Ok:=
 ⟨ok.mod,ok.kind,ok.glob,ok.blt,ok.above,ok.inj,ok.has,ok.O3,ok.hd,ok.frames,ok.Mh,ok.Ui,ok.bs,ok.GY,ok.z9,ok.BL,ok.qN,ok.IS⟩
theorem Cx.Ok.o7 (ok:(X.yI E).Ok):X.Ok:=
 ⟨ok.mod,ok.kind,ok.glob,ok.blt,ok.above,ok.inj,ok.has,ok.O3,ok.hd,ok.frames,ok.Mh,ok.Ui,ok.bs,ok.GY,ok.z9,ok.BL,ok.qN,ok.IS⟩
theorem Inv.yI (I:Inv X U Z H s)(E:Value->Shared->Prop):Inv (X.yI E) U Z H s:=⟨I.ok.yI E,I.os,I.bare,I.base,I.loc,I.cell,I.free,I.fI,I.pin,I.cP,I.len⟩
theorem Inv.o7 (I:Inv (X.yI E) U Z H s):Inv X U Z H s:=⟨I.ok.o7,I.os,I.bare,I.base,I.loc,I.cell,I.free,I.fI,I.pin,I.cP,I.len⟩
theorem SP.o7 {D:Ends}{f:Flow}{s':Shared}(h:SP (X.yI E) U D f s'):SP X U D f s':=by
 cases f with
 |next=>obtain⟨di,H',I,q⟩:=h;exact⟨di,H',I.o7,q⟩
 |brk=>obtain⟨di,H',I,q⟩:=h;exact⟨di,H',I.o7,q⟩
 |cont=>obtain⟨di,H',I,q⟩:=h;exact⟨di,H',I.o7,q⟩
 |ret u=>obtain⟨v,di,H',I,r,q⟩:=h;exact⟨v,di,H',I.o7,r,q⟩
theorem n_.IH {st:List Stmt}{t:TS}(h:n_ X.IH st t):n_ X st t:=fun U s Z H D I hw=>
 dW (h U s Z H D (I.yI _) hw) (fun _ _ q=>q.o7) fun _ _ z=>False.elim z
section
variable {t u:TS}{te:TE}
def UY:TS:=fun D Z H=>D.nx Z H
def Zs(t u:TS):TS:=fun D Z H=>t {D with nx:=u D} Z H
theorem Ff:n_ X [] UY:=fun _ _ Z H _ I h=>sH ⟨Z,H,I,h⟩
theorem BM(h1:PS X ai t)(h2:n_ X ah u):n_ X (ai::ah) (Zs t u):=by
 intro U s Z H D I h;refine wpAny_execs_cons (d7 (h1 U s Z H {D with nx:=u D} I h) fun f s1 q=>?_);cases f with
 |next=>
  obtain⟨di,H',I',q⟩:=q;exact h2 U s1 di H' D I' q
 |_=>exact q
theorem Fg(h1:PS X ai t):n_ X [ai] t:=by
 intro U s Z H D I h;refine wpAny_execs_cons (d7 (h1 U s Z H D I h) fun f s1 q=>?_);cases f with
 |next=>exact sH q
 |_=>exact q
theorem Inv.quiet (I:Inv X U Z H s):interactive X.env=false:=by simp[interactive,I.ok.kind]
def UZ(te:TE):TS:=fun D Z H=>te Z H fun _ H1=>D.nx Z H1
theorem MA(he:PE X e te)(hs:swapsWith e none pos.line X.env=pure false:=by rfl):PS X (.Expr e pos) (UZ te):=by
 intro U s Z H D I h;exact wpAny_Expr_any (d7 (he U s Z H _ I h) fun v s1 ⟨x,H1,I1,r1,q1⟩=>⟨Z,H1,I1,q1⟩) I.quiet hs
def Zt(te:TE):TS:=fun D Z H=>te Z H D.rt
theorem IZ(he:PE X e te):PS X (.Return (some e) pos) (Zt te):=by
 intro U s Z H D I h;exact wpAny_Return_some (d7 (he U s Z H _ I h) fun v s1 ⟨x,H1,I1,r1,q1⟩=>⟨x,Z,H1,I1,r1,q1⟩)
def U0:TS:=fun D _ H=>D.rt .cu H
theorem MB:PS X (.Return none pos) U0:=fun _ _ Z H _ I h=>wpAny_Return_none ⟨.cu,Z,H,I,rfl,h⟩
def Zu(c:TT)(t u:TS):TS:=fun D Z H=>c Z H fun b H1=>if b=true then t D Z H1 else u D Z H1
theorem O6{tc:TT}(hc:PT X e tc)(ha:n_ X ah t)(hb:n_ X aj u):PS X (.If e ah aj pos) (Zu tc t u):=by
 intro U s Z H D I h;refine wpAny_If (d7 (hc U s Z H _ I h) fun d s1 ⟨H1,I1,q1⟩=>?_);cases d with
 |true=>exact ha U s1 Z H1 D I1 q1
 |false=>exact hb U s1 Z H1 D I1 q1
end
abbrev TG:=V->St->Hp->(St->Hp->Prop)->Prop
abbrev Qs:=List V->St->Hp->(St->Hp->Prop)->Prop
def PG(X:Cx)(target:Expr)(t:TG):Prop:=
 ∀(U:List (Addr×Obj)) (s:Shared) (Z:St) (H:Hp) (v:V) (u:Value) (Q:St->Hp->Prop),Inv X U Z H s->RelV v u->t v Z H Q->
  wpAny (model X.prog X.w) X.A (assign target X.env u) (fun _ s'=>∃di H',Inv X U di H' s'/\Q di H') X.xe s
def MC(X:Cx)(ts:List Expr)(t:Qs):Prop:=
 ∀(U:List (Addr×Obj)) (s:Shared) (Z:St) (H:Hp) (vs:List V) (us:List Value) (Q:St->Hp->Prop),Inv X U Z H s->Vals vs us->t vs Z H Q->
  wpAny (model X.prog X.w) X.A (assignInOrder ((assignEach ts X.env).map (·.2)) us) (fun _ s'=>∃di H',Inv X U di H' s'/\Q di H') X.xe s
def O7(i:Nat):TG:=fun v Z H Q=>Q (Z.set i (some v)) H
theorem Fh(hN:X.N.Nodup)(hi:X.N[i]?=some x)(hx:Loc X.env.scope x)(hf:yE X x:=by first|exact .inl rfl|exact .inr rfl|assumption):PG X (.Name x pos) (O7 i):=by
 intro U s Z H v u Q I r h;exact wpAny_assign_Name (wQ I hN hi hx r (fun s' I'=>⟨_,H,I',h⟩) hf)
def Zv:Qs:=fun vs Z H Q=>vs=[]/\Q Z H
def U1(t:TG)(u:Qs):Qs:=fun vs Z H Q=>∃v r,vs=v::r/\t v Z H fun di H'=>u r di H' Q
theorem MD:MC X [] Zv:=by
 intro U s Z H vs us Q I r h;obtain⟨e,h⟩:=h;subst e;cases r;exact assignInOrder_nil ⟨Z,H,I,h⟩
theorem I0{t:TG}{u:Qs}(h1:PG X e t)(h2:MC X es u)
  (hs:(assignEach (e::es) X.env).map (·.2)=assign e X.env::(assignEach es X.env).map (·.2):=by rfl):MC X (e::es) (U1 t u):=by
 intro U s Z H vs us Q I r h;obtain⟨v,vr,e1,h⟩:=h;subst e1;cases r with
 |cons r rr=>
  rw[hs];refine assignInOrder_cons (d7 (h1 U s Z H _ _ _ I r h) fun _ s1 ⟨YK,H1,I1,q1⟩=>?_);exact h2 U s1 YK H1 _ _ Q I1 rr q1
def Zw(K:Frag)(n:Nat)(t:Qs):TG:=fun v Z H Q=>∃a xs,v=.ref a/\i7 K H a xs/\xs.length=n/\t xs Z H Q
theorem Qt{t:Qs}{n:Nat}(hc:X.calm=true)(h:MC X es t)
  (hn:(assignEach es X.env).length=n:=by rfl) (cz:(assignEach es X.env).findIdx? (·.1)=none:=by rfl):PG X (.Tuple es i pos) (Zw X.K n t):=by
 intro U s Z H v u Q I r hw;obtain⟨a,xs,e1,hq,hl,hw⟩:=hw;subst e1;cases r;obtain⟨cc,rv,ht,hz⟩:=I.tuple hq;refine assign_Tuple_tuple (I.ok.hd hc) ht (by simp[hn,<-hl,rv.length]) cz fun h' hx=>?_
 have I1:Inv X U Z H {s with heap:=h'}:=I.kept (t':=s.toks) fun b o e=>hx b o (bS (bp e)) e;exact h U _ Z H xs _ Q I1 (by simpa using rv) hw
def U2(te:TE)(g:TG):TS:=fun D Z H=>te Z H fun x H1=>g x Z H1 D.nx
theorem I_{te:TE}{g:TG}(he:PE X e te)(hg:PG X tg g)(hs:swapsWithSole [tg] e pos.line X.env=pure false:=by rfl) (hw:swappedStores [tg] e X.env=pure none:=by rfl)
  (h1:(assignEach [tg] X.env).map (·.2)=[assign tg X.env]:=by rfl):PS X (.Assign [tg] e pos) (U2 te g):=by
 intro U s Z H D I h;refine wpAny_Assign_stores (d7 (he U s Z H _ I h) fun v s1 ⟨x,H1,I1,r1,q1⟩=>?_) hs hw;rw[h1];exact d7 (hg U s1 Z H1 x v _ I1 r1 q1) fun _ s2 q=>q
theorem Ja{te:TE}(hN:X.N.Nodup)(hi:X.N[i]?=some x)(hx:Loc X.env.scope x)(he:PE X e te)(hs:swapsWith e (some (.Name x p)) pos.line X.env=pure false:=by rfl) (hf:yE X x:=by first|exact .inl rfl|exact .inr rfl|assumption):
  PS X (.Assign [.Name x p] e pos) (U2 te (O7 i)):=by
 intro U s Z H D I h;refine wpAny_Assign_Name (d7 (he U s Z H _ I h) fun v s1 ⟨y,H1,I1,r1,q1⟩=>?_) hs;exact wQ I1 hN hi hx r1 (fun s2 I2=>⟨_,H1,I2,q1⟩) hf
structure It where
 go:Nat->Hp->Prop
 Fj:Nat->Hp->V->Hp->Prop
 stop:Nat->Hp->Prop
def kD(X:Cx)(U:List (Addr×Obj))(H:Hp)(b:Addr):Prop:=
 H b=none/\b≠X.env.locals/\b∉X.fs/\(b∈X.ex\/X.f9.heap.objs.size<=b)/\(∀x c,X.env.cells.lookup x=some c->c≠b)/\∀p∈X.pn++U,p.1≠b
theorem Inv.wR {H':Hp}{b:Addr}(I:Inv X U Z H s)(hb:s.heap.objs.size<=b)(hn:H' b=none):kD X U H' b:=by
 refine⟨hn,dB (cU I.lt hb),I.US hb,.inr (cw I.sz hb),fun x c e z=>?_,fun p hp z=>?_⟩
 ·obtain⟨v,q⟩:=I.cell x c e;exact absurd (cU q.lt (by rw[z];exact hb)) (eC _)
 ·exact absurd (cU (bp (I.pin p hp).1) (by rw[z];exact hb)) (eC _)
structure Turn(P:Program)(w:World)(K:Frag)(tg:Expr)(J:It)(fp:List Addr)(it:Addr)(tn:Nat->Heap->Prop):Prop where
 mem:it∈fp
 obj:∀i h,tn i h->∀b∈fp,∃o,h.get? b=some o/\∀v,o.data≠ .cell v
 keep:∀i h h',tn i h->(∀b∈fp,∀o,h.get? b=some o->h'.get? b=some o)->tn i h'
 item:∀(X:Cx),X.prog=P->X.w=w->X.K=K->X.calm=true->∀(i:Nat) (U:List (Addr×Obj)) (s:Shared) (Z:St) (H:Hp) (E:Value->Shared->Prop),Inv X U Z H s->(∀b∈fp,kD X U H b)->tn i s.heap->J.go i H->
  wpAny (model P w) X.A (pyNext (.ref it)) (fun r s1=>∃u,r=some u/\
   wpAny (model P w) X.A (letOwnedTupleGo tg (.ref it) u) (fun _ s2=>∃x H',Inv X U Z H' s2/\RelV x u/\J.Fj i H x H'/\tn (i+1) s2.heap/\∀b∈fp,H' b=none) E s1) E s
 done:∀(X:Cx),X.prog=P->X.w=w->X.K=K->X.calm=true->∀(i:Nat) (U:List (Addr×Obj)) (s:Shared) (Z:St) (H:Hp) (E:Value->Shared->Prop),Inv X U Z H s->(∀b∈fp,kD X U H b)->tn i s.heap->J.stop i H->
  wpAny (model P w) X.A (pyNext (.ref it)) (fun r s1=>r=none/\Inv X U Z H s1) E s
 self:∀(A:Around) (i:Nat) (s:Shared) (Q:Value->Shared->Prop) (E:Value->Shared->Prop),tn i s.heap->Q (.ref it) s->wpAny (model P w) A (pyIter (.ref it)) Q E s
abbrev TI:=St->Hp->(It->Hp->Prop)->Prop
def YL(X:Cx)(U:List (Addr×Obj))(Z:St)(tg:Expr)(R:It->Hp->Prop)(YM:Value)(s2:Shared):Prop:=
 ∃(it:Addr) (fp:List Addr) (tn:Nat->Heap->Prop) (J:It) (H':Hp),YM=.ref it/\Inv X U Z H' s2/\Turn X.prog X.w X.K tg J fp it tn/\tn 0 s2.heap/\(∀b∈fp,kD X U H' b)/\R J H'
def PI(X:Cx)(tg c5:Expr)(wi:TI):Prop:=
 ∀(U:List (Addr×Obj)) (s:Shared) (Z:St) (H:Hp) (R:It->Hp->Prop),Inv X U Z H s->wi Z H R->
  wpAny (model X.prog X.w) X.A (eval c5 X.env) (fun v s1=>wpAny (model X.prog X.w) X.A (pyIter v) (YL X U Z tg R) X.xe s1) X.xe s
theorem y3{M:Model}{s:Shared}{o:Obj}{n:String}(ho:s.heap.get? a=some o)(hc:o.cls=.type n)(hd:o.data=.fields ak)
  (hn:["enumerate","zip","dict_itemiterator","dict_reverseitemiterator","odict_iterator","itertools.zip_longest","itertools.pairwise"].contains n=false) (hQ:ae () s):wpAny M A (letOwnedTupleGo tg (.ref a) af) ae E s:=by
 unfold letOwnedTupleGo;cases tg<;>first
  |exact a_ hQ
  |(cases af<;>first
    |exact a_ hQ
    |(refine aP (o4 ho ?_)
      rw[hc,hd];show wpAny M A (if(["enumerate","zip","dict_itemiterator","dict_reverseitemiterator","odict_iterator","itertools.zip_longest","itertools.pairwise"].contains n&&ak[0]?==some (rawInt _))=true then _ else _) ae E s;rw[aW (by intro h;rw[hn,wI]at h;cases h)];exact a_ hQ))
def Itl(K:Frag)(a:Addr):It:=
 ⟨fun i H=>∃xs x,ll K H a xs/\xs[i]?=some x,fun i H x H'=>H'=H/\∀xs,ll K H a xs->xs[i]?=some x,fun i H=>∃xs,ll K H a xs/\xs.length<=i⟩
def Itt(K:Frag)(a:Addr):It:=
 ⟨fun i H=>∃xs x,i7 K H a xs/\xs[i]?=some x,fun i H x H'=>H'=H/\∀xs,i7 K H a xs->xs[i]?=some x,fun i H=>∃xs,i7 K H a xs/\xs.length<=i⟩
def YN(lo:Int)(n:Nat):It:=⟨fun i _=>i<n,fun i H x H'=>H'=H/\x=.int (lo+i),fun i _=>n<=i⟩
theorem y4(a it:Addr):Turn P w K tg (Itl K a) [it] it (fun i h=>h.IsListIter it a i) where
 mem:=by simp
 obj:=fun i h st b hb=>by
  have e:b=it:=by simpa using hb
  subst e;obtain⟨o,e,c,d⟩:=st;exact⟨o,e,fun v z=>by rw[d]at z;cases z⟩
 keep:=fun i h h' st k=>st.at fun o e=>k it (by simp) o e
 item:=by
  intro X hP hw hK hc i U s Z H E I hf st hg;subst hP hw hK;obtain⟨xs,x,hq,hx⟩:=hg;obtain⟨cc,rv,p,hz⟩:=I.list hq;obtain⟨u,hu,ru⟩:=rv.get hx;obtain⟨f0,f1,f2,f3,f4,f5⟩:=hf it (by simp);refine wpAny_pyNext_list_item st p.isList (x:=u) (by simpa using hu) fun h' wU sb=>?_
  have I1:Inv X U Z H {s with heap:=h'}:=I.turned (t':=s.toks) (fun b o hb e=>(sb.2 b hb).trans e) f0 f1 f3 f4 f5;obtain⟨o,e,c,d⟩:=id wU;exact⟨u,rfl,y3 (s:={s with heap:=h'}) e c d (by decide) ⟨x,H,I1,ru,⟨rfl,fun ys hy=>by rw[I.IY hy hq];exact hx⟩,wU,fun b hb=>(hf b hb).1⟩⟩
 done:=by
  intro X hP hw hK hc i U s Z H E I hf st hg;subst hP hw hK;obtain⟨xs,hq,hx⟩:=hg;obtain⟨cc,rv,p,hz⟩:=I.list hq;obtain⟨f0,f1,f2,f3,f4,f5⟩:=hf it (by simp);have hl:=rv.length;exact wpAny_pyNext_list_end (I.ok.hd hc) st p.isList (by simp;omega) fun h' eb=>⟨rfl,I.turned (t':=s.toks) (fun b o hb e=>eb b o hb e) f0 f1 f3 f4 f5⟩
 self:=fun _ _ _ _ _ st h=>wpAny_pyIter_listiter st h
theorem DN(a it:Addr):Turn P w K tg (Itt K a) [it] it (fun i h=>h.IsTupleIter it a i) where
 mem:=by simp
 obj:=fun i h st b hb=>by
  have e:b=it:=by simpa using hb
  subst e;obtain⟨o,e,c,d⟩:=st;exact⟨o,e,fun v z=>by rw[d]at z;cases z⟩
 keep:=fun i h h' st k=>st.at fun o e=>k it (by simp) o e
 item:=by
  intro X hP hw hK hc i U s Z H E I hf st hg;subst hP hw hK;obtain⟨xs,x,hq,hx⟩:=hg;obtain⟨cc,rv,p,hz⟩:=I.tuple hq;obtain⟨u,hu,ru⟩:=rv.get hx;obtain⟨f0,f1,f2,f3,f4,f5⟩:=hf it (by simp);refine wpAny_pyNext_tuple_item st (show s.heap.IsTuple a cc.toArray from p) (x:=u) (by simpa using hu) fun h' wU sb=>?_
  have I1:Inv X U Z H {s with heap:=h'}:=I.turned (t':=s.toks) (fun b o hb e=>(sb.2 b hb).trans e) f0 f1 f3 f4 f5;obtain⟨o,e,c,d⟩:=id wU;exact⟨u,rfl,y3 (s:={s with heap:=h'}) e c d (by decide) ⟨x,H,I1,ru,⟨rfl,fun ys hy=>by rw[I.qa hy hq];exact hx⟩,wU,fun b hb=>(hf b hb).1⟩⟩
 done:=by
  intro X hP hw hK hc i U s Z H E I hf st hg;subst hP hw hK;obtain⟨xs,hq,hx⟩:=hg;obtain⟨cc,rv,p,hz⟩:=I.tuple hq;obtain⟨f0,f1,f2,f3,f4,f5⟩:=hf it (by simp);have hl:=rv.length;exact wpAny_pyNext_tuple_end (I.ok.hd hc) st (show s.heap.IsTuple a cc.toArray from p) (by simp;omega) fun h' eb=>⟨rfl,I.turned (t':=s.toks) (fun b o hb e=>eb b o hb e) f0 f1 f3 f4 f5⟩
 self:=fun _ _ _ _ _ st h=>wpAny_pyIter_tupleiter st h
theorem DO(it:Addr)(lo:Int)(n:Nat):Turn P w K tg (YN lo n) [it] it (fun i h=>IsRangeIter h it (lo+(i:Nat)*1) ((n:Int) - (i:Nat)) 1) where
 mem:=by simp
 obj:=fun i h st b hb=>by
  have e:b=it:=by simpa using hb
  subst e;exact⟨_,st,fun v z=>by
   have z':Data.fields _=Data.cell v:=z;cases z'⟩
 keep:=fun i h h' st k=>k it (by simp) _ st
 item:=by
  intro X hP hw hK hc i U s Z H E I hf st hg;subst hP hw hK;obtain⟨f0,f1,f2,f3,f4,f5⟩:=hf it (by simp);have W:=Walks.range (prog:=X.prog) (w:=X.w) (I.ok.hd hc) it lo 1 n;refine W.item i s _ _ hg st fun v h' tk hv wU kk=>?_
  obtain⟨t,rfl⟩:=hv;have I1:Inv X U Z H {s with heap:=h',toks:=tk}:=I.turned (fun b o hb e=>kk b o (by simpa using hb) e) f0 f1 f3 f4 f5;refine⟨_,rfl,y3 (s:={s with heap:=h',toks:=tk}) (n:="range_iterator") wU rfl rfl (by decide) ⟨.int (lo+i),H,I1,⟨t,?_⟩,⟨rfl,rfl⟩,wU,fun b hb=>(hf b hb).1⟩⟩;rw[Int.mul_one]
 done:=by
  intro X hP hw hK hc i U s Z H E I hf st hg;subst hP hw hK;obtain⟨f0,f1,f2,f3,f4,f5⟩:=hf it (by simp);exact wpAny_pyNext_range_end (I.ok.hd hc) st (by have:n<=i:=hg;omega) fun h' eb=>⟨rfl,I.turned (t':=s.toks) (fun b o hb e=>eb b o hb e) f0 f1 f3 f4 f5⟩
 self:=fun _ _ _ _ _ st h=>wpAny_pyIter_rangeiter st h
theorem Jb{R:It->Hp->Prop}{lo hi:Int}{t u v:Tok}(I:Inv X U Z H s)(h1:-(2 ^62)<=lo)(h2:lo<2 ^62)(h3:-(2 ^62)<=hi)(h4:hi<2 ^62)
  (q:R (YN lo (hi - lo).toNat) H):wpAny (model X.prog X.w) X.A (pyIter (.ref s.heap.objs.size)) (YL X U Z tg R) E {s with heap:=s.heap.push {cls:=.type "range",data:=.fields #[.int lo t,.int hi u,.int 1 v]},toks:=i}:=by
 refine wpAny_pyIter_range (IsRange.new ..) (small_one h1 h2 h3 h4) ?_
 have I1:Inv X U Z H {s with heap:=s.heap.push {cls:=.type "range",data:=.fields #[.int lo t,.int hi u,.int 1 v]},toks:=i}:=I.kept fun b o e=>bL _ e;refine⟨(s.heap.push {cls:=.type "range",data:=.fields #[.int lo t,.int hi u,.int 1 v]}).objs.size,[(s.heap.push {cls:=.type "range",data:=.fields #[.int lo t,.int hi u,.int 1 v]}).objs.size],_,_,H,rfl,
  I1.kept (t':=i) fun b o e=>bL _ e,DO _ lo (hi - lo).toNat,?_,fun b hb=>?_,q⟩
 ·have e1:lo+((0:Nat):Int)*1=lo:=by simp
  have e2:(((hi - lo).toNat:Nat):Int) - ((0:Nat):Int)=Builtin.Range.rangeSize lo hi 1:=by rw[rangeSize_one];split<;>omega
  show IsRangeIter _ _ (lo+((0:Nat):Int)*1) ((((hi - lo).toNat:Nat):Int) - ((0:Nat):Int)) 1;rw[e1,e2];exact cf _ rfl
 ·have e:b=(s.heap.push {cls:=.type "range",data:=.fields #[.int lo t,.int hi u,.int 1 v]}).objs.size:=by simpa using hb
  subst e;exact I1.wR (bu _) (I1.cP.fresh (bu _))
def U3(ta:TA):TI:=fun Z H R=>ta Z H fun vs H1=>∃j:Int,vs=[.int j]/\-(2 ^62)<=j/\j<2 ^62/\R (YN 0 j.toNat) H1
theorem G0{ta:TA}(hg:Gl X "range")(hm:X.mg "range"=none)(ha:PA X [o] ta)(hs:starEach [o] X.env=[(false,eval o X.env)]:=by rfl):PI X tg (.Call (.Name "range" p) [o] [] pos) (U3 ta):=by
 intro U s Z H R I h;refine Call_ (ux I hg hm boot_range (v9 (d7 (ha pos U s Z H _ I h) fun us s1 ⟨vs,H1,I1,r1,q1⟩=>?_) hs rfl));obtain⟨j,e,q1,q2,q⟩:=q1;subst e;cases r1 with
 |cons r rr=>
  cases rr;obtain⟨t,rfl⟩:=r;exact call_range_1 (Jb I1 (by omega) (by omega) q1 q2 (by simpa using q))
def Zx(wi:TI)(g:TG)(tb:TS):TS:=fun D Z H=>wi Z H fun J H1=>∃W:Nat->Nat->St->Hp->Prop,(∃m,W 0 m Z H1)/\∀i m Z H,W i m Z H->
 (J.stop i H/\D.nx Z H)\/(J.go i H/\∃N:St->Hp->Prop,(∀di H',N di H'->∃m',m'<m/\W (i+1) m' di H')/\∀x H',J.Fj i H x H'->g x Z H' fun vK H2=>tb {D with nx:=N,ct:=N,bk:=D.nx} vK H2)
def wV(fp:List Addr)(h:Heap):List (Addr×Obj):=fp.filterMap fun b=>(h.get? b).map fun o=>(b,o)
theorem m7{fp:List Addr}{h:Heap}{o:Obj}(hb:a∈fp)(e:h.get? a=some o):(a,o)∈wV fp h:=k_.mpr ⟨a,hb,by rw[e];rfl⟩
theorem G1{fp:List Addr}{p:Addr×Obj}(hp:p∈wV fp aa):p.1∈fp/\aa.get? p.1=some p.2:=by
 obtain⟨b,hb,e⟩:=k_.mp hp;cases q:aa.get? b with
 |none=>rw[q]at e;cases e
 |some o=>
  rw[q]at e;have e':(b,o)=p:=Option.some.inj e;subst e';exact⟨hb,q⟩
theorem Inv.pinned {fp:List Addr}(I:Inv X U Z H s)(hf:∀b∈fp,kD X U H b)(ho:∀b∈fp,∃o,s.heap.get? b=some o/\∀v,o.data≠ .cell v):Inv X (U++wV fp s.heap) Z H s:=
 I.jV fun p hp=>(dw.mp hp).elim (fun z=>I.pin p (dk _ z)) fun z=>by
   obtain⟨hb,e⟩:=G1 z;obtain⟨f0,f1,f2,_⟩:=hf p.1 hb;obtain⟨o,e',d⟩:=ho p.1 hb;rw[e]at e';cases e';exact⟨e,f0,f1,f2,d⟩
theorem Inv.sS {pl:List (Addr×Obj)}(I:Inv X (U++pl) Z H s):Inv X U Z H s:=I.jV fun p hp=>I.pin p (dk _ (jO _ hp))
theorem DP{wi:TI}{g:TG}{tb:TS}(hp:PassesOwn (model X.prog X.w) X.A X.env X.xe)(hc:X.calm=true)(hi:PI X tg am wi)(hg:PG X tg g)(hb:n_ X ah tb)
  (hs:∀x,foldedSetIterable am X.env x=pure x:=by intro _;rfl):PS X (.For tg am ah [] pos) (Zx wi g tb):=by
 intro U s Z H D I h;refine wpAny_For (d7 (hi U s Z H _ I h) fun v s1 h1=>d7 h1 fun YM s2 h2=>?_) hs;obtain⟨it,fp,tn,J,H2,e,I2,T,ME,f2,W,⟨m0,w0⟩,turn⟩:=h2;subst e;have DQ:∀{H':Hp},(∀b∈fp,H' b=none)->∀b∈fp,kD X U H' b:=fun hn b hb=>⟨hn b hb,(f2 b hb).2⟩;refine codeAny_forLoop_any (fun n s'=>∃i di H',Inv X U di H' s'/\tn i s'.heap/\(∀b∈fp,H' b=none)/\W i n di H') ?_ m0 ⟨0,Z,H2,I2,ME,fun b hb=>(f2 b hb).1,w0⟩
 rintro n s3 ⟨i,MF,H3,I3,st3,fr3,w3⟩
 rcases turn i n MF H3 w3 with⟨stop,qn⟩|⟨go,N,hN,step⟩
 ·refine oS hp (d7 (T.done X rfl rfl rfl hc i U s3 MF H3 X.xe I3 (DQ fr3) st3 stop) fun r s4 ⟨hr,I4⟩=>?_);subst hr;exact sH ⟨MF,H3,I4,qn⟩
 ·refine oS hp (d7 (T.item X rfl rfl rfl hc i U s3 MF H3 X.xe I3 (DQ fr3) st3 go) fun r s4 ⟨u,hr,h4⟩=>?_);subst hr;refine oS hp (d7 h4 fun _ s5 ⟨x,H5,I5,r5,y5,Uj,YO⟩=>?_);have I5':=I5.pinned (DQ YO) (T.obj _ _ Uj);refine oS hp (d7 (hg _ s5 MF H5 x u _ I5' r5 (step x H5 y5)) fun _ s6 ⟨Zy,H6,I6,q6⟩=>?_);refine oS hp (d7 (hb _ s6 Zy H6 _ I6 q6) fun f s7 q7=>?_);have again:∀{Jc:St} {H7:Hp},Inv X (U++wV fp s5.heap) Jc H7 s7->N Jc H7->∃m,m<n/\∃i di H',Inv X U di H' s7/\tn i s7.heap/\(∀b∈fp,H' b=none)/\W i m di H':=fun{Jc H7} I7 n7=>by
   obtain⟨m',hm,w7⟩:=hN Jc H7 n7;refine⟨m',hm,i+1,Jc,H7,I7.sS,T.keep _ _ _ Uj fun b hb o e=>(I7.pin (b,o) (dk _ (dk _ (m7 hb e)))).1,fun b hb=>?_,w7⟩;obtain⟨o,e,d⟩:=T.obj _ _ Uj b hb;exact(I7.pin (b,o) (dk _ (dk _ (m7 hb e)))).2.1
  cases f with
  |next=>obtain⟨Jc,H7,I7,n7⟩:=q7;exact again I7 n7
  |cont=>obtain⟨Jc,H7,I7,n7⟩:=q7;exact again I7 n7
  |brk=>obtain⟨Jc,H7,I7,q7⟩:=q7;exact⟨Jc,H7,I7.sS,q7⟩
  |ret v=>obtain⟨x7,Jc,H7,I7,r7,q7⟩:=q7;exact⟨x7,Jc,H7,I7.sS,r7,q7⟩
abbrev R2:=V->V->Hp->VK->Prop
def uy(X:Cx)(f:Value->Value->Sem Value)(r:R2):Prop:=
 ∀(U:List (Addr×Obj)) (s:Shared) (Z:St) (H:Hp) (x y:V) (v u:Value) (Q:VK),Inv X U Z H s->RelV x v->RelV y u->r x y H Q->
  wpAny (model X.prog X.w) X.A (f v u) (EP X U Z Q) X.xe s
def Zz(X:Cx)(f:Value->Sem Value)(r:V->Hp->VK->Prop):Prop:=
 ∀(U:List (Addr×Obj)) (s:Shared) (Z:St) (H:Hp) (x:V) (v:Value) (Q:VK),Inv X U Z H s->RelV x v->r x H Q->
  wpAny (model X.prog X.w) X.A (f v) (EP X U Z Q) X.xe s
def gn(X:Cx)(f:Value)(r:List V->Hp->VK->Prop):Prop:=
 ∀(U:List (Addr×Obj)) (s:Shared) (Z:St) (H:Hp) (xs:List V) (us:List Value) (Q:VK),Inv X U Z H s->Vals xs us->r xs H Q->
  wpAny (model X.prog X.w) X.A (call f us) (EP X U Z Q) X.xe s
def ZC(X:Cx)(r:V->Hp->(Bool->Hp->Prop)->Prop):Prop:=
 ∀(U:List (Addr×Obj)) (s:Shared) (Z:St) (H:Hp) (x:V) (v:Value) (Q:Bool->Hp->Prop),Inv X U Z H s->RelV x v->r x H Q->
  wpAny (model X.prog X.w) X.A (truthy v) (TP X U Z Q) X.xe s
def Qu(r:R2)(ta tb:TE):TE:=fun Z H Q=>ta Z H fun x H1=>tb Z H1 fun y H2=>r x y H2 Q
def tUn(r:V->Hp->VK->Prop)(ta:TE):TE:=fun Z H Q=>ta Z H fun x H1=>r x H1 Q
def rI(C:Int->Int->Prop)(g:Int->Int->V):R2:=fun x y H Q=>∃i j,x=.int i/\y=.int j/\C i j/\Q (g i j) H
def Qv(g:Int->Int->V):R2:=fun x y H Q=>∃i j,x=.int i/\y=.int j/\Q (g i j) H
def rU(g:Int->V):V->Hp->VK->Prop:=fun x H Q=>∃i,x=.int i/\Q (g i) H
section
variable {a c:Expr}{ta tb tc:TE}
theorem Qw(ha:PE X a ta)(hb:PE X e tb){R:V->V->Hp->Prop}(I:Inv X U Z H s)
  (h:ta Z H fun x H1=>tb Z H1 fun y H2=>R x y H2) {f:Value->Value->Sem Value}
  (hf:∀v u s2 x y H2,Inv X U Z H2 s2->RelV x v->RelV y u->R x y H2->wpAny (model X.prog X.w) X.A (f v u) Q X.xe s2):
  wpAny (model X.prog X.w) X.A (eval a X.env) (fun v cZ=>wpAny (model X.prog X.w) X.A (eval e X.env) (fun u sT=>wpAny (model X.prog X.w) X.A (f v u) Q X.xe sT) X.xe cZ) X.xe s:=by
 refine d7 (ha U s Z H _ I h) fun v s1 ⟨x,H1,I1,r1,q1⟩=>?_
 refine d7 (hb U s1 Z H1 _ I1 q1) fun u s2 ⟨y,H2,I2,r2,q2⟩=>?_
 exact hf v u s2 x y H2 I2 r1 r2 q2
theorem O8{op:Operator}{r:R2}(ho:uy X (binaryOp op) r)(ha:PE X a ta)(hb:PE X e tb):PE X (.BinOp a op e pos) (Qu r ta tb):=by
 intro U s Z H Q I h;exact wpAny_BinOp (Qw ha hb I h fun v u s2 x y H2 I2 rx ry q=>ho U s2 Z H2 x y v u Q I2 rx ry q)
theorem U4{op:UnaryOp}{r:V->Hp->VK->Prop}(ho:Zz X (unaryOp op) r)(ha:PE X a ta):PE X (.UnaryOp op a pos) (tUn r ta):=by
 intro U s Z H Q I h;exact UnaryOp_ (d7 (ha U s Z H _ I h) fun v s1 ⟨x,H1,I1,r1,q1⟩=>ho U s1 Z H1 x v Q I1 r1 q1)
theorem opI{f:Value->Value->Sem Value}{C:Int->Int->Prop}{g:Int->Int->Int}
  (rule:∀(i j:Int) (t u:Tok) (s:Shared) (Q:Value->Shared->Prop) (E:Value->Shared->Prop),C i j->Q (.int (g i j) s.toks) {s with toks:=s.toks+1}->wpAny (model X.prog X.w) X.A (f (.int i t) (.int j u)) Q E s):
  uy X f (rI C fun i j=>.int (g i j)):=by
 intro U s Z H x y v u Q I rx ry h;obtain⟨i,j,rfl,rfl,hc,q⟩:=h;obtain⟨t,rfl⟩:=rx;obtain⟨t',rfl⟩:=ry;exact rule i j t t' s _ _ hc ⟨.int (g i j),H,I.tok _,⟨_,rfl⟩,q⟩
theorem ZD{f:Value->Value->Sem Value}{g:Int->Int->Int}
  (rule:∀(i j:Int) (t u:Tok) (s:Shared) (Q:Value->Shared->Prop) (E:Value->Shared->Prop),Q (.int (g i j) s.toks) {s with toks:=s.toks+1}->wpAny (model X.prog X.w) X.A (f (.int i t) (.int j u)) Q E s):
  uy X f (Qv fun i j=>.int (g i j)):=by
 intro U s Z H x y v u Q I rx ry h;obtain⟨i,j,rfl,rfl,q⟩:=h;obtain⟨t,rfl⟩:=rx;obtain⟨t',rfl⟩:=ry;exact rule i j t t' s _ _ ⟨.int (g i j),H,I.tok _,⟨_,rfl⟩,q⟩
theorem MG{f:Value->Value->Sem Value}{g:Int->Int->Bool}
  (rule:∀(i j:Int) (t u:Tok) (s:Shared) (Q:Value->Shared->Prop) (E:Value->Shared->Prop),Q (.bool (g i j)) s->wpAny (model X.prog X.w) X.A (f (.int i t) (.int j u)) Q E s):
  uy X f (Qv fun i j=>.bl (g i j)):=by
 intro U s Z H x y v u Q I rx ry h;obtain⟨i,j,rfl,rfl,q⟩:=h;obtain⟨t,rfl⟩:=rx;obtain⟨t',rfl⟩:=ry;exact rule i j t t' s _ _ ⟨.bl (g i j),H,I,rfl,q⟩
def Jd(i j:Int):Prop:=(-(2 ^64)<i/\i<2 ^64)\/(-(2 ^64)<j/\j<2 ^64)
theorem Jd.ok {i j:Int}(h:Jd i j):IntMulOk i j:=by
 rcases h with⟨h1,h2⟩|⟨h1,h2⟩
 ·exact .of_left (intBits_le_64 h1 h2)
 ·exact .of_right (intBits_le_64 h1 h2)
theorem Qx:uy X (binaryOp .Add) (Qv fun i j=>.int (i+j)):=ZD fun _ _ _ _ _ _ _ q=>add_int q
theorem Qy:uy X (binaryOp .Mult) (rI Jd fun i j=>.int (i*j)):=opI fun _ _ _ _ _ _ _ hc q=>mul_int q hc.ok
theorem Qz:uy X (binaryOp .Mod) (rI (fun _ j=>0<j) fun i j=>.int (i % j)):=opI fun i j _ _ _ _ _ hc q=>by
 have h1:(0:Int)<j:=hc;exact mod_int' (by omega) (by rw[Int.fmod_eq_emod_of_nonneg i (by omega)];exact q)
theorem unI{f:Value->Sem Value}{g:Int->Int}
  (rule:∀(i:Int) (t:Tok) (s:Shared) (Q:Value->Shared->Prop) (E:Value->Shared->Prop),Q (.int (g i) s.toks) {s with toks:=s.toks+1}->wpAny (model X.prog X.w) X.A (f (.int i t)) Q E s):
  Zz X f (rU fun i=>.int (g i)):=by
 intro U s Z H x v Q I rx h;obtain⟨i,rfl,q⟩:=h;obtain⟨t,rfl⟩:=rx;exact rule i t s _ _ ⟨.int (g i),H,I.tok _,⟨_,rfl⟩,q⟩
theorem QC:Zz X (unaryOp .USub) (rU fun i=>.int (-i)):=unI fun _ _ _ _ _ q=>neg_int q
end
section
variable {b c:Expr}{ta tb tc:TE}
theorem uz{Q:VK}{k k':Bool}(I:Inv X U Z H s)(q:Q (.bl k) H)(e:k=k'):EP X U Z Q (.bool k') s:=by
 subst e;exact⟨.bl k,H,I,rfl,q⟩
theorem U5:uy X (compareOp .Lt) (Qv fun i j=>.bl (decide (i<j))):=MG fun _ _ _ _ _ _ _ q=>lt_int q
theorem U6:uy X (compareOp .LtE) (Qv fun i j=>.bl (decide (i<=j))):=MG fun _ _ _ _ _ _ _ q=>le_int q
theorem U7:uy X (compareOp .Gt) (Qv fun i j=>.bl (decide (j<i))):=MG fun _ _ _ _ _ _ _ q=>gt_int q
theorem U8:uy X (compareOp .GtE) (Qv fun i j=>.bl (decide (j<=i))):=MG fun _ _ _ _ _ _ _ q=>ge_int q
theorem G3:uy X (compareOp .Lt) (fun x y H Q=>∃i j,x=.str i/\y=.str j/\Q (.bl (decide (i.cps.toList<j.cps.toList))) H):=by
 intro U s Z H x y v u Q I rx ry h;obtain⟨i,j,rfl,rfl,q⟩:=h;obtain⟨t,rfl⟩:=rx;obtain⟨t',rfl⟩:=ry;exact lt_str (uz I q rfl)
theorem G4:uy X (compareOp .In) (fun x y H Q=>∃i j,x=.str i/\y=.str j/\Q (.bl (!(Builtin.Str.occurrences j i 0 j.length 1).isEmpty)) H):=by
 intro U s Z H x y v u Q I rx ry h;obtain⟨i,j,rfl,rfl,q⟩:=h;obtain⟨t,rfl⟩:=rx;obtain⟨t',rfl⟩:=ry;exact in_str (uz I q rfl)
theorem QH:uy X (compareOp .Is) (fun x y H Q=>y=.cu/\Q (.bl (decide (x=.cu))) H):=by
 intro U s Z H x y v u Q I rx ry h;obtain⟨rfl,q⟩:=h;cases ry;refine is_none_gen (uz I q ?_);cases x<;>first
  |(cases rx;rfl)
  |(obtain⟨t,rfl⟩:=rx;rfl)
theorem Ad:uy X (compareOp .NotIn) (fun x y H Q=>∃i j,x=.str i/\y=.str j/\Q (.bl (!(!(Builtin.Str.occurrences j i 0 j.length 1).isEmpty))) H):=by
 intro U s Z H x y v u Q I rx ry h;obtain⟨i,j,rfl,rfl,q⟩:=h;obtain⟨t,rfl⟩:=rx;obtain⟨t',rfl⟩:=ry;exact notIn_str (uz I q rfl)
theorem Ae(b:Expr){op:CmpOp}(h:op≠ .In:=by decide) (h2:op≠ .NotIn:=by decide):behindInMarks op b=false:=by
 have e1:(op==CmpOp.In)=false:=by cases op<;>first|rfl|exact absurd rfl h
 have e2:(op==CmpOp.NotIn)=false:=by cases op<;>first|rfl|exact absurd rfl h2
 cases b<;>simp[behindInMarks,e1,e2]
theorem MH{op:CmpOp}{r:R2}(ho:uy X (compareOp op) r)(ha:PE X o ta)(hb:PE X b tb)(hm:behindInMarks op b=false):PE X (.Compare o [op] [b] pos) (Qu r ta tb):=by
 intro U s Z H Q I h;exact wpAny_Compare1 (Qw ha hb I h fun v u s2 x y H2 I2 rx ry q=>ho U s2 Z H2 x y v u Q I2 rx ry q) hm
def U9(t:TE):TT:=fun Z H Q=>t Z H fun x H'=>∃k,x=.bl k/\Q k H'
theorem MI{op:CmpOp}{r:R2}(ho:uy X (compareOp op) r)(ha:PE X o ta)(hb:PE X b tb)(hm:behindInMarks op b=false):PT X (.Compare o [op] [b] pos) (U9 (Qu r ta tb)):=by
 intro U s Z H Q I h;refine wpAny_isTrue_Compare1 (d7 (ha U s Z H _ I h) fun v s1 ⟨x,H1,I1,r1,q1⟩=>d7 (hb U s1 Z H1 _ I1 q1) fun u s2 ⟨y,H2,I2,r2,q2⟩=>
  d7 (ho U s2 Z H2 x y v u _ I2 r1 r2 q2) fun c s3 ⟨z,H3,I3,r3,k,e,q3⟩=>?_) hm
 subst e;cases r3;exact oM ⟨H3,I3,q3⟩
def MJ(K:Frag)(x:V)(H:Hp)(k:Bool):Prop:=
 match x with
 |.cu=>k=false
 |.bl b=>k=b
 |.int i=>k=(i !=0)
 |.str y=>y.length<=sizeLine/\k=((y.length:Int) !=0)
 |.O0 y=>y.size<=sizeLine/\k=((y.size:Int) !=0)
 |.ref p=>(∃xs,ll K H p xs/\k=!xs.isEmpty)\/(∃xs,i7 K H p xs/\k=!xs.isEmpty)\/∃kvs,Rd H p (.dK kvs)/\k=!kvs.isEmpty
 |_=>False
theorem DR{kvs:List (ag×V)}{vs:List (ag×Value)}(r:KV kvs vs):(!vs.isEmpty)=!kvs.isEmpty:=by
 cases r<;>rfl
theorem wW(r:Vals ar aq):(!aq.toArray.isEmpty)=!ar.isEmpty:=by
 cases r<;>simp
theorem wX:(sizeLine:Nat)<2 ^63:=by rw[dH];decide
theorem Je:ZC X (fun x H Q=>∃k,MJ X.K x H k/\Q k H):=by
 intro U s Z H x v Q I rx h;obtain⟨k,e,q⟩:=h;have hl:=wX;have hs:sizeLine=16777216:=dH;cases x with
 |cu=>
  cases rx;have e':k=false:=e;subst e';exact truthy_none ⟨H,I,q⟩
 |bl b=>
  cases rx;have e':k=b:=e;subst e';exact oM ⟨H,I,q⟩
 |int i=>
  obtain⟨t,rfl⟩:=rx;have e':k=(i !=0):=e;subst e';exact PySem.P.truthy_int ⟨H,I,q⟩
 |str y=>
  obtain⟨t,rfl⟩:=rx;obtain⟨hy,e'⟩:y.length<=sizeLine/\k=((y.length:Int) !=0):=e;subst e';exact PySem.P.truthy_str (by omega) ⟨H,I.tok _,q⟩
 |O0 y=>
  obtain⟨t,rfl⟩:=rx;obtain⟨hy,e'⟩:y.size<=sizeLine/\k=((y.size:Int) !=0):=e;subst e';exact PySem.W.truthy_bytes (by omega) ⟨H,I.tok _,q⟩
 |ref p=>
  cases rx;have e':(∃xs,ll X.K H p xs/\k=!xs.isEmpty)\/(∃xs,i7 X.K H p xs/\k=!xs.isEmpty)\/∃kvs,Rd H p (.dK kvs)/\k=!kvs.isEmpty:=e;rcases e' with⟨xs,hx,e'⟩|⟨xs,hx,e'⟩|⟨kvs,hx,e'⟩
  ·subst e';obtain⟨cc,r,pl,hz⟩:=I.list hx;have b9:=r.length;exact wpAny_truthy_list pl.isList (by simp only[cO];omega) ⟨H,I.tok _,by rw[wW r];exact q⟩
  ·subst e';obtain⟨cc,r,pl,hz⟩:=I.tuple hx;have b9:=r.length;exact truthy_tuple pl (by simp only[cO];omega) ⟨H,I.tok _,by rw[wW r];exact q⟩
  ·subst e';obtain⟨hz,hS,vs,r,m⟩:kvs.length<=sizeLine/\(p==sysModules)=false/\∃vs,KV kvs vs/\s.heap.DictOf (bY X.prog X.w) p vs:=hx.ok I.cP;have b9:kvs.length=vs.length:=Paired.length r;exact wpAny_truthy_dict hS m (by omega) ⟨H,I.tok _,by rw[DR r];exact q⟩
 |_=>exact fe e
theorem BN(ha:PE X o ta)(he:∀whole,isTrue o X.env whole=(do let v<-whole;standAt o.pos;holding [v] (truthy v))):
  PT X o (fun Z H Q=>ta Z H fun x H'=>∃k,MJ X.K x H' k/\Q k H'):=by
 intro U s Z H Q I h;exact isTrue_plain (d7 (ha U s Z H _ I h) fun v s1 ⟨x,H1,I1,r1,q1⟩=>Je U s1 Z H1 x v Q I1 r1 q1) (he _)
theorem DT:uy X (binaryOp .Add) (fun x y H Q=>∃i j,x=.str i/\y=.str j/\i.length+j.length<=sizeLine/\Q (.str (i++j)) H):=by
 intro U s Z H x y v u Q I rx ry h;obtain⟨i,j,rfl,rfl,hz,q⟩:=h;obtain⟨t,rfl⟩:=rx;obtain⟨t',rfl⟩:=ry;exact add_str (fun t' tk=>⟨.str (i++j),H,I.tok _,⟨_,rfl⟩,q⟩) hz
theorem vals1{x:V}(r:Vals [x] aq):∃u,aq=[u]/\RelV x u:=by
 cases r with
 |cons r1 r2=>cases r2;exact⟨_,rfl,r1⟩
theorem vals2{x y:V}(r:Vals [x,y] aq):∃u w',aq=[u,w']/\RelV x u/\RelV y w':=by
 cases r with
 |cons r1 r2=>
  cases r2 with
  |cons r3 r4=>cases r4;exact⟨_,_,rfl,r1,r3⟩
theorem G5(hc:X.calm=true):gn X (.builtin "max") (fun xs H Q=>∃i j,xs=[.int i,.int j]/\Q (.int (if j>i then j else i)) H):=by
 intro U s Z H xs us Q I r h;obtain⟨i,j,rfl,q⟩:=h;obtain⟨u,w',rfl,⟨t,rfl⟩,⟨t',rfl⟩⟩:=vals2 r;refine max_two_ints (I.ok.hd hc) fun h' tk k=>⟨_,H,I.kept k,?_,q⟩;by_cases hj:j>i
 ·rw[aS hj,aS hj];exact⟨_,rfl⟩
 ·rw[aW hj,aW hj];exact⟨_,rfl⟩
theorem y6:gn X (.type "int") (fun xs H Q=>(∃i,xs=[.int i]/\Q (.int i) H)\/∃k,xs=[.bl k]/\Q (.int (if k then 1 else 0)) H):=by
 intro U s Z H xs us Q I r h;rcases h with⟨i,rfl,q⟩|⟨k,rfl,q⟩
 ·obtain⟨u,rfl,t,rfl⟩:=vals1 r;exact call_int_int ⟨.int i,H,I,⟨_,rfl⟩,q⟩
 ·obtain⟨u,rfl,r1⟩:=vals1 r;cases r1;exact call_int_bool ⟨.int (if k then 1 else 0),H,I.tok _,⟨_,rfl⟩,q⟩
def ZF(K:Frag)(x:V)(H:Hp)(n:Nat):Prop:=
 match x with
 |.str y=>y.length<=sizeLine/\n=y.length
 |.O0 y=>y.size<=sizeLine/\n=y.size
 |.ref p=>(∃xs,ll K H p xs/\n=xs.length)\/∃xs,i7 K H p xs/\n=xs.length
 |_=>False
theorem sU:gn X (.builtin "len") (fun xs H Q=>∃x n,xs=[x]/\ZF X.K x H n/\Q (.int n) H):=by
 intro U s Z H xs us Q I r h;obtain⟨x,n,rfl,e,q⟩:=h;obtain⟨u,rfl,rx⟩:=vals1 r;have hl:=wX;have hs:sizeLine=16777216:=dH;cases x with
 |str y=>
  obtain⟨t,rfl⟩:=rx;obtain⟨hy,e'⟩:y.length<=sizeLine/\n=y.length:=e;subst e';exact len_str (by omega) ⟨.int _,H,I.tok _,⟨_,rfl⟩,q⟩
 |O0 y=>
  obtain⟨t,rfl⟩:=rx;obtain⟨hy,e'⟩:y.size<=sizeLine/\n=y.size:=e;subst e';exact PySem.W.len_bytes (by omega) ⟨.int _,H,I.tok _,⟨_,rfl⟩,q⟩
 |ref p=>
  cases rx;have e':(∃xs,ll X.K H p xs/\n=xs.length)\/∃xs,i7 X.K H p xs/\n=xs.length:=e;rcases e' with⟨xs,hx,e'⟩|⟨xs,hx,e'⟩
  ·subst e';obtain⟨cc,r',pl,hz⟩:=I.list hx;have b9:=r'.length;exact Calls.call_len_list pl.isList (by simp only[cO];omega) ⟨.int xs.length,H,I.tok _,⟨_,by simp only[cO];rw[b9]⟩,q⟩
  ·subst e';obtain⟨cc,r',pl,hz⟩:=I.tuple hx;have b9:=r'.length;exact len_tuple pl (by simp only[cO];omega) ⟨.int xs.length,H,I.tok _,⟨_,by simp only[cO];rw[b9]⟩,q⟩
 |_=>exact fe e
end
structure DU(h:Heap)(x dx C:Addr)(mA:Str->Option Value):Prop where
 obj:h.get? x=some (PySem.W.instObj C dx)
 ns:h.Ns1 dx mA
 ne:dx≠x
theorem G6(n:aa.Ns1 au mg):∃od,aa.get? au=some od/\∀name,PySem.W.lookIn name od=some (mg name):=by
 obtain⟨o,es,ep,ho,hd,hk,_,hm⟩:=n;refine⟨o,ho,fun name=>?_⟩;have e:=hm name;unfold nsFind findBy at e;rw[<-Array.find?_toList]at e;unfold PySem.W.lookIn;rw[hd];dsimp only;split
 ·rename_i y q;rw[q]at e;exact cQ some e
 ·rename_i q;rw[q]at e;have a:es.toList.any (·.refKey)=false:=by
   rw[List.any_eq_false];intro y hy;obtain⟨z,t,Jf⟩:=hk y (Array.mem_toList_iff.mp hy);simp[DictEntry.refKey,Jf]
  have a':¬es.toList.any (·.refKey)=true:=by rw[a];exact fD
  rw[aW a'];exact cQ some e
theorem DU.look {h:Heap}{x dx C:Addr}{mA:Str->Option Value}(I:DU h x dx C mA):∃od,PySem.W.InstAt h x (PySem.W.instObj C dx) C (some od)/\∀name,PySem.W.lookIn name od=some (mA name):=
 let⟨od,ho,hl⟩:=G6 I.ns
 ⟨od,⟨I.obj,rfl,rfl,ho⟩,hl⟩
section
variable {x C f:Addr}
theorem get_map{expr:Bool}(X:K.In s.heap)(I:DU s.heap x au C mg)(hg:PySem.W.plainGet K C av=true)(hh:PySem.W.hasDictIn K C=true)
  (ha:PySem.W.findIn K (.ref C) av=some none) (hv:mg av=some af) (Jg:PySem.W.handedIn af=true) (h:Q af {s with toks:=s.toks+1}):
  wpAny (model P w) A (getAttr (.ref x) av expr) Q E s:=by
 obtain⟨od,J,hl⟩:=I.look;exact PySem.W.get_value X J (oz hg).1 (PySem.W.findObj_own hh ha rfl (by rw[hl,hv])) Jg h
theorem Jh{pl:Sem Bool}{Q:Value×List Value->Shared->Prop}(X:K.In s.heap)(I:DU s.heap x au C mg)(hg:PySem.W.plainGet K C av=true)
  (hf:PySem.W.findIn K (.ref C) av=some (some (.ref f))) (ht:PySem.W.isFn K (.ref f)=true) (hv:mg av=none) (h:Q (.ref f,[.ref x]) s):
  wpAny (model P w) A (getMethod (.ref x) av pl) Q E s:=by
 obtain⟨od,J,hl⟩:=I.look;exact PySem.W.method_fn X J (oz hg).1 (oz hg).2 hf (eV.mp ht) (by show(PySem.W.lookIn av od).map (·.isSome)=some false;rw[hl,hv];rfl) h
theorem MK(X:K.In s.heap)(I:DU s.heap x au C mg)
  (hs:PySem.W.findIn K (.ref C) "__setattr__"=some (some (.builtin "object.__setattr__"))) (hp:PySem.W.plainOver K C=true) (ht:PySem.W.takerIn K C av=some none) (hh:PySem.W.hasDictIn K C=true)
  (hw:PySem.Within mg ps) (hsz:ps.length<=sizeLine)
  (h:∀h',DU h' x au C (fun y=>if y=av then some af else mg y)->Heap.SameBut au s.heap h'->ae () {s with heap:=h',toks:=s.toks+2}):
  wpAny (model P w) A (setAttr (.ref x) av af) ae E s:=by
 obtain⟨od,J,hl⟩:=I.look;refine PySem.W.set_plain X J hs (PySem.W.osa_open (s:={s with toks:=s.toks+1}) (r:=none) X J hp ht fun b=>?_);obtain⟨cd,hc,Mx⟩:=PySem.W.any_some hh;have hx:s.heap.get? x=some ⟨.ref C,some au,.plain,#[]⟩:=I.obj;refine aP (a_ (aP (aP (wpAny_loadPart hx (aP (PySem.W.Looks.here (s:={s with toks:=s.toks+1}) (PySem.W.looks_clsIn X hc) ?_))))));rw[Mx];refine a_ (a:=some au) (aP (a_ (aP ?_)));refine wpAny_nsSet1 (s:={s with toks:=s.toks+1}) I.ns fun h' QK U_=>?_
 obtain⟨oD,esD,epD,hoD,hdD,hcD⟩:=QK.count (PySem.Within.cons av af hw);refine aP (wpAny_lookBehind hoD (by rw[hdD];exact pastItsLine_dict (cw hcD (by rw[dg];omega))) ?_);exact a_ (h _ ⟨(U_.2 _ (Ne.symm I.ne)).trans I.obj,QK,I.ne⟩ U_)
theorem Ji{kw:List (Str×Value)}(X:K.In s.heap)(hm:PySem.W.makesIn K C=true)
  (hi:PySem.W.findIn K (.ref C) "__init__"=some (some (.ref f))) (hf:PySem.W.typeIn K (.ref f)=some (.type "function"))
  (h:codeAny (model P w) (A.under (.builtin "type.__call__" ⟨.ref C::aq,kw⟩)) (.call (.ref f) ⟨.ref (s.heap.objs.size+1)::aq,kw⟩) (PySem.W.InitBack (s.heap.objs.size+1) aw)
   {s with heap:=(s.heap.push PySem.W.emptyDict).push (PySem.W.instObj C s.heap.objs.size)}):
  codeAny (model P w) A (.call (.ref C) ⟨aq,kw⟩) aw s:=by
 obtain⟨hh,g,d,t,os⟩:=s;exact PySem.W.make_core (PySem.W.makes_of X hm) (sL X hi) (fun self=>PySem.W.bind_fn X self hf) (.inl rfl) h
end
def mq(f:Str)(v:V):List (Str×V)->List (Str×V)
 |[]=>[(f,v)]
 |(g,x)::r=>if g=f then(g,v)::r else(g,x)::mq f v r
theorem uV(f g:Str)(v:V):∀fs:List (Str×V),(mq f v fs).lookup g=if g=f then some v else fs.lookup g
 |[]=>by
  show List.lookup g [(f,v)]=_;by_cases h:g=f
  ·have hb:(g==f)=true:=eV.mpr h;simp only[List.lookup,hb,aS h]
  ·have hb:(g==f)=false:=iW.mpr h;simp only[List.lookup,hb,aW h]
 |(k,x)::r=>by
  have ih:=uV f g v r;rw[show mq f v ((k,x)::r)=(if k=f then(k,v)::r else(k,x)::mq f v r)from rfl];by_cases hk:k=f
  ·rw[aS hk];by_cases h:g=k
   ·have hb:(g==k)=true:=eV.mpr h;simp only[List.lookup,hb,aS (h.trans hk)]
   ·have hb:(g==k)=false:=iW.mpr h;simp only[List.lookup,hb,aW (fun e:g=f=>h (e.trans hk.symm))]
  ·rw[aW hk];by_cases h:g=k
   ·have hb:(g==k)=true:=eV.mpr h;simp only[List.lookup,hb,aW (fun e:g=f=>hk (h.symm.trans e))]
   ·have hb:(g==k)=false:=iW.mpr h;simp only[List.lookup,hb];exact ih
theorem uA(f:Str)(v:V):∀fs:List (Str×V),f∈(mq f v fs).map (·.1)/\∀g,g∈fs.map (·.1)->g∈(mq f v fs).map (·.1)
 |[]=>⟨by simp[mq],fun g h=>by simp at h⟩
 |(k,x)::r=>by
  obtain⟨i1,i2⟩:=uA f v r;rw[show mq f v ((k,x)::r)=(if k=f then(k,v)::r else(k,x)::mq f v r)from rfl];by_cases hk:k=f
  ·rw[aS hk];subst hk;exact⟨by simp,fun g h=>by simpa using h⟩
  ·rw[aW hk];refine⟨?_,fun g h=>?_⟩
   ·rw[bH];exact b_ _ i1
   ·rw[bH]at h⊢;rcases bB.mp h with e|e
    ·exact bB.mpr (.inl e)
    ·exact b_ _ (i2 g e)
theorem uW(f:Str)(v:V):∀fs:List (Str×V),(mq f v fs).length<=fs.length+1
 |[]=>by simp[mq]
 |(k,x)::r=>by
  have ih:=uW f v r;rw[show mq f v ((k,x)::r)=(if k=f then(k,v)::r else(k,x)::mq f v r)from rfl];by_cases hk:k=f
  ·rw[aS hk,dg,dg];omega
  ·rw[aW hk,dg,dg];omega
theorem lG.some_of {v:V}{o:Option Value}(r:lG (some v) o):∃u,o=some u/\RelV v u:=by
 cases o with
 |none=>exact fe r
 |some u=>exact⟨u,rfl,r⟩
theorem lG.none_of {o:Option Value}(r:lG none o):o=none:=by
 cases o with
 |none=>rfl
 |some u=>exact fe r
theorem G7{v:V}{u:Value}(r:RelV v u):PySem.W.handedIn u=true:=by
 cases v with
 |cu=>cases(show u=Value.none from r);rfl
 |bl b=>cases(show u=Value.bool b from r);rfl
 |int i=>obtain⟨t,e⟩:=(show∃t,u=Value.int i t from r);cases e;rfl
 |str x=>obtain⟨t,e⟩:=(show∃t,u=Value.str x t from r);cases e;rfl
 |O0 b=>obtain⟨t,e⟩:=(show∃t,u=Value.bytes b t from r);cases e;rfl
 |GW b=>obtain⟨t,e⟩:=(show∃t,u=Value.float b t from r);cases e;rfl
 |ref a=>cases(show u=Value.ref a from r);rfl
 |ty n=>cases(show u=Value.type n from r);rfl
section
variable {h':Heap}{dx:Addr}{fs fs':List (Str×V)}
theorem sV(cP:rB P w H aa)(e:H a=some (.ins au dx fs)):∃mA,DU aa a dx au mA/\(∀f,lG (fs.lookup f) (mA f))/\PySem.Within mA (fs.map (·.1))/\fs.length<=1000/\H dx=some (.own a):=by
 obtain⟨d,z,ne,ob,mA,n,r,q⟩:=(show cR P w H aa a (.ins au dx fs)from cP a _ e);exact⟨mA,⟨ob,n,ne⟩,r,q,z,d⟩
end
structure DV(K:Frag)(C:Addr):Prop where
 pg:PySem.W.plainGet K C Str.empty=true
 hd:PySem.W.hasDictIn K C=true
 po:PySem.W.plainOver K C=true
 sa:PySem.W.findIn K (.ref C) "__setattr__"=some (some (.builtin "object.__setattr__"))
theorem DV.get {C:Addr}(c:DV K C)(f:Str):PySem.W.plainGet K C f=true:=c.pg
def rD(K:Frag)(C:Addr)(f:Str):Prop:=PySem.W.findIn K (.ref C) f=some none
theorem rD.U' {C:Addr}{f:Str}(n:rD K C f):PySem.W.takerIn K C f=some none:=by
 unfold PySem.W.takerIn;rw[show PySem.W.findIn K (.ref C) f=some none from n]
 rfl
structure Meth(K:Frag)(C:Addr)(m:Str)(f:Addr):Prop where
 at_:PySem.W.findIn K (.ref C) m=some (some (.ref f))
 fn:PySem.W.isFn K (.ref f)=true
 kp:PySem.W.keepIn K (.ref f)=true
section
variable {C:Addr}{fs:List (Str×V)}{f:Str}{v:V}
theorem DW{b:Bool}(I:Inv X U Z H s)(e:H a=some (.ins C au fs))(c:DV X.K C)(n:rD X.K C f)(l:fs.lookup f=some v)
  (h:∀u s',Inv X U Z H s'->RelV v u->Q u s'):wpAny (model X.prog X.w) A (getAttr (.ref a) f b) Q E s:=by
 obtain⟨mA,O,r,_,_,_⟩:=sV I.cP e;obtain⟨u,hu,ru⟩:=lG.some_of (v:=v) (o:=mA f) (by rw[<-l];exact r f);exact get_map I.lH O (c.get f) c.hd n hu (G7 ru) (h u _ (I.tok _) ru)
theorem wY{g:Addr}{pl:Sem Bool}{Q:Value×List Value->Shared->Prop}(I:Inv X U Z H s)(e:H a=some (.ins C au fs))(c:DV X.K C)(k:Meth X.K C x g)(l:fs.lookup x=none)
  (h:Q (.ref g,[.ref a]) s):wpAny (model X.prog X.w) A (getMethod (.ref a) x pl) Q E s:=by
 obtain⟨mA,O,r,_,_,_⟩:=sV I.cP e;have hn:mA x=none:=lG.none_of (by rw[<-l];exact r x);exact Jh I.lH O (c.get x) k.at_ k.fn hn h
theorem DX{y:V}(I:Inv X U Z H s)(e:H a=some (.ins C au fs))(c:DV X.K C)(n:rD X.K C f)(hl:fs.length<1000)(ry:RelV y af)
  (h:∀s',Inv X U Z (upd H a (.ins C au (mq f y fs))) s'->ae () s'):wpAny (model X.prog X.w) A (setAttr (.ref a) f af) ae E s:=by
 obtain⟨mA,O,r,wi,_,ho⟩:=sV I.cP e;have hz:(fs.map (·.1)).length<=sizeLine:=by rw[bj,dH];omega
 refine MK I.lH O c.sa c.po n.U' c.hd wi hz fun h' O' sb=>h _ ?_
 have hd:∃o,h'.get? au=some o:=let⟨o,_,_,e',_⟩:=O'.ns;⟨o,e'⟩
 refine I.write (x:=a) (e:=au) (by rw[e];exact True.intro) (.inr ho) (fun b q hb z=>(sb.2 b hb).trans z) hd ?_
 refine⟨by rw[bb O.ne];exact ho,?_,O.ne,O'.obj,_,O'.ns,fun g=>?_,fun g hg=>?_⟩
 ·have:=uW f y fs;omega
 ·show lG ((mq f y fs).lookup g) (if g=f then some af else mA g);rw[uV];by_cases q:g=f
  ·rw[aS q,aS q];exact ry
  ·rw[aW q,aW q];exact r g
 ·by_cases q:g=f
  ·rw[q];exact(uA f y fs).1
  ·refine(uA f y fs).2 g (wi g fun z=>hg ?_);show(if g=f then some af else mA g)=none;rw[aW q];exact z
theorem Inv.made (I:Inv X U Z H s):Inv X U Z (upd (upd H s.heap.objs.size (.own (s.heap.objs.size+1))) (s.heap.objs.size+1) (.ins C s.heap.objs.size []))
  {s with heap:=(s.heap.push PySem.W.emptyDict).push (PySem.W.instObj C s.heap.objs.size)}:=by
 have e1:(s.heap.push PySem.W.emptyDict).get? s.heap.objs.size=some PySem.W.emptyDict:=cf s.heap rfl;have e2:((s.heap.push PySem.W.emptyDict).push (PySem.W.instObj C s.heap.objs.size)).get? (s.heap.objs.size+1)=some (PySem.W.instObj C s.heap.objs.size):=by
  have:=cf (s.heap.push PySem.W.emptyDict) (o:=PySem.W.instObj C s.heap.objs.size) rfl;rwa[jg]at this
 have e3:(s.heap.push PySem.W.emptyDict).Ns s.heap.objs.size (fun _=>none):=⟨PySem.W.emptyDict,#[],_,e1,rfl,(fun e he=>absurd he (by simp)),fun _=>rfl⟩;have I1:=I.laid (a:=s.heap.objs.size) (o:=.own (s.heap.objs.size+1)) (h':=s.heap.push PySem.W.emptyDict) (t':=s.toks) (fun b u q=>bL _ q) (bu _) ⟨_,e1⟩;refine I1.laid (a:=s.heap.objs.size+1) (o:=.ins C s.heap.objs.size []) (t':=s.toks) (fun b u q=>bL _ q) (Nat.le_of_eq (jg _ _)) ?_
 have ne:s.heap.objs.size≠s.heap.objs.size+1:=bS (oG _);refine⟨by rw[bb ne,bG],dU _,ne,e2,fun _=>none,(Heap.Ns1.of_empty e3).at fun o q=>bL _ q,fun _=>True.intro,fun y hy=>absurd rfl hy⟩
theorem Fl{env:Env}(hb:attributeBase e f env (eval e env)=eval e env)
  (h:wpAny (model P w) A (eval e env) (fun o cZ=>wpAny (model P w) A (getAttr o f true) Q E cZ) E s):wpAny (model P w) A (eval (.Attribute e f pos) env) Q E s:=
 Attribute_any_ h (by rw[arm_eval_Attribute,hb])
end
def ZG(K:Frag)(ta:TE)(f:Str):TE:=fun Z H Q=>ta Z H fun x H1=>∃a C dx fs v,x=.ref a/\H1 a=some (.ins C dx fs)/\DV K C/\rD K C f/\fs.lookup f=some v/\Q v H1
def ZH(K:Frag)(ta tv:TE)(f:Str):TS:=fun D Z H=>tv Z H fun y H1=>ta Z H1 fun x H2=>∃a C dx fs,x=.ref a/\H2 a=some (.ins C dx fs)/\DV K C/\rD K C f/\fs.length<1000/\
 D.nx Z (upd H2 a (.ins C dx (mq f y fs)))
section
variable {f:Str}{ta tv:TE}
theorem Jj(he:PE X e ta)(hb:attributeBase e f X.env (eval e X.env)=eval e X.env):PE X (.Attribute e f pos) (ZG X.K ta f):=by
 intro U s Z H Q I h;refine Fl hb (d7 (he U s Z H _ I h) fun u s1 ⟨x,H1,I1,rx,a,C,dx,fs,v,ex,ea,c,n,l,q⟩=>?_);subst ex;obtain rfl:u=Value.ref a:=rx;exact DW I1 ea c n l fun u' s2 I2 ru=>⟨v,H1,I2,ru,q⟩
theorem QL(ha:PE X o ta)(hv:PE X tg tv)(hs:swapsWith tg (some (.Attribute o f p)) pos.line X.env=pure false):PS X (.Assign [.Attribute o f p] tg pos) (ZH X.K ta tv f):=by
 intro U s Z H D I h;refine plainObj_wpAny_Assign_Attribute (d7 (hv U s Z H _ I h) fun u s1 ⟨y,H1,I1,ry,q⟩=>d7 (ha U s1 Z H1 _ I1 q) fun ov s2 ⟨x,H2,I2,rx,a,C,dx,fs,ex,ea,c,n,l,q2⟩=>?_) hs;subst ex;obtain rfl:ov=Value.ref a:=rx;exact DX I2 ea c n l ry fun s3 I3=>⟨Z,_,I3,q2⟩
end
section
variable {b:Bool}
inductive sW(K:Frag)(H:Hp):V->Value->Prop where
 |cu:sW K H .cu (.type "NoneType")
 |bl (x:Bool):sW K H (.bl x) (.type "bool")
 |int (i:Int):sW K H (.int i) (.type "int")
 |str (x:Str):sW K H (.str x) (.type "str")
 |GW (x:UInt64):sW K H (.GW x) (.type "float")
 |lst {a:Addr} {xs:List V} (e:H a=some (.lst xs)):sW K H (.ref a) (.type "list")
 |kR {a:Addr} {o:Obj} {xs:List V} (e:H a=some (.kR o (.lst xs))):sW K H (.ref a) (.type "list")
 |tup {a:Addr} {xs:List V} (e:H a=some (.tup xs)):sW K H (.ref a) (.type "tuple")
 |dK {a:Addr} {kvs:List (Key×V)} (e:H a=some (.dK kvs)):sW K H (.ref a) (.type "dict")
 |dT {a:Addr} {kvs:List (List Key×V)} (e:H a=some (.dT kvs)):sW K H (.ref a) (.type "dict")
 |ins {a C dx:Addr} {fs:List (Str×V)} (e:H a=some (.ins C dx fs)) (cl:DV K C) (ha:PySem.W.findIn K (.ref C) "__class__"=some (some (.builtin "object.__class__")))
   (hn:PySem.W.specialIn K (.builtin "object.__class__") "__get__"=some (some (.builtin "getset_descriptor.__get__"))) (htk:PySem.W.takesIn K (.builtin "object.__class__")=some true)
   (hm:PySem.W.mroIn K C (.type "object")=some true):sW K H (.ref a) (.ref C)
theorem mr{x:V}{u t:Value}(I:Inv X U Z H s)(rx:RelV x u)(ty:sW X.K H x t)(e:PySem.W.kitOne X.K t af=some b)(h:∀tk,Q (.bool b) {s with toks:=tk}):
  wpAny (model X.prog X.w) A (call (.builtin "isinstance") [u,af]) Q E s:=by
 cases ty with
 |cu=>cases(show u=Value.none from rx);exact eQ PySem.W.kitx_none I.lH True.intro e (fun z=>nomatch z) h
 |bl y=>cases(show u=Value.bool y from rx);exact eQ PySem.W.kitx_bool I.lH True.intro e (fun z=>nomatch z) h
 |int i=>obtain⟨t,q⟩:=(show∃t,u=Value.int i t from rx);cases q;exact eQ PySem.W.kitx_int I.lH True.intro e (fun z=>nomatch z) h
 |str y=>obtain⟨t,q⟩:=(show∃t,u=Value.str y t from rx);cases q;exact eQ PySem.W.kitx_str I.lH True.intro e (fun z=>nomatch z) h
 |GW y=>obtain⟨t,q⟩:=(show∃t,u=Value.float y t from rx);cases q;exact eQ PySem.W.kitx_float I.lH True.intro e (fun z=>nomatch z) h
 |@lst a xs ea=>
  cases(show u=Value.ref a from rx);obtain⟨_,_,n,_,h1⟩:=(show cR X.prog X.w H s.heap a (.lst xs)from I.cP a _ ea);exact eQ wu I.lH ⟨_,h1,rfl⟩ e (fun z=>nomatch z) h
 |@kR a ob xs ea=>
  cases(show u=Value.ref a from rx);obtain⟨_,_,_,n,_,h1⟩:=(show cR X.prog X.w H s.heap a (.kR ob (.lst xs))from I.cP a _ ea);exact eQ wu I.lH ⟨_,h1,rfl⟩ e (fun z=>nomatch z) h
 |@tup a xs ea=>
  cases(show u=Value.ref a from rx);obtain⟨_,_,_,p⟩:=(show cR X.prog X.w H s.heap a (.tup xs)from I.cP a _ ea);obtain⟨o,h1,h2,_⟩:=p;exact eQ PySem.W.kitx_tuple I.lH ⟨o,h1,h2⟩ e (fun z=>nomatch z) h
 |@dK a kvs ea=>
  cases(show u=Value.ref a from rx);obtain⟨_,_,vs,_,p⟩:=(show cR X.prog X.w H s.heap a (.dK kvs)from I.cP a _ ea);obtain⟨o,es,ep,h1,h2,_⟩:=p;exact eQ sk I.lH ⟨o,h1,h2.1⟩ e (fun z=>nomatch z) h
 |@dT a kvs ea=>
  cases(show u=Value.ref a from rx);obtain⟨_,_,xs,_,o,es,ep,h1,h2,_⟩:=(show cR X.prog X.w H s.heap a (.dT kvs)from I.cP a _ ea);exact eQ sk I.lH ⟨o,h1,h2.1⟩ e (fun z=>nomatch z) h
 |@ins a C dx fs ea cl ha hn htk hm=>
  cases(show u=Value.ref a from rx);obtain⟨mA,O,_⟩:=sV I.cP ea;obtain⟨od,J,_⟩:=O.look;exact eQ (PySem.W.kitx_own (cl.get _) cl.hd ha hn htk hm) I.lH J e (fun z=>nomatch z) h
end
structure cV(k:Nat)(A:Around):Prop where
 hd:A.handled=none
 dp:A.depth+3*k+5<recursionLimit
 un:A.units+16*k+200<cLine
theorem cV.mono {j k:Nat}(r:cV k A)(h:j<=k):cV j A:=⟨r.hd,by have:=r.dp;omega,by have:=r.un;omega⟩
theorem cV.deeper {k:Nat}(r:cV (k+1) A)(env:Env):cV k (A.deeper env):=
 ⟨r.hd,by have:=r.dp;show A.depth+1+3*k+5<_;omega,by have:=r.un;show A.units+3+16*k+200<_;omega⟩
theorem cV.in1 {k:Nat}(r:cV (k+1) A):cV k A.in1:=
 ⟨r.hd,by have:=r.dp;show A.depth+3*k+5<_;omega,by have:=r.un;show A.units+1+16*k+200<_;omega⟩
theorem DY{kw:List (Str×Value)}:(A.under (.builtin "type.__call__" ⟨.ref a::aq,kw⟩)).depth=A.depth+1:=by
 first|rfl|simp[Around.under,Code.weight,Code.isCreation,Code.isGuard,Code.isCaller,Code.frames,Code.isFrame,guardIds]
theorem DZ{kw:List (Str×Value)}:(A.under (.builtin "type.__call__" ⟨.ref a::aq,kw⟩)).units=A.units+1:=by
 first|rfl|simp[Around.under,Code.cUnits,Code.frames,Code.isFrame]
theorem cV.make {k:Nat}(r:cV (k+1) A)(C:Addr)(us:List Value)(kw:List (Str×Value)):cV k (A.under (.builtin "type.__call__" ⟨.ref C::us,kw⟩)):=
 ⟨r.hd,by have:=r.dp;rw[DY];omega,by have:=r.un;rw[DZ];omega⟩
theorem cV.depth {k:Nat}(r:cV k A):A.depth<recursionLimit:=by have:=r.dp;omega
theorem cV.units {k:Nat}(r:cV k A):A.units+64<cLine:=by have:=r.un;omega
def QM:TA:=fun _ H Q=>Q [] H
def Va(ta:TE)(tr:TA):TA:=fun Z H Q=>ta Z H fun x H1=>tr Z H1 fun xs H2=>Q (x::xs) H2
section
variable {te:TE}{t:TA}
theorem rE:PA X [] QM:=fun _ _ _ _ H Q I h=>oN ⟨[],H,I,.nil,h⟩
theorem lp(ha:PE X e te)(hr:PA X es t)(hs:starEach (e::es) X.env=(false,eval e X.env)::starEach es X.env:=by rfl):PA X (e::es) (Va te t):=by
 intro pos U s Z H Q I h;rw[hs];show wpAny _ _ (spliced ((false,eval e X.env)::backTo pos (starEach es X.env))) _ _ s;refine kl (d7 (ha U s Z H _ I h) fun u s1 ⟨x,H1,I1,r1,q1⟩=>?_);exact d7 (hr pos U s1 Z H1 _ I1 q1) fun us s2 ⟨xs,H2,I2,r2,q2⟩=>⟨x::xs,H2,I2,.cons r1 r2,q2⟩
def ZI(t:TA):TE:=fun Z H Q=>t Z H fun xs H1=>xs.length<=sizeLine/\∀p,H1 p=none->Q (.ref p) (upd H1 p (.tup xs))
def ZJ(t:TA):TE:=fun Z H Q=>t Z H fun xs H1=>xs.length<=sizeLine/\∀p,H1 p=none->Q (.ref p) (upd H1 p (.lst xs))
theorem QN{x1}(h:PA X es t):PE X (.Tuple es x1 pos) (ZI t):=by
 intro U s Z H Q I hq;refine wpAny_Tuple_spliced (d7 (h pos U s Z H _ I hq) fun us s1 ⟨xs,H1,I1,r,z,q⟩=>⟨by rw[<-r.length];exact z,?_⟩);have hf:H1 s1.heap.objs.size=none:=I1.cP.fresh (bu _);refine⟨.ref s1.heap.objs.size,upd H1 s1.heap.objs.size (.tup xs),I1.laid (t':=s1.toks) (fun b u e=>bL _ e) (bu _) ?_,rfl,q _ hf⟩;exact⟨z,us,r,⟨_,cf _ rfl,rfl,_,rfl⟩⟩
theorem Jk(h:PA X es t):PE X (.List es pos) (ZJ t):=by
 intro U s Z H Q I hq;refine wpAny_List_spliced (d7 (h pos U s Z H _ I hq) fun us s1 ⟨xs,H1,I1,r,z,q⟩=>⟨by rw[<-r.length];exact z,?_⟩);have hf:H1 s1.heap.objs.size=none:=I1.cP.fresh (bu _);refine⟨.ref s1.heap.objs.size,upd H1 s1.heap.objs.size (.lst xs),I1.laid (t':=s1.toks) (fun b u e=>bL _ e) (bu _) ?_,rfl,q _ hf⟩;exact⟨z,us,0,r,cf _ rfl⟩
end
abbrev Sp:=List V->Hp->VK->XK->Prop
abbrev BO:=List Env->Hp->Shared->XK->Value->Shared->Prop
structure yJ(P:Program)(w:World)(K:Frag)(mg:Str->Option Value)(base:Heap)(A:Around)(outer:List Env)(s:Shared)(H:Hp):Prop where
 frames:A.frames=some outer
 mod:Mod K mg base
 bs:∀b o,base.get? b=some o->s.heap.get? b=some o/\H b=none
 GY:base.objs.size<=s.heap.objs.size
 qN:s.heap.FunFrames base outer
 IS:∀b∈jG outer,H b=none
 cP:rB P w H s.heap
 bare:AllBare s.gens
def CE(outer:List Env)(P:Program)(w:World)(H:Hp)(s:Shared)(Q:VK)(u:Value)(s':Shared):Prop:=
 ∃v H',s'.os=s.os/\AllBare s'.gens/\Un (jG outer) [] H H' s.heap s'.heap/\rB P w H' s'.heap/\RelV v u/\Q v H'
def CR(CX:BO)(outer:List Env)(P:Program)(w:World)(H:Hp)(s:Shared)(Q:VK)(E:XK)(r:Result)(s':Shared):Prop:=
 match r with
 |.ok (.ret u)=>CE outer P w H s Q u s'
 |.ok _=>False
 |.error e=>CX outer H s E e s'
structure d5(P:Program)(w:World)(K:Frag)(mg:Str->Option Value)(base:Heap)(CX:BO)(k:Nat)(f:Addr)(fd:FuncData)(ps:List Str)(sp:Sp):Prop where
 len:∀vs H Q E,sp vs H Q E->vs.length=ps.length
 run:∀(A:Around) (outer:List Env) (s:Shared) (H:Hp) (args:Args) (us:List Value) (vs:List V) (Q:VK) (E:XK),cV k A->yJ P w K mg base A outer s H->BindsTo s fd args (ps.zip us)->Vals vs us->sp vs H Q E->
  codeAny (model P w) A (.call (.ref f) args) (CR CX outer P w H s Q E) s
theorem d5.mono {base:Heap}{CX:BO}{j k:Nat}{f:Addr}{fd:FuncData}{sp:Sp}(F:d5 P w K mg base CX j f fd ps sp)(h:j<=k):
  d5 P w K mg base CX k f fd ps sp:=⟨F.len,fun A outer s H args us vs Q E hr=>F.run A outer s H args us vs Q E (hr.mono h)⟩
theorem yJ.make {base:Heap}{outer:List Env}(e:yJ P w K mg base A outer s H)(C:Addr)(us:List Value)(kw:List (Str×Value)):
  yJ P w K mg base (A.under (.builtin "type.__call__" ⟨.ref C::us,kw⟩)) outer s H:=⟨by first|exact e.frames|(simpa[Around.under,Code.envs,Code.isFrame,pushEnvs]using e.frames),e.mod,e.bs,e.GY,e.qN,e.IS,e.cP,e.bare⟩
theorem yJ.in1 {base:Heap}{outer:List Env}(e:yJ P w K mg base A outer s H):
  yJ P w K mg base A.in1 outer s H:=⟨e.frames,e.mod,e.bs,e.GY,e.qN,e.IS,e.cP,e.bare⟩
section
variable {s':Shared}
theorem Inv.QQ (I:Inv X U Z H s):yJ X.prog X.w X.K X.mg X.base X.A X.stack s H:=
 ⟨I.ok.frames,I.ok.mod,I.bs,cw I.ok.GY I.sz,I.stack,I.vJ,I.cP,I.bare⟩
theorem Inv.after {Q:VK}{u:Value}(I:Inv X U Z H s)(h:CE X.stack X.prog X.w H s Q u s'):EP X U Z Q u s':=by
 obtain⟨v,H',os,bare,un,cP,r,q⟩:=h;obtain⟨hh,g,d,t,os'⟩:=s';obtain rfl:os'=s.os:=os;exact⟨v,H',I.call (h':=hh) (g':=g) (d':=d) (t':=t) (ch:=[]) un cP bare (fun b z=>absurd z (by simp)),r,q⟩
end
def O9(sp:Sp)(Vb:List V)(E:XK)(t:TA):TE:=fun Z H Q=>t Z H fun vs H1=>sp (vs++Vb) H1 Q E
def O_(C:Addr)(m:Str)(sp:Sp)(Vb:List V)(E:XK)(ta:TE)(t:TA):TE:=fun Z H Q=>ta Z H fun x H1=>∃a dx fs,x=.ref a/\H1 a=some (.ins C dx fs)/\fs.lookup m=none/\
 t Z H1 fun vs H2=>sp (x::(vs++Vb)) H2 Q E
def Pa(C:Addr)(sp:Sp)(Vb:List V)(E:XK)(t:TA):TE:=fun Z H Q=>t Z H fun vs H1=>∀x dx,H1 x=none->H1 dx=none->dx≠x->
 sp (.ref x::(vs++Vb)) (upd (upd H1 dx (.own x)) x (.ins C dx [])) (fun v H2=>v=.cu/\Q (.ref x) H2) E
def Binds(K:Frag)(fd:FuncData)(ps:List Str)(ds:List Value):Prop:=
 ∀(s:Shared) (us:List Value),K.In s.heap->(us++ds).length=ps.length->BindsTo s fd ⟨us,[]⟩ (ps.zip (us++ds))
theorem Binds.all {fd:FuncData}(h:∀us:List Value,us.length=ps.length->bindArgs fd ⟨us,[]⟩=pure (ps.zip us)):Binds K fd ps []:=fun s us _ hl=>by
 rw[jQ]at hl⊢;exact .of_eq (h us hl)
def Passes(CX:BO)(X:Cx)(E:XK):Prop:=∀(U:List (Addr×Obj)) (Z:St) (H:Hp) (s:Shared) (e:Value) (s':Shared),Inv X U Z H s->CX X.stack H s E e s'->X.xe e s'
section
variable {CX:BO}{k:Nat}{f C:Addr}{fd:FuncData}{sp:Sp}{E:XK}{ta:TE}{t:TA}
theorem D0{Q:VK}{us:List Value}{vs:List V}(F:d5 X.prog X.w X.K X.mg X.base CX k f fd ps sp)(hr:cV k X.A)(hb:Binds X.K fd ps aq)(hd:Vals ar aq)(hx:Passes CX X E)
  (I:Inv X U Z H s) (r:Vals vs us) (h:sp (vs++ar) H Q E):wpAny (model X.prog X.w) X.A (call (.ref f) us) (EP X U Z Q) X.xe s:=by
 have r2:Vals (vs++ar) (us++aq):=r.append hd;have hl:(us++aq).length=ps.length:=by rw[<-r2.length];exact F.len _ _ _ _ h
 refine o5 (hW (F.run X.A X.stack s H ⟨us,[]⟩ (us++aq) (vs++ar) Q E hr I.QQ (hb s us I.lH hl) r2 h) fun r s' hq=>?_);cases r with
 |error e=>exact hx U Z H s e s' I hq
 |ok fl=>
  cases fl with
  |ret u=>exact I.after hq
  |_=>exact False.elim hq
theorem Fm(F:d5 X.prog X.w X.K X.mg X.base CX k f fd ps sp)(hr:cV k X.A)(hg:Gl X x)(hm:X.mg x=some (.ref f))(hk:PySem.W.keepIn X.K (.ref f)=true)(hb:Binds X.K fd ps aq)(hd:Vals ar aq)(hx:Passes CX X E)
  (ha:PA X (e::es) t) (fq:Db x:=by decide) (he:starEach (e::es) X.env=(false,eval e X.env)::starEach es X.env:=by rfl) (nZ:(backTo pos (starEach es X.env)).any (·.1)=false:=by rfl):
  PE X (.Call (.Name x p) (e::es) [] pos) (O9 sp ar E t):=by
 intro U s Z H Q I h;refine l8 (p_ I hg hm ?_ fq);refine wm (h₀:=X.base) I.ok.mod.O2 hk (d7 (ha pos U s Z H _ I h) fun us s1 ⟨vs,H1,I1,r,q⟩=>⟨I1.lH,?_⟩) he nZ;exact D0 F hr hb hd hx I1 r q
theorem Fo{pl:Sem Bool}(he:PE X o ta)(c:DV X.K C)(hm:Meth X.K C av f)(F:d5 X.prog X.w X.K X.mg X.base CX k f fd ps sp)(hr:cV k X.A)(hb:Binds X.K fd ps aq)(hd:Vals ar aq)(hx:Passes CX X E)(ha:PA X (e::es) t)
  (cz:starEach (e::es) X.env=(false,eval e X.env)::starEach es X.env:=by rfl) (nZ:(backTo pos (starEach es X.env)).any (·.1)=false:=by rfl)
  (ht:eval (.Call (.Attribute o av b8) (e::es) [] pos) X.env=sP pos b8 o av (e::es) X.env pl:=by rfl):
  PE X (.Call (.Attribute o av b8) (e::es) [] pos) (O_ C av sp ar E ta t):=by
 intro U s Z H Q I h;refine PySem.W.methodCall_KW (pl:=pl) (d7 (he U s Z H _ I h) fun u s1 ⟨x,H1,I1,rx,a,dx,fs,ex,ea,l,q⟩=>?_) ht;subst ex;obtain rfl:u=Value.ref a:=rx;refine wY I1 ea c hm l ?_
 refine wm (first:=[.ref a]) (h₀:=X.base) I.ok.mod.O2 hm.kp (d7 (ha pos U s1 Z H1 _ I1 q) fun us s2 ⟨vs,H2,I2,r,q2⟩=>⟨I2.lH,?_⟩) cz nZ;exact D0 (us:=.ref a::us) (vs:=.ref a::vs) F hr hb hd hx I2 (.cons rfl r) q2
theorem BP{pl:Sem Bool}(he:PE X o ta)(c:DV X.K C)(hm:Meth X.K C av f)(F:d5 X.prog X.w X.K X.mg X.base CX k f fd ps sp)(hr:cV k X.A)(hb:Binds X.K fd ps aq)(hd:Vals ar aq)(hx:Passes CX X E)
  (ht:eval (.Call (.Attribute o av b8) [] [] pos) X.env=sP pos b8 o av [] X.env pl:=by rfl):
  PE X (.Call (.Attribute o av b8) [] [] pos) (O_ C av sp ar E ta QM):=by
 intro U s Z H Q I h;refine PySem.W.methodCall_KW (pl:=pl) (d7 (he U s Z H _ I h) fun u s1 ⟨x,H1,I1,rx,a,dx,fs,ex,ea,l,q⟩=>?_) ht;subst ex;obtain rfl:u=Value.ref a:=rx;refine wY I1 ea c hm l ?_
 exact PySem.W.callWith_K0 (first:=[.ref a]) I1.lH hm.kp (D0 (us:=[.ref a]) (vs:=[.ref a]) F hr hb hd hx I1 (.cons rfl .nil) q)
structure Mk(K:Frag)(C f:Addr):Prop where
 makes:PySem.W.makesIn K C=true
 init:PySem.W.findIn K (.ref C) "__init__"=some (some (.ref f))
 fn:PySem.W.isFn K (.ref f)=true
 kp:PySem.W.keepIn K (.ref C)=true
theorem BQ{Q:VK}{us:List Value}{vs:List V}(M:Mk X.K C f)(F:d5 X.prog X.w X.K X.mg X.base CX k f fd ps sp)(hr:cV (k+1) X.A)(hb:Binds X.K fd ps aq)(hd:Vals ar aq)
  (hx:Passes CX X E) (I:Inv X U Z H s) (r:Vals vs us)
  (h:∀x dx,H x=none->H dx=none->dx≠x->sp (.ref x::(vs++ar)) (upd (upd H dx (.own x)) x (.ins C dx [])) (fun v H2=>v=.cu/\Q (.ref x) H2) E):
  wpAny (model X.prog X.w) X.A (call (.ref C) us) (EP X U Z Q) X.xe s:=by
 have hq:=h (s.heap.objs.size+1) s.heap.objs.size (I.cP.fresh (oZ _)) (I.cP.fresh (bu _)) (bS (oG _));have I2:=Inv.made (C:=C) I;have r2:Vals (V.ref (s.heap.objs.size+1)::(vs++ar)) (Value.ref (s.heap.objs.size+1)::(us++aq)):=.cons rfl (r.append hd);have hl:(Value.ref (s.heap.objs.size+1)::us++aq).length=ps.length:=by
  have e:=r2.length;rw[F.len _ _ _ _ hq]at e;exact e.symm
 refine o5 (Ji (f:=f) I.lH M.makes M.init (eV.mp M.fn) (hW (F.run _ X.stack _ _ ⟨Value.ref (s.heap.objs.size+1)::us,[]⟩ (Value.ref (s.heap.objs.size+1)::(us++aq)) _ _ E (hr.make C us [])
  (I2.QQ.make C us []) (hb _ (Value.ref (s.heap.objs.size+1)::us) I2.lH hl) r2 hq) fun r s' Vc=>?_))
 cases r with
 |error e=>exact hx U Z _ _ e s' I2 Vc
 |ok fl=>
  cases fl with
  |ret u=>
   obtain⟨v,H',I3,rv,ev,q3⟩:=I2.after Vc;subst ev;exact⟨rv,⟨V.ref (s.heap.objs.size+1),H',I3,rfl,q3⟩⟩
  |_=>exact False.elim Vc
theorem ML(M:Mk X.K C f)(F:d5 X.prog X.w X.K X.mg X.base CX k f fd ps sp)(hr:cV (k+1) X.A)(hg:Gl X x)(hm:X.mg x=some (.ref C))(hb:Binds X.K fd ps aq)(hd:Vals ar aq)(hx:Passes CX X E)
  (ha:PA X (e::es) t) (fq:Db x:=by decide) (he:starEach (e::es) X.env=(false,eval e X.env)::starEach es X.env:=by rfl) (nZ:(backTo pos (starEach es X.env)).any (·.1)=false:=by rfl):
  PE X (.Call (.Name x p) (e::es) [] pos) (Pa C sp ar E t):=by
 intro U s Z H Q I h;refine l8 (p_ I hg hm ?_ fq);refine wm (h₀:=X.base) I.ok.mod.O2 M.kp (d7 (ha pos U s Z H _ I h) fun us s1 ⟨vs,H1,I1,r,q⟩=>⟨I1.lH,?_⟩) he nZ;exact BQ M F hr hb hd hx I1 r q
theorem Jl(M:Mk X.K C f)(F:d5 X.prog X.w X.K X.mg X.base CX k f fd ps sp)(hr:cV (k+1) X.A)(hg:Gl X x)(hm:X.mg x=some (.ref C))(hb:Binds X.K fd ps aq)(hd:Vals ar aq)(hx:Passes CX X E)
  (fq:Db x:=by decide):PE X (.Call (.Name x p) [] [] pos) (Pa C sp ar E QM):=by
 intro U s Z H Q I h;refine l8 (p_ I hg hm ?_ fq);exact PySem.W.callWith_K0 I.lH M.kp (BQ (us:=[]) M F hr hb hd hx I .nil h)
end
structure gO(N P:List Str)(sc:Scope):Prop where
 kind:sc.kind=.function
 co:sc.isCoroutine=false
 gen:sc.isGenerator=false
 nd:N.Nodup
 pre:N.take P.length=P
 par:∀x∈P,sc.names.lookup x=some .local\/sc.names.lookup x=some .cell
 QR:∀y∈sc.names,y.2≠ .free
theorem y8{kindOf:Str->Option NameKind}:∀{binds:List (Str×Value)} {m:Str->Option Value},(∀v,(x,v)∉binds)->bindL kindOf binds m x=m x
 |[],_,_=>rfl
 |(n,v)::r,m,h=>by
  unfold bindL;rw[y8 fun w hw=>h w (b_ _ hw)];split
  ·have:x≠n:=by rintro rfl;exact h v cp
   simp[this]
  ·rfl
theorem y9{kindOf:Str->Option NameKind}:∀{binds:List (Str×Value)} {m:Str->Option Value},(∀v,(x,v)∉binds)->bindC kindOf binds m x=m x
 |[],_,_=>rfl
 |(n,v)::r,m,h=>by
  unfold bindC;rw[y9 fun w hw=>h w (b_ _ hw)];split
  ·rfl
  ·have:x≠n:=by rintro rfl;exact h v cp
   simp[this]
theorem y_{kindOf:Str->Option NameKind}{v:Value}:∀{P:List Str} {vs:List Value} {i:Nat} {m:Str->Option Value},P.Nodup->P[i]?=some x->vs[i]?=some v->kindOf x=some .local->
  bindL kindOf (P.zip vs) m x=some v
 |[],_,_,_,_,h,_,_=>by simp at h
 |_::_,[],_,_,_,_,h,_=>by simp at h
 |p::P,w::vs,0,m,nd,h1,h2,hk=>by
  simp at h1 h2;subst h1;subst h2;show bindL kindOf ((p,w)::P.zip vs) m p=_;unfold bindL;rw[y8 fun v hv=>(gK.mp nd).1 (sC hv).1,aS hk];simp
 |p::P,w::vs,i+1,m,nd,h1,h2,hk=>by
  show bindL kindOf ((p,w)::P.zip vs) m x=_;unfold bindL;exact y_ (i:=i) (gK.mp nd).2 (by simpa using h1) (by simpa using h2) hk
theorem y'{kindOf:Str->Option NameKind}{v:Value}:∀{P:List Str} {vs:List Value} {i:Nat} {m:Str->Option Value},P.Nodup->P[i]?=some x->vs[i]?=some v->kindOf x≠some .local->
  bindC kindOf (P.zip vs) m x=some v
 |[],_,_,_,_,h,_,_=>by simp at h
 |_::_,[],_,_,_,_,h,_=>by simp at h
 |p::P,w::vs,0,m,nd,h1,h2,hk=>by
  simp at h1 h2;subst h1;subst h2;show bindC kindOf ((p,w)::P.zip vs) m p=_;unfold bindC;rw[y9 fun v hv=>(gK.mp nd).1 (sC hv).1,aW hk];simp
 |p::P,w::vs,i+1,m,nd,h1,h2,hk=>by
  show bindC kindOf ((p,w)::P.zip vs) m x=_;unfold bindC;exact y' (i:=i) (gK.mp nd).2 (by simpa using h1) (by simpa using h2) hk
def start(N:List Str)(vs:List V):St:=vs.map some++List.replicate (N.length - vs.length) none
def n5(CX:BO)(P:Program)(w:World)(K:Frag)(mg:Str->Option Value)(base:Heap)(N:List Str)(qual:Str)(scope:Scope)(f:Addr)(cd:Value)(A:Around)(outer:List Env)(s:Shared)(H:Hp)(E:XK):Cx where
 prog:=P
 w:=w
 K:=K
 mg:=mg
 base:=base
 A:=A.deeper (envOfC qual scope s.heap.objs.size f cd)
 N:=N
 f9:=s
 BK:=H
 env:=envOfC qual scope s.heap.objs.size f cd
 outer:=outer
 stack:=envOfC qual scope s.heap.objs.size f cd::outer
 ex:=[]
 calm:=true
 fn:=fun _=>true
 pn:=[]
 xe:=fun e s'=>wpAny (model P w) (A.deeper (envOfC qual scope s.heap.objs.size f cd)) (leaving (envOfC qual scope s.heap.objs.size f cd) e) (fun _ QU=>CX outer H s E e QU) (fun e' QU=>CX outer H s E e' QU) s'
theorem BR{n:Nat}(h:ax.names.lookup x=some .cell):∃c,(cellsFrom n ax.names []).lookup x=some c:=by
 have q:=PySem.W.cellsFrom_some ax.names n [] (.inl h);exact rX.mp q
theorem G8{CX:BO}{N:List Str}{outer:List Env}{s1:Shared}{E:XK}
  (S:gO N ps ax) (hd:A.handled=none) (e0:yJ P w K mg aa A outer s H) (hl:ar.length=ps.length) (r:Vals ar aq)
  (x:InCallC s s.heap.objs.size (bindL (envOfC av ax s.heap.objs.size au af).kindOf (ps.zip aq) fun _=>none) (cellsFrom (s.heap.objs.size+1) ax.names []) (bindC (envOfC av ax s.heap.objs.size au af).kindOf (ps.zip aq) fun _=>none) s1):
  Inv (n5 CX P w K mg aa N av ax au af A outer s H E) [] (start N ar) H s1:=by
 have nZ:ps.length<=N.length:=by have:=cQ List.length S.pre;rw[List.length_take]at this;omega
 obtain⟨h1,tk,rfl,hk⟩:=x.done;have Vd:∀b:Addr,b∉(n5 CX P w K mg aa N av ax au af A outer s H E).ex:=fun b z=>absurd (show b∈([]:List Addr)from z) (by simp);refine⟨⟨e0.mod,S.kind,rfl,rfl,bu _,fun y z c h1 h2=>?_,fun y hy=>?_,fun y c _ h=>?_,fun _=>hd,Around.frames_deeper e0.frames,.inr ⟨rfl,rfl⟩,fun b z=>absurd z (Vd b),e0.bs,e0.GY,fun b _ _=>Vd b,fun b z=>absurd z (Vd b),e0.qN,e0.IS⟩,
  rfl,e0.bare,Un.kept hk,⟨_,x.toInCall.ns,fun i y v h1 h2 h3=>?_⟩,fun y c h=>⟨_,x.cell y c h⟩,e0.cP.fresh (bu _),fun y c h=>?_,fun p hp=>absurd (show p∈([]:List (Addr×Obj))from hp) (by simp),e0.cP.kept hk,?_⟩
 ·exact name_of_addr x.apart (kZ h1) (kZ h2)
 ·have hy:ax.names.lookup y=some .cell\/ax.names.lookup y=some .free:=hy;rcases hy with hy|hy
  ·exact BR hy
  ·exact absurd rfl (S.QR _ (kZ hy))
 ·exact dA (x.above y c (kZ h))
 ·have hi:i<ar.length:=by
   unfold start at h2;by_cases hi:i<ar.length
   ·exact hi
   ·rw[v_ (by simpa using hi)]at h2;rw[rZ]at h2;split at h2<;>cases h2
  have ha:ar[i]?=some v:=by
   unfold start at h2;rw[og (by simpa using hi),bW]at h2;cases e:ar[i]? with
   |none=>rw[e]at h2;cases h2
   |some a=>rw[e]at h2;cases h2;rfl
  obtain⟨u,hu,rv⟩:=r.get ha;have hp:ps[i]?=some y:=by
   rw[<-S.pre,List.getElem?_take_of_lt (by omega)];exact h1
  have ndP:ps.Nodup:=by rw[<-S.pre];exact S.nd.sublist (List.take_sublist _ _)
  refine⟨u,rv,?_⟩;rcases S.par y (dS hp)with k|k
  ·exact .inl ⟨k,y_ ndP hp hu k⟩
  ·obtain⟨c,e⟩:=BR (n:=s.heap.objs.size+1) k;refine .inr ⟨.inl k,c,e,?_⟩;have q:=x.cell y c e;rw[y' ndP hp hu (by show ax.names.lookup y≠_;rw[k];decide)]at q;exact q
 ·exact e0.cP.fresh (dA (x.above y c (kZ h)))
 ·unfold start;show _=N.length;rw[eP,bj,wj];omega
theorem Pb{CX:BO}{qual:Str}{params:Arguments}{kV doc pm fH ct oc:Value}{an od:Option Addr}
  {Jm:Array (Option Value)} {N:List Str} {sp:Sp} (lk:K.lookup a=some ⟨oc,od,.func (PySem.W.fnOf av qual params ah ax af kV doc pm an fH ct),Jm⟩) (DL:PySem.W.codeIn K fH qual=true) (S:gO N ps ax)
  (len:∀vs H Q E,sp vs H Q E->vs.length=ps.length)
  (kE:∀(A:Around) (outer:List Env) (s:Shared) (H:Hp) (vs:List V) (Q:VK) (E:XK),cV i (A.deeper (envOfC qual ax s.heap.objs.size a fH))->sp vs H Q E->
   ∃t,n_ (n5 CX P w K mg aa N qual ax a fH A outer s H E) ah t/\t {nx:=fun _ H'=>Q .cu H',rt:=Q} (start N vs) H):
  d5 P w K mg aa CX (i+1) a (PySem.W.fnOf av qual params ah ax af kV doc pm an fH ct) ps sp:=by
 refine⟨len,fun A outer s H args us vs Q E hr e0 hb r Jn=>?_⟩;have hl:=len _ _ _ _ Jn;have KX:K.In s.heap:=e0.mod.O2.keeps fun b o e=>(e0.bs b o e).1;have lim:s.heap.NoLimit:=e0.mod.nolimit.keeps fun b o e=>(e0.bs b o e).1;have Ve:∀y∈ps.zip us,ax.names.lookup y.1=some .local\/(ax.names.lookup y.1=some .cell/\((cellsFrom (s.heap.objs.size+1) ax.names []).lookup y.1).isSome=true):=fun⟨n,v⟩ hy=>by
  rcases S.par n (sC hy).1 with q|q
  ·exact .inl q
  ·exact .inr ⟨q,PySem.W.cellsFrom_some _ _ _ (.inl q)⟩
 refine codeAny_call_function hr.depth (KX _ _ lk) rfl S.co S.gen rfl (PySem.W.codeRec_of KX DL) (hb _ _ _ _ ?_);refine wpAny_newFunctionEnv_cells S.kind Ve fun env he s1 x=>?_
 subst he;refine⟨lim.keeps x.toInCall.keep,codeAny_func ?_⟩;obtain⟨t,ht,hq⟩:=kE A outer s H vs Q E (hr.deeper _) Jn;have I:Inv (n5 CX P w K mg aa N qual ax a fH A outer s H E) [] (start N vs) H s1:=G8 S hr.hd e0 hl r x;refine dW (ht [] s1 (start N vs) H _ I hq) (fun fl s' hs=>?_) fun e s' hs=>hs;have fin:∀{di:St} {H':Hp} {v:V} {u:Value},Inv (n5 CX P w K mg aa N qual ax a fH A outer s H E) [] di H' s'->RelV v u->Q v H'->CE outer P w H s Q u s':=
  fun{di H' v u} J rv q=>⟨v,H',J.os,J.bare,J.base,J.cP,rv,q⟩
 cases fl with
 |ret u=>
  obtain⟨v,di,H',J,rv,q⟩:=hs;exact fin J rv q
 |next=>
  obtain⟨di,H',J,q⟩:=hs;exact fin (v:=V.cu) (u:=Value.none) J rfl q
 |brk=>
  obtain⟨_,_,_,q⟩:=hs;exact False.elim q
 |cont=>
  obtain⟨_,_,_,q⟩:=hs;exact False.elim q
section
variable {t:TA}{T:String}{r:List V->Hp->VK->Prop}
def ZK(r:List V->Hp->VK->Prop)(t:TA):TE:=fun Z H Q=>t Z H fun vs H1=>r vs H1 Q
theorem o8(hc:gn X (.builtin ay) r)(hg:Gl X x)(hm:X.mg x=none)(hv:bootBuiltins x=some (.builtin ay))(ha:PA X (e::es) t)(hn:x≠"__name__":=by decide) (fq:Db x:=by decide)
  (he:starEach (e::es) X.env=(false,eval e X.env)::starEach es X.env:=by rfl) (nZ:(backTo pos (starEach es X.env)).any (·.1)=false:=by rfl):PE X (.Call (.Name x p) (e::es) [] pos) (ZK r t):=by
 intro U s Z H Q I h;refine l8 (ux I hg hm hv ?_ hn fq);exact PyProof.Rows.callWith_builtin1 (d7 (ha pos U s Z H _ I h) fun us s1 ⟨vs,H1,I1,r1,q1⟩=>hc U s1 Z H1 vs us Q I1 r1 q1) he nZ
theorem uB(hc:gn X (.type T) r)(hg:Gl X x)(hm:X.mg x=none)(hv:bootBuiltins x=some (.type T))(ha:PA X (e::es) t)(hn:x≠"__name__":=by decide) (fq:Db x:=by decide)
  (he:starEach (e::es) X.env=(false,eval e X.env)::starEach es X.env:=by rfl) (nZ:(backTo pos (starEach es X.env)).any (·.1)=false:=by rfl):PE X (.Call (.Name x p) (e::es) [] pos) (ZK r t):=by
 intro U s Z H Q I h;refine l8 (ux I hg hm hv ?_ hn fq);exact v9 (d7 (ha pos U s Z H _ I h) fun us s1 ⟨vs,H1,I1,r1,q1⟩=>hc U s1 Z H1 vs us Q I1 r1 q1) he nZ
end
abbrev TO:=St->Hp->(Option Int->Hp->Prop)->Prop
def PO(X:Cx)(e:Option Expr)(t:TO):Prop:=
 ∀(U:List (Addr×Obj)) (s:Shared) (Z:St) (H:Hp) (Q:Option Int->Hp->Prop),Inv X U Z H s->t Z H Q->
  wpAny (model X.prog X.w) X.A (evalPart e X.env) (fun u s'=>∃o H',Inv X U Z H' s'/\IsPart u o/\Q o H') X.xe s
def MM:TO:=fun _ H Q=>Q none H
def Vf(t:TE):TO:=fun Z H Q=>t Z H fun x H1=>∃i,x=.int i/\Q (some i) H1
section
variable {te:TE}{lo hi:Option Expr}{tl th:TO}{p2:Pos}
theorem MN:PO X none MM:=by
 intro U s Z H Q I h;rw[evalPart_none];exact a_ ⟨none,H,I,.none,h⟩
theorem MO(h:PE X e te):PO X (some e) (Vf te):=by
 intro U s Z H Q I hw;rw[evalPart_some];refine d7 (h U s Z H _ I hw) fun u s1 ⟨x,H1,I1,r1,q1⟩=>?_
 obtain⟨i,rfl,q⟩:=q1;obtain⟨t,rfl⟩:=r1;exact⟨some i,H1,I1,.int i t,q⟩
def Uk(X:Cx)(r:V->Option Int->Option Int->Hp->VK->Prop):Prop:=
 ∀(U:List (Addr×Obj)) (s:Shared) (Z:St) (H:Hp) (x:V) (v vl vu:Value) (lo hi:Option Int) (sl:Addr) (Q:VK),Inv X U Z H s->RelV x v->s.heap.IsSliceOf sl vl vu .none->IsPart vl lo->IsPart vu hi->r x lo hi H Q->
  ∃T id,typeLookup (.type T) "__getitem__"=pure (some (.builtin id))/\s.TypeIs v T/\wpAny (model X.prog X.w) X.A (getItem v (.ref sl)) (EP X U Z Q) X.xe s
def tSl(r:V->Option Int->Option Int->Hp->VK->Prop)(te:TE)(tl th:TO):TE:=fun Z H Q=>te Z H fun x H1=>tl Z H1 fun l H2=>th Z H2 fun u H3=>r x l u H3 Q
theorem Jo{r:V->Option Int->Option Int->Hp->VK->Prop}(hr:Uk X r)(he:PE X e te)(hl:PO X lo tl)(hu:PO X hi th):PE X (.Subscript e (.Slice lo hi none p2) pos) (tSl r te tl th):=by
 intro U s Z H Q I h;refine Subscript_ (d7 (he U s Z H _ I h) fun v s1 ⟨x,H1,I1,r1,q1⟩=>?_);refine wpAny_Slice (d7 (hl U s1 Z H1 _ I1 q1) fun vl s2 ⟨l,H2,I2,pl,q2⟩=>d7 (hu U s2 Z H2 _ I2 q2) fun vu s3 ⟨u,H3,I3,pu,q3⟩=>?_);rw[evalPart_none];refine a_ ?_
 have I4:Inv X U Z H3 {s3 with heap:=s3.heap.push {cls:=.type "slice",data:=.fields #[vl,vu,.none]}}:=I3.kept (t':=s3.toks) fun b ob q=>bL _ q;obtain⟨T,id,hT,ht,hg⟩:=hr U {s3 with heap:=s3.heap.push {cls:=.type "slice",data:=.fields #[vl,vu,.none]}} Z H3 x v vl vu l u s3.heap.objs.size Q I4 r1 (Heap.IsSliceOf.new ..) pl pu q3;show wpAny (model X.prog X.w) X.A (subscriptTail e (.Slice lo hi none p2) v (.ref s3.heap.objs.size)) (EP X U Z Q) X.xe {s3 with heap:=s3.heap.push {cls:=.type "slice",data:=.fields #[vl,vu,.none]}};exact tail_any (ops:=[.ref s3.heap.objs.size,v]) ht hT hg (by with_unfolding_all rfl)
def BS(xs:List V)(lo hi:Option Int):List V:=(xs.drop (HT.g8 xs.length 0 lo)).take (HT.g8 xs.length xs.length hi - HT.g8 xs.length 0 lo)
theorem uX(xs:List V)(lo hi:Option Int):(BS xs lo hi).length<=xs.length:=by
 unfold BS;rw[List.length_take,List.length_drop];omega
def ZM(K:Frag):V->Option Int->Option Int->Hp->VK->Prop:=fun x lo hi H Q=>∃a xs,x=.ref a/\i7 K H a xs/\
 ¬(HT.g8 xs.length 0 lo=0/\HT.g8 xs.length xs.length hi=xs.length)/\∀p,H p=none->Q (.ref p) (upd H p (.tup (BS xs lo hi)))
theorem QV:Uk X (ZM X.K):=by
 intro U s Z H x v vl vu lo hi sl Q I rx hs pl pu h;obtain⟨a,xs,rfl,hx,hw,q⟩:=h;cases rx;obtain⟨cc,r,ht,hz⟩:=I.tuple hx;have b9:cc.toArray.size=xs.length:=by rw[cO];exact r.length.symm
 refine⟨"tuple",_,wa.lookup,ht.typeIs,?_⟩;refine HT.sO ht hs pl pu (by rw[b9];exact hw) ?_ (by rw[b9];exact hz)
 rw[b9];refine⟨.ref s.heap.objs.size,_,I.laid (t':=s.toks) (o:=.tup (BS xs lo hi)) (fun b ob q=>bL _ q) (bu _) ?_,rfl,q _ (I.cP.fresh (bu _))⟩;exact⟨cw (uX xs lo hi) hz,_,(r.drop (HT.g8 xs.length 0 lo)).take (HT.g8 xs.length xs.length hi - HT.g8 xs.length 0 lo),IsTup.new _ _⟩
def Vg(K:Frag):R2:=fun x y H Q=>∃a b xs ys,x=.ref a/\y=.ref b/\i7 K H a xs/\i7 K H b ys/\xs≠[]/\xs.length+ys.length<=sizeLine/\
 (ys=[]->Q (.ref a) H)/\(ys≠[]->∀p,H p=none->Q (.ref p) (upd H p (.tup (xs++ys))))
theorem Vals.Af {xs:List V}{us:List Value}(r:Vals xs us):us=[]↔xs=[]:=by
 cases r with
 |_=>simp
theorem MP:uy X (binaryOp .Add) (Vg X.K):=by
 intro U s Z H x y v u Q I rx ry h;obtain⟨a,b,xs,ys,rfl,rfl,ha,hb,hx,hz,q1,q2⟩:=h;cases rx;cases ry;obtain⟨cc,r1,p1,_⟩:=I.tuple ha;obtain⟨wZ,r2,p2,_⟩:=I.tuple hb;refine HT.Ms p1 p2 (fun z=>hx (r1.Af.mp z)) (fun z=>⟨.ref a,H,I,rfl,q1 (r2.Af.mp z)⟩) (fun z=>?_) (by rw[<-r1.length,<-r2.length];exact hz);refine⟨.ref s.heap.objs.size,_,I.laid (t':=s.toks) (o:=.tup (xs++ys)) (fun b ob q=>bL _ q) (bu _) ?_,rfl,q2 (fun w=>z (r2.Af.mpr w)) _ (I.cP.fresh (bu _))⟩;exact⟨by rw[eP];exact hz,_,r1.append r2,IsTup.new _ _⟩
end
def Mi(n:Nat)(i:Int):Option Nat:=if 0<=i then(if i<n then some i.toNat else none)else if-(n:Int)<=i then some (i+n).toNat else none
def uC{α:Type}(xs:List α)(i:Int):Option α:=(Mi xs.length i).bind fun j=>xs[j]?
theorem MQ{n:Nat}{i:Int}{j:Nat}(h:Mi n i=some j):seqIndex? i n=some j/\j<n/\-(n:Int)<=i/\i<n:=by
 unfold Mi at h;by_cases h0:0<=i
 ·rw[aS h0]at h;by_cases h1:i<n
  ·rw[aS h1]at h;have e:i.toNat=j:=Option.some.inj h;exact⟨by rw[seqIndex_of h0 h1,e],by omega,by omega,h1⟩
  ·rw[aW h1]at h;cases h
 ·rw[aW h0]at h;by_cases h1:-(n:Int)<=i
  ·rw[aS h1]at h;have e:(i+n).toNat=j:=Option.some.inj h;exact⟨by rw[seqIndex_neg (by omega) h1,e],by omega,h1,by omega⟩
  ·rw[aW h1]at h;cases h
theorem Ag{xs:List ag}{i:Int}{v:ag}(h:uC xs i=some v):∃j,seqIndex? i xs.length=some j/\xs[j]?=some v/\j<xs.length/\-(xs.length:Int)<=i/\i<xs.length:=by
 unfold uC at h;cases e:Mi xs.length i with
 |none=>rw[e]at h;cases h
 |some j=>
  rw[e]at h;obtain⟨h1,h2,h3,h4⟩:=MQ e;exact⟨j,h1,h,h2,h3,h4⟩
theorem Ah{xs:List ag}{j:Nat}{v:ag}(h:xs[j]?=some v):uC xs (j:Int)=some v:=by
 have hj:j<xs.length:=(fT.mp h).1;have e:Mi xs.length (j:Int)=some j:=by
  unfold Mi;rw[aS (by omega),aS (by omega)];simp
 unfold uC;rw[e];exact h
def sX(b:Expr):Prop:=∀o i,subscripted b false o i=operate [o,i] (getItem o i)
def Vh(X:Cx)(r:R2):Prop:=
 ∀(value slice:Expr) (U:List (Addr×Obj)) (s:Shared) (Z:St) (H:Hp) (x y:V) (v u:Value) (Q:VK),Inv X U Z H s->RelV x v->RelV y u->r x y H Q->
  subscripted slice false v u=operate [v,u] (getItem v u)->wpAny (model X.prog X.w) X.A (subscriptTail value slice v u) (EP X U Z Q) X.xe s
def QX(X:Cx)(id:String)(r:V->List V->Hp->VK->Prop):Prop:=
 ∀(U:List (Addr×Obj)) (s:Shared) (Z:St) (H:Hp) (x:V) (xs:List V) (v:Value) (us:List Value) (Q:VK),Inv X U Z H s->RelV x v->Vals xs us->r x xs H Q->
  wpAny (model X.prog X.w) X.A (call (.builtin id) (v::us)) (EP X U Z Q) X.xe s
section
variable {ta tb:TE}
theorem Pc{r:R2}(hr:Vh X r)(ha:PE X tg ta)(hb:PE X am tb)(hs:sX am):PE X (.Subscript tg am pos) (Qu r ta tb):=by
 intro U s Z H Q I h;exact Subscript_ (Qw ha hb I h fun v u s2 x y H2 I2 rx ry q=>hr tg am U s2 Z H2 x y v u Q I2 rx ry q (hs _ _))
def ZN(K:Frag):R2:=fun x y H Q=>∃p xs i v,x=.ref p/\y=.int i/\ll K H p xs/\uC xs i=some v/\Q v H
def ZO(K:Frag):R2:=fun x y H Q=>∃p xs i v,x=.ref p/\y=.int i/\i7 K H p xs/\uC xs i=some v/\Q v H
def ZP:R2:=fun x y H Q=>∃z i c,x=.str z/\y=.int i/\z.length<=sizeLine/\uC z.cps.toList i=some c/\Q (.str ⟨#[c]⟩) H
theorem Fp:Vh X (ZN X.K):=by
 intro value slice U s Z H x y v u Q I rx ry h hs;obtain⟨p,xs,i,z,rfl,rfl,hq,he,q⟩:=h;cases rx;obtain⟨t,rfl⟩:=ry;obtain⟨cc,r,pl,hz⟩:=I.list hq;obtain⟨j,h1,h2,h3,h4,h5⟩:=Ag he;obtain⟨w,ew,o9⟩:=r.get h2;have hl:=r.length;have hn:=wX;have fin:EP X U Z Q w s:=⟨z,H,I,o9,q⟩;by_cases h0:0<=i
 ·have hj:i.toNat=j:=by
   rw[seqIndex_of h0 h5]at h1;exact Option.some.inj h1
  exact item_listR pl.isList h0 (by omega) (by rw[hj];simpa using ew) fin hs
 ·have hj:(i+(cc.toArray.size:Int)).toNat=j:=by
   rw[seqIndex_neg (by omega) h4]at h1;rw[cO,<-hl];exact Option.some.inj h1
  exact subscriptTail_builtinR (x:=w) pl.isList.typeIs slot_list_getitem.lookup
   (wpAny_getItem_list_neg (Q:=fun r s'=>r=w/\EP X U Z Q r s') pl.isList (by omega) (by rw[cO]<;>omega) (by omega) (by rw[hj];simpa using ew) ⟨rfl,fin⟩) hs
theorem QY:Vh X (ZO X.K):=by
 intro value slice U s Z H x y v u Q I rx ry h hs;obtain⟨p,xs,i,z,rfl,rfl,hq,he,q⟩:=h;cases rx;obtain⟨t,rfl⟩:=ry;obtain⟨cc,r,pl,hz⟩:=I.tuple hq;obtain⟨j,h1,h2,h3,h4,h5⟩:=Ag he;obtain⟨w,ew,o9⟩:=r.get h2;have hl:=r.length;have hn:=wX;have fin:EP X U Z Q w s:=⟨z,H,I,o9,q⟩;exact subscriptTail_builtinR (x:=w) pl.typeIs wa.lookup
  (getItem_tuple (j:=j) (Q:=fun r s'=>r=w/\EP X U Z Q r s') pl (by omega) (by omega) (by rw[cO,<-hl];exact h1) (by simpa using ew) ⟨rfl,fin⟩) hs
theorem QZ:Vh X ZP:=by
 intro value slice U s Z H x y v u Q I rx ry h hs;obtain⟨z,i,c,rfl,rfl,hz,he,q⟩:=h;obtain⟨t,rfl⟩:=rx;obtain⟨t',rfl⟩:=ry;obtain⟨j,h1,h2,h3,h4,h5⟩:=Ag he;have hl:z.cps.toList.length=z.length:=by simp[Str.length]
 rw[hl]at h1 h4 h5;have hn:=wX;exact tail_any (typeIs_str s z t) slot_str_getitem.lookup (getItem_str (c:=c) (by
  have e1:decide (i< -(2 ^63:Int))=false:=fh (by omega);have e2:decide (i>=2 ^63)=false:=fh (by omega);rw[e1,e2,sI]) (by rw[h1];simpa using h2) ⟨.str ⟨#[c]⟩,H,I.tok _,⟨_,rfl⟩,q⟩) hs
theorem Pd(v:Int)(n d:Nat):max 0 (min (if v<0 then v+n else v) (n:Int))=((HT.g8 n d (some v):Nat):Int):=by
 rw[<-HT.z6];by_cases hv:v<0
 ·rw[aS hv,aS hv];omega
 ·rw[aW hv,aW hv];omega
theorem Ai(lo hi:Option Int)(n:Nat):(sliceBounds lo hi none n).1=((HT.g8 n 0 lo:Nat):Int)/\(sliceBounds lo hi none n).2.1=((HT.g8 n n hi:Nat):Int)/\(sliceBounds lo hi none n).2.2=1:=by
 refine⟨?_,?_,rfl⟩
 ·cases lo with
  |none=>rfl
  |some i=>exact(Pd i n 0)
 ·cases hi with
  |none=>rfl
  |some i=>exact(Pd i n n)
theorem yK(cc:List Value)(lo hi:Option Int):slicePick cc.toArray lo hi none=((cc.drop (HT.g8 cc.length 0 lo)).take (HT.g8 cc.length cc.length hi - HT.g8 cc.length 0 lo)).toArray:=by
 obtain⟨h1,h2,h3⟩:=Ai lo hi cc.toArray.size;unfold slicePick;rw[h1,h2,h3];simp only[sliceRange_one,pick_run,cO]<;>rfl
def ZQ(K:Frag):V->Option Int->Option Int->Hp->VK->Prop:=fun x lo hi H Q=>∃tg xs,x=.ref tg/\ll K H tg xs/\∀p,H p=none->Q (.ref p) (upd H p (.lst (BS xs lo hi)))
theorem MR:Uk X (ZQ X.K):=by
 intro U s Z H x v vl vu lo hi sl Q I rx hs pl pu h;obtain⟨tg,xs,rfl,hx,q⟩:=h;cases rx;obtain⟨cc,r,ht,hz⟩:=I.list hx;have b9:=r.length;refine⟨"list",_,slot_list_getitem.lookup,ht.isList.typeIs,?_⟩;refine wpAny_getItem_list_slice ht.isList hs pl pu .none (by simp) ?_ (by rw[cO]<;>omega)
 rw[yK,<-b9];refine⟨.ref s.heap.objs.size,_,I.laid (t':=s.toks) (o:=.lst (BS xs lo hi)) (fun am ob q=>bL _ q) (bu _) ?_,rfl,q _ (I.cP.fresh (bu _))⟩;exact⟨cw (uX xs lo hi) hz,_,0,(r.drop (HT.g8 xs.length 0 lo)).take (HT.g8 xs.length xs.length hi - HT.g8 xs.length 0 lo),cf _ rfl⟩
def Pe:V->Bool
 |.cu=>true
 |.bl _=>true
 |.int _=>true
 |.str _=>true
 |_=>false
theorem sY:gn X (.type "list") (fun xs H Q=>∃p ys,xs=[.ref p]/\(ll X.K H p ys\/i7 X.K H p ys)/\∀l,H l=none->Q (.ref l) (upd H l (.lst ys))):=by
 intro U s Z H xs us Q I r h;obtain⟨p,ys,rfl,hq,q⟩:=h;obtain⟨u,rfl,rx⟩:=vals1 r;cases rx;have fin:∀(cc:List Value),Vals ys cc->ys.length<=sizeLine->∀(h':Heap) (c':Nat),(∀am o',s.heap.get? am=some o'->h'.get? am=some o')->
   h'.get? s.heap.objs.size=some {cls:=.type "list",dict:=none,data:=.seq cc.toArray c',slots:=#[]}->EP X U Z Q (.ref s.heap.objs.size) {s with heap:=h'}:=fun cc r' hz h' c' kp e=>
  ⟨.ref s.heap.objs.size,_,I.laid (t':=s.toks) kp (bu _) (show cR X.prog X.w _ h' _ (.lst ys)from⟨hz,cc,c',r',e⟩),rfl,q _ (I.cP.fresh (bu _))⟩
 rcases hq with hq|hq
 ·obtain⟨cc,r',pl,hz⟩:=I.list hq;have b9:=r'.length;obtain⟨o,ho,hc,n,hd⟩:=pl.isList;exact call_list_seq p (.inl rfl) ho hc hd (fun h' c' kp e=>fin cc r' hz h' c' kp e) (by simp only[cO]<;>omega)
 ·obtain⟨cc,r',pl,hz⟩:=I.tuple hq;have b9:=r'.length;obtain⟨o,ho,hc,n,hd⟩:=pl;exact call_list_seq p (.inr rfl) ho hc hd (fun h' c' kp e=>fin cc r' hz h' c' kp e) (by simp only[cO]<;>omega)
theorem qQ:gn X (.type "tuple") (fun xs H Q=>∃p ys,xs=[.ref p]/\((ll X.K H p ys/\∀l,H l=none->Q (.ref l) (upd H l (.tup ys)))\/(i7 X.K H p ys/\Q (.ref p) H))):=by
 intro U s Z H xs us Q I r h;obtain⟨p,ys,rfl,h⟩:=h;obtain⟨u,rfl,rx⟩:=vals1 r;cases rx;rcases h with⟨hq,q⟩|⟨hq,q⟩
 ·obtain⟨cc,r',pl,hz⟩:=I.list hq;have b9:=r'.length;refine call_tuple_list pl.isList (fun h' kp=>?_) (by simp only[cO]<;>omega);have I1:Inv X U Z H {s with heap:=h'}:=I.kept (t':=s.toks) kp;have I2:Inv X U Z (upd H h'.objs.size (.tup ys)) {s with heap:=h'.push {cls:=.type "tuple",data:=.seq cc.toArray}}:=
   I1.laid (t':=s.toks) (fun am o e=>bL _ e) (bu _) (show cR X.prog X.w _ _ _ (.tup ys)from⟨hz,cc,r',IsTup.new _ _⟩)
  exact⟨.ref h'.objs.size,_,I2,rfl,q _ (I1.cP.fresh (bu _))⟩
 ·obtain⟨cc,r',pl,hz⟩:=I.tuple hq;exact call_tuple_same pl ⟨.ref p,H,I,rfl,q⟩
def tyV(K:Frag)(T:String)(x:V)(H:Hp):Prop:=match x with
 |.str _=>T="str"
 |.int _=>T="int"
 |.ref p=>(T="list"/\∃xs,ll K H p xs)\/(T="tuple"/\∃o,K.lookup p=some o/\o.cls=.type "tuple"/\o.dict=none)\/
   (T="dict"/\((∃kvs,H p=some (.dK kvs))\/∃kvs,H p=some (.dT kvs)))\/(T="set"/\∃S n,H p=some (.set S n))
 |_=>False
theorem Q0{x:V}(I:Inv X U Z H s)(r:RelV x af)(ty:tyV X.K ay x H):
  s.TypeIs af ay/\∀tg,af=.ref tg->∃ob,s.heap.get? tg=some ob/\ob.dict=none:=by
 cases x with
 |str z=>
  obtain⟨t,rfl⟩:=r;cases(show ay="str"from ty);exact⟨typeIs_str s z t,fun _ e=>nomatch e⟩
 |int i=>
  obtain⟨t,rfl⟩:=r;cases(show ay="int"from ty);exact⟨typeIs_int s i t,fun _ e=>nomatch e⟩
 |ref p=>
  cases r;rcases ty with⟨rfl,xs,hq⟩|⟨rfl,o,hk,hc,hd⟩|⟨rfl,hk⟩|⟨rfl,S,n,hk⟩
  ·obtain⟨cc,_,pl,_⟩:=I.list hq;refine⟨pl.isList.typeIs,fun tg e=>?_⟩;cases e;obtain⟨o,n,e,c,hd,_⟩:=pl;exact⟨o,e,hd⟩
  ·refine⟨⟨o,I.lH p o hk,hc⟩,fun tg e=>?_⟩;cases e;exact⟨o,I.lH _ o hk,hd⟩
  ·have z:∃o,s.heap.get? p=some o/\o.ExactDict:=by
    rcases hk with⟨kvs,hk⟩|⟨kvs,hk⟩
    ·obtain⟨_,_,_,_,o,_,_,e,ex,_⟩:=I.cP p _ hk;exact⟨o,e,ex⟩
    ·obtain⟨_,_,_,_,o,_,_,e,ex,_⟩:=I.cP p _ hk;exact⟨o,e,ex⟩
   obtain⟨o,e,ex⟩:=z;refine⟨⟨o,e,ex.1⟩,fun tg e2=>?_⟩;cases e2;exact⟨o,e,ex.2.1⟩
  ·obtain⟨o,_,_,_,e,ex,_⟩:=I.cP p _ hk;refine⟨⟨o,e,ex.1⟩,fun tg e2=>?_⟩;cases e2;exact⟨o,e,ex.2.1⟩
 |_=>exact False.elim ty
def tBM(K:Frag)(T:String)(r:V->List V->Hp->VK->Prop)(to:TE)(t:TA):TE:=fun Z H Q=>to Z H fun x H1=>tyV K T x H1/\t Z H1 fun xs H2=>r x xs H2 Q
variable {to:TE}{t:TA}{name:Str}{dt:Pos}{T id:String}{r:V->List V->Hp->VK->Prop}
theorem Fq(pa:PlainAttrs T)(slot:Slot T name id)(MS:typeOf (.builtin id)=pure (.type "method_descriptor"))(hm:QX X id r)(ho:PE X o to)(ha:PA X (e::es) t)
  (o_:attributeBase o name X.env (eval o X.env)=eval o X.env:=by rfl)
  (ZR:((backTo dt (starEach (e::es) X.env)).all (fun x=>!x.1)&&(backToKw dt (keywordEach [] X.env)).all (fun x=>x.1.isSome)
   &&decide ((e::es).length+([]:List Keyword).length+(if([]:List Keyword).isEmpty then 0 else 1)<30))=true:=by rfl)
  (fJ:(b8.endLine==dt.line)=true:=by rfl) (hs:starEach (e::es) X.env=(false,eval e X.env)::starEach es X.env:=by rfl) (Q1:(backTo dt (starEach es X.env)).any (·.1)=false:=by rfl):
  PE X (.Call (.Attribute o name b8) (e::es) [] dt) (tBM X.K T r to t):=by
 intro U s Z H Q I h;refine wpAny_Call_method_late o_ ZR fJ rfl (d7 (ho U s Z H _ I h) fun v s1 ⟨x,H1,I1,r1,ty,q1⟩=>?_);obtain⟨h1,h2⟩:=Q0 I1 r1 ty;refine⟨T,id,pa,slot,MS,h1,h2,?_⟩;have hA:=ha dt U s1 Z H1 _ I1 q1;rw[hs]at hA⊢;refine mX (by show(false||(backTo dt (starEach es X.env)).any (·.1))=false;rw[Q1]<;>rfl) (m3 ?_);exact d7 hA fun us s2 ⟨vs,H2,I2,r2,q2⟩=>hm U s2 Z H2 x vs v us Q I2 r1 r2 q2
end
def ZU(X:Cx)(id:String)(r:V->List V->Hp->VK->Prop):Prop:=
 ∀(U:List (Addr×Obj)) (s:Shared) (Z:St) (H:Hp) (x:V) (xs:List V) (v:Value) (us:List Value) (Q:VK),Inv X U Z H s->RelV x v->Vals xs us->r x xs H Q->
  wpAny (model X.prog X.w) X.A (call (.builtin id) (v::us)) (EP X U Z Q) X.xe s
theorem Vals.one:∀{x:V} {us:List Value},Vals [x] us->∃u,us=[u]/\RelV x u
 |_,_,.cons r .nil=>⟨_,rfl,r⟩
theorem Vals.dropLast {xs:List V}{us:List Value}(h:Vals xs us):Vals xs.dropLast us.dropLast:=by
 induction h with
 |nil=>exact .nil
 |cons r t ih=>
  cases t with
  |nil=>exact .nil
  |cons q t'=>exact .cons r ih
theorem Vals.rep {xs:List V}{us:List Value}(h:Vals xs us):∀k:Nat,Vals (List.replicate k xs).flatten (List.replicate k us).flatten
 |0=>.nil
 |k+1=>by
  rw[m4,m4,l6,l6];exact Vals.append h (Vals.rep h k)
theorem foldl_rep(cc:List Value):∀(k:Nat) (acc:List Value),
  List.foldl (fun x1 x2=>x1++x2) acc.toArray (List.replicate k cc.toArray)=(acc++(List.replicate k cc).flatten).toArray
 |0,acc=>by simp
 |k+1,acc=>by
  have e:acc.toArray++cc.toArray=(acc++cc).toArray:=by simp
  have e2:(acc++cc)++(List.replicate k cc).flatten=acc++(List.replicate (k+1) cc).flatten:=by
   rw[m4,l6,wx]
  rw[<-e2,<-foldl_rep cc k (acc++cc),<-e,m4,List.foldl_cons]
section
variable {l:Addr}{ys zs:List V}
theorem Inv.MT {cc sR:List Value}{n:Nat}{f:Array Value->Array Value}{t':Nat}(I:Inv X U Z H s)(hH:H l=some (.lst ar))
  (e:s.heap.get? l=some {cls:=.type "list",data:=.seq cc.toArray n}) (hf:f cc.toArray=sR.toArray) (hv:Vals ys sR) (hz:ys.length<=sizeLine):
  Inv X U Z (upd H l (.lst ys)) {s with heap:=s.heap.update l (Obj.mapSeq f),toks:=t'}:=by
 have q:=PySem.IsL.update e f;rw[hf]at q;refine I.write (x:=l) (e:=l) (by rw[hH];exact trivial) (.inl rfl) (fun b' u hb hu=>(mY s.heap (Obj.mapSeq f) (Ne.symm hb)).trans hu) ⟨_,q⟩ ?_
 exact⟨hz,sR,_,hv,q⟩
theorem Inv.MU {cc:List Value}{t':Nat}(I:Inv X U Z H s)(hv:Vals ys cc)(hz:ys.length<=sizeLine):
  Inv X U Z (upd H s.heap.objs.size (.lst ys)) {s with heap:=s.heap.push {cls:=.type "list",data:=.seq cc.toArray},toks:=t'}:=
 I.laid (fun _ _ q=>bL _ q) (bu _) ⟨hz,cc,0,hv,cf _ rfl⟩
theorem Inv.fresh (I:Inv X U Z H s):H s.heap.objs.size=none:=I.cP.fresh (bu _)
theorem Inv.yL (I:Inv X U Z H s)(hH:H l=some (.lst ar)):ar.length<=sizeLine/\∃(cc:List Value) (n:Nat),Vals ar cc/\ar.length=cc.length/\s.heap.get? l=some {cls:=.type "list",data:=.seq cc.toArray n}:=by
 obtain⟨z,cc,n,r,e⟩:=I.cP l _ hH;exact⟨z,cc,n,r,r.length,e⟩
theorem Jp(h:i<=sizeLine):Builtin.List.listTooLong i=false:=by
 unfold Builtin.List.listTooLong;exact fh (by omega)
end
def Fs:V->List V->Hp->VK->Prop:=fun x vs H Q=>∃l xs y,x=.ref l/\vs=[y]/\H l=some (.lst xs)/\xs.length<sizeLine/\Q .cu (upd H l (.lst (xs++[y])))
theorem iC:ZU X "list.append" Fs:=by
 intro U s Z H x vs v us Q I rx rv h;obtain⟨l,xs,y,rfl,rfl,hH,hz,q⟩:=h;cases rx;obtain⟨u,rfl,ru⟩:=rv.one;obtain⟨z,cc,n,r,hl,e⟩:=I.yL hH;refine kC mV ⟨_,e,rfl⟩ F.entry_list_append (F.args_list_append_2 _ _) (PySem.list_append l cc.toArray n u (by rw[cO];omega)) ⟨e,?_⟩;refine⟨.cu,_,I.MT (sR:=cc++[u]) hH e (by simp) (r.append (.cons ru .nil)) ?_,rfl,q⟩;rw[eP,List.length_singleton];omega
def ZV:R2:=fun x y H Q=>∃l b xs zs,x=.ref l/\y=.ref b/\H l=some (.lst xs)/\H b=some (.lst zs)/\xs.length+zs.length<=sizeLine/\∀p,H p=none->Q (.ref p) (upd H p (.lst (xs++zs)))
theorem Jq:uy X (binaryOp .Add) ZV:=by
 intro U s Z H x y v u Q I rx ry h;obtain⟨l,b,xs,zs,rfl,rfl,hH,hB,hz,q⟩:=h;cases rx;cases ry;obtain⟨z,cc,n,r,hl,e⟩:=I.yL hH;obtain⟨z2,wZ,n2,r2,Mu,e2⟩:=I.yL hB;refine PySem.P.add_list e e2 ?_ (by rw[cO,cO];omega)
 have ea:cc.toArray++wZ.toArray=(cc++wZ).toArray:=by simp
 rw[ea];exact⟨.ref _,_,I.MU (t':=s.toks) (r.append r2) (by rw[eP];omega),rfl,q _ I.fresh⟩
def ZW:R2:=fun x y H Q=>∃l k xs,x=.ref l/\y=.int k/\H l=some (.lst xs)/\-(2 ^63)<=k/\k<2 ^63/\xs.length*k.toNat<=sizeLine/\
 ∀p,H p=none->Q (.ref p) (upd H p (.lst (List.replicate k.toNat xs).flatten))
theorem len_rep(xs:List ag)(k:Nat):(List.replicate k xs).flatten.length=k*xs.length:=by
 induction k with
 |zero=>simp
 |succ k ih=>rw[m4,l6,eP,ih,Nat.succ_mul,Nat.add_comm]
theorem Q2:uy X (binaryOp .Mult) ZW:=by
 intro U s Z H x y v u Q I rx ry h;obtain⟨l,k,xs,rfl,rfl,hH,h1,h2,hz,q⟩:=h;cases rx;obtain⟨t,rfl⟩:=ry;obtain⟨z,cc,n,r,hl,e⟩:=I.yL hH;have b9:cc.toArray.size*k.toNat<=sizeLine:=by rw[cO,<-hl];exact hz
 have ZX:¬cc.toArray.size*k.toNat>(2 ^63 - 1)/8:=by
  have:(sizeLine:Nat)<=(2 ^63 - 1)/8:=by decide
  omega
 have ZY:¬(!Builtin.List.listFitsIndex k)=true:=by
  rw[fitsIndex_both h1 h2];exact fD
 have Vi:¬Builtin.List.listTooLong (cc.toArray.size*k.toNat)=true:=by
  rw[Jp b9];exact fD
 have Jr:List.foldl (fun x1 x2=>x1++x2) #[] (List.replicate (if cc.toArray.isEmpty=true then 0 else k.toNat) cc.toArray)=(List.replicate k.toNat cc).flatten.toArray:=by
  have f0:∀m:Nat,List.foldl (fun x1 x2=>x1++x2) #[] (List.replicate m cc.toArray)=(List.replicate m cc).flatten.toArray:=fun m=>by
   have:=foldl_rep cc m [];rw[List.nil_append]at this;exact this
  rw[f0];cases cc with
  |nil=>simp
  |cons a r'=>rw[aW (by simp)]
 refine wpAny_binaryOp_repeat_ref (T:="list") (U:="int") (by decide) ⟨_,e,rfl⟩ (fun s'=>typeIs_int s' k t) noFill_list_mul F.fills_int_mul F.slot_int_rmul repeat_list F.slot_int_index.lookup
  (kC F.slot_int_rmul (typeIs_int s k t) F.entry_int_rmul (F.args_int_rmul_2 _ _) (int___rmul___int_list k t l cc.toArray n)
   ⟨e,rfl,⟨_,e,rfl⟩,kC F.slot_list_mul ⟨_,e,rfl⟩ F.entry_list_mul (F.args_list_mul_2 _ _) (AutoListH.list___mul___list_int_3 l cc.toArray n k t ZY ZX Vi) ⟨e,?_⟩⟩)
 rw[Jr];exact⟨.ref _,_,I.MU (t':=s.toks) (r.rep k.toNat) (by rw[len_rep,Nat.mul_comm];exact hz),rfl,q _ I.fresh⟩
section
variable [DecidableEq ag]
def mv(kvs:List (ag×V))(k:ag):Option V:=(kvs.find? fun kv=>decide (kv.1=k)).map (·.2)
def putK(kvs:List (ag×V))(k:ag)(v:V):List (ag×V):=
 if(kvs.any fun kv=>decide (kv.1=k))=true then kvs.map (fun kv=>if kv.1=k then(kv.1,v)else kv)else kvs++[(k,v)]
def qR(kvs:List (ag×V))(k:ag):List (ag×V):=kvs.filter fun kv=>decide (kv.1≠k)
theorem sZ{p:ag×V}{r:List (ag×V)}{k:ag}(e:p.1=k):mv (p::r) k=some p.2:=by simp[mv,jR,e]
theorem s_{p:ag×V}{r:List (ag×V)}{k:ag}(e:¬p.1=k):mv (p::r) k=mv r k:=by simp[mv,jR,e]
theorem BU(k:ag):∀kvs:List (ag×V),(kvs.any fun kv=>decide (kv.1=k))=(mv kvs k).isSome
 |[]=>rfl
 |p::r=>by
  rw[iZ];by_cases e:p.1=k
  ·simp only[sZ e,iY e,Bool.true_or,m5]
  ·rw[s_ e,fh e,kz];exact BU k r
theorem pb(kvs:List (ag×V))(k:ag)(v:V):(putK kvs k v).length<=kvs.length+1:=by
 unfold putK;split
 ·rw[bj];omega
 ·rw[eP,dg,wD];omega
theorem lG.mw {o:Option V}{u:Option Value}(r:lG o u):o.isSome=u.isSome:=by
 cases o with
 |none=>cases u with
  |none=>rfl
  |some _=>exact fe r
 |some _=>cases u with
  |none=>exact fe r
  |some _=>rfl
theorem lG.getD {o:Option V}{u:Option Value}{d:V}{d':Value}(r:lG o u)(rd:RelV d d'):RelV (o.getD d) (u.getD d'):=by
 cases o with
 |none=>cases u with
  |none=>exact rd
  |some _=>exact fe r
 |some _=>cases u with
  |none=>exact fe r
  |some _=>exact r
theorem KV.val {kvs:List (ag×V)}{vs:List (ag×Value)}(r:KV kvs vs)(k:ag):lG (mv kvs k) (valueAt vs k):=by
 unfold KV at r
 induction r with
 |nil=>exact True.intro
 |@cons p q ps qs h t ih=>
  obtain⟨h1,h2⟩:=h;by_cases e:p.1=k
  ·have e':q.1=k:=h1.symm.trans e;have b:valueAt (q::qs) k=some q.2:=by simp[valueAt,jR,e']
   rw[sZ e,b];exact h2
  ·have e':¬q.1=k:=fun z=>e (h1.trans z);have b:valueAt (q::qs) k=valueAt qs k:=by simp[valueAt,jR,e']
   rw[s_ e,b];exact ih
theorem KV.any {kvs:List (ag×V)}{vs:List (ag×Value)}(r:KV kvs vs)(k:ag):(kvs.any fun kv=>decide (kv.1=k))=vs.any fun kv=>decide (kv.1=k):=by
 unfold KV at r
 induction r with
 |nil=>rfl
 |cons h t ih=>rw[iZ,iZ,ih,h.1]
theorem KV.Q3 {kvs:List (ag×V)}{vs:List (ag×Value)}(r:KV kvs vs)(k:ag){y:V}{u:Value}(ry:RelV y u):
  KV (kvs.map fun kv=>if kv.1=k then(kv.1,y)else kv) (vs.map fun kv=>if kv.1=k then(kv.1,u)else kv):=by
 unfold KV at r⊢
 induction r with
 |nil=>exact .nil
 |@cons p q ps qs h t ih=>
  rw[bH,bH];refine .cons ?_ ih
  obtain⟨h1,h2⟩:=h;by_cases e:p.1=k
  ·rw[aS e,aS (h1.symm.trans e)];exact⟨h1,ry⟩
  ·rw[aW e,aW (fun z=>e (h1.trans z))];exact⟨h1,h2⟩
theorem KV.put {kvs:List (ag×V)}{vs:List (ag×Value)}(r:KV kvs vs)(k:ag){y:V}{u:Value}(ry:RelV y u):KV (putK kvs k y) (stored vs k u):=by
 unfold putK stored;rw[r.any k];by_cases e:(vs.any fun kv=>decide (kv.1=k))=true
 ·rw[aS e,aS e];exact r.Q3 k ry
 ·rw[aW e,aW e];exact Paired.snoc r ⟨rfl,ry⟩
theorem KV.drop {kvs:List (ag×V)}{vs:List (ag×Value)}(r:KV kvs vs)(k:ag):KV (qR kvs k) (without vs k):=by
 unfold KV at r⊢;unfold qR without
 induction r with
 |nil=>exact .nil
 |@cons p q ps qs h t ih=>
  obtain⟨h1,h2⟩:=h;rw[oH,oH];by_cases e:p.1=k
  ·have a:¬decide (p.1≠k)=true:=by simp[e]
   have b:¬decide (q.1≠k)=true:=by simp[h1.symm.trans e]
   rw[aW a,aW b];exact ih
  ·have e':¬q.1=k:=fun z=>e (h1.trans z);have a:decide (p.1≠k)=true:=by simp[e]
   have b:decide (q.1≠k)=true:=by simp[e']
   rw[aS a,aS b];exact .cons ⟨h1,h2⟩ ih
theorem KV.keys {kvs:List (ag×V)}{vs:List (ag×Value)}(r:KV kvs vs):kvs.map (·.1)=vs.map (·.1):=by
 unfold KV at r
 induction r with
 |nil=>rfl
 |cons h t ih=>rw[bH,bH,ih,h.1]
theorem KV.length {kvs:List (ag×V)}{vs:List (ag×Value)}(r:KV kvs vs):kvs.length=vs.length:=Paired.length r
theorem Js(kvs:List (ag×V))(k:ag):(qR kvs k).length<=kvs.length:=oq _ _
end
theorem pd{P:Program}{w:World}{k:Key}(r:RelV (kV k) af):(bY P w).is k af=true:=by
 cases k with
 |inl i=>obtain⟨t,e⟩:=(show∃t,af=Value.int i t from r);subst e;exact BI P w i t
 |inr x=>obtain⟨t,e⟩:=(show∃t,af=Value.str x t from r);subst e;exact BJ P w x t
theorem za:∀{ks:List Key} {us:List Value},Vals (ks.map kV) us->ItemsAre (bY P w) ks us
 |[],_,r=>by rw[mf]at r;cases r;exact .nil
 |k::ks,_,r=>by
  rw[bH]at r;cases r with
  |cons h t=>exact .cons (pd h) (za t)
abbrev KT(H:Hp):List (List Key×V)->List (List Key×Addr×Value)->Prop:=Paired fun p q=>p.1=q.1/\H q.2.1=some (.tup (p.1.map kV))/\RelV p.2 q.2.2
theorem KT.val {kvs:List (List Key×V)}{xs:List (List Key×Addr×Value)}(r:KT H kvs xs)(k:List Key):lG (mv kvs k) ((atKey xs k).map (·.2)):=by
 induction r with
 |nil=>exact True.intro
 |@cons p q ps qs h t ih=>
  obtain⟨h1,_,h2⟩:=h;by_cases e:p.1=k
  ·have e':q.1=k:=h1.symm.trans e;have b:atKey (q::qs) k=some q.2:=by simp[atKey,jR,e']
   rw[sZ e,b];exact h2
  ·have e':¬q.1=k:=fun z=>e (h1.trans z);have b:atKey (q::qs) k=atKey qs k:=by simp[atKey,jR,e']
   rw[s_ e,b];exact ih
theorem KT.Q3 {kvs:List (List Key×V)}{xs:List (List Key×Addr×Value)}(r:KT H kvs xs)(k:List Key){y:V}{u:Value}(ry:RelV y u):
  KT H (kvs.map fun kv=>if kv.1=k then(kv.1,y)else kv) (xs.map (putAt k u)):=by
 induction r with
 |nil=>exact .nil
 |@cons p q ps qs h t ih=>
  rw[bH,bH];refine .cons ?_ ih
  obtain⟨h1,h2,h3⟩:=h;unfold putAt;by_cases e:p.1=k
  ·rw[aS e,aS (h1.symm.trans e)];exact⟨h1,h2,ry⟩
  ·rw[aW e,aW (fun z=>e (h1.trans z))];exact⟨h1,h2,h3⟩
theorem KT.put {kvs:List (List Key×V)}{xs:List (List Key×Addr×Value)}(r:KT H kvs xs)(k:List Key){b:Addr}{y:V}{u:Value}(hb:H b=some (.tup (k.map kV)))(ry:RelV y u):
  KT H (putK kvs k y) (storedH xs k b u):=by
 have e:(kvs.any fun kv=>decide (kv.1=k))=(atKey xs k).isSome:=by
  rw[BU,(r.val k).mw,jP]
 unfold putK storedH;rw[e];by_cases q:(atKey xs k).isSome=true
 ·rw[aS q,aS q];exact r.Q3 k ry
 ·rw[aW q,aW q];exact Paired.snoc r ⟨rfl,hb,ry⟩
theorem KT.keeps {H':Hp}{kvs:List (List Key×V)}{xs:List (List Key×Addr×Value)}(r:KT H kvs xs)(ht:∀b ys,H b=some (.tup ys)->H' b=some (.tup ys)):KT H' kvs xs:=
 Paired.Qk r fun _ _ z=>⟨z.1,ht _ _ z.2.1,z.2.2⟩
theorem Pf{u:HO}(ok:rB P w H aa)(e:Rd H a u):cR P w H aa a u:=e.ok ok
theorem tm(ok:rB P w H aa)(e:Rd H a (.dK kvs)):kvs.length<=sizeLine/\(a==sysModules)=false/\∃vs,KV kvs vs/\aa.DictOf (bY P w) a vs:=
 show cR P w H aa a (.dK kvs)from Pf ok e
theorem Ft(ok:rB P w H aa)(e:H a=some (.dK kvs)):kvs.length<=sizeLine/\(a==sysModules)=false/\∃vs,KV kvs vs/\aa.DictOf (bY P w) a vs:=tm ok (.inl e)
theorem rG{ks:List Key}(ok:rB P w H aa)(e:H a=some (.tup (ks.map kV))):(tupleKind (bY P w)).is aa ks a:=by
 obtain⟨_,cc,r,o,h1,h2,n,h3⟩:=(show cR P w H aa a (.tup (ks.map kV))from ok a _ e);exact⟨o,cc.toArray,n,h1,h2,h3,by simpa using za r⟩
theorem uY{kvs:List (List Key×V)}(ok:rB P w H aa)(e:Rd H a (.dT kvs)):kvs.length<=sizeLine/\(a==sysModules)=false/\
  ∃xs,KT H kvs xs/\aa.DictOfH (tupleKind (bY P w)) a xs:=by
 obtain⟨z,y,xs,r,o,es,ep,h1,h2,h3,h4,h5⟩:=(show cR P w H aa a (.dT kvs)from Pf ok e);refine⟨z,y,xs,r,o,es,ep,h1,h2,h3,h4,fun x hx=>?_,h5⟩;have all:∀{l:List (List Key×V)} {m:List (List Key×Addr×Value)},KT H l m->∀x∈m,(tupleKind (bY P w)).is aa x.1 x.2.1:=by
  intro l m q
  induction q with
  |nil=>intro x hx;exact nomatch hx
  |@cons p q ps qs hq t ih=>
   intro x hx;rcases bB.mp hx with e|hx
   ·subst e;exact rG ok (by rw[<-hq.1];exact hq.2.1)
   ·exact ih x hx
 exact all r x hx
theorem Vj{kvs:List (List Key×V)}(ok:rB P w H aa)(e:H a=some (.dT kvs)):kvs.length<=sizeLine/\(a==sysModules)=false/\
  ∃xs,KT H kvs xs/\aa.DictOfH (tupleKind (bY P w)) a xs:=uY ok (.inl e)
def pf(H:Hp)(a:Addr)(y:V)(r:Option V):Prop:=
 (∃kvs k,Rd H a (.dK kvs)/\y=kV k/\r=mv kvs k)\/∃kvs k b,Rd H a (.dT kvs)/\y=.ref b/\H b=some (.tup (k.map kV))/\r=mv kvs k
def D3(H:Hp)(a:Addr)(y v:V)(H':Hp):Prop:=
 (∃kvs k,H a=some (.dK kvs)/\y=kV k/\kvs.length<sizeLine/\H'=upd H a (.dK (putK kvs k v)))\/
 ∃kvs k b,H a=some (.dT kvs)/\y=.ref b/\H b=some (.tup (k.map kV))/\kvs.length<sizeLine/\H'=upd H a (.dT (putK kvs k v))
theorem pf.k {H:Hp}{k:Key}(e:H a=some (.dK kvs)):pf H a (kV k) (mv kvs k):=.inl ⟨kvs,k,.inl e,rfl,rfl⟩
theorem pf.t {H:Hp}{b:Addr}{kvs:List (List Key×V)}{k:List Key}(e:H a=some (.dT kvs))(eb:H b=some (.tup (k.map kV))):pf H a (.ref b) (mv kvs k):=.inr ⟨kvs,k,b,.inl e,rfl,eb,rfl⟩
theorem D3.k {H:Hp}{k:Key}{v:V}(e:H a=some (.dK kvs))(hl:kvs.length<sizeLine):D3 H a (kV k) v (upd H a (.dK (putK kvs k v))):=.inl ⟨kvs,k,e,rfl,hl,rfl⟩
theorem D3.t {H:Hp}{b:Addr}{kvs:List (List Key×V)}{k:List Key}{v:V}(e:H a=some (.dT kvs))(eb:H b=some (.tup (k.map kV)))(hl:kvs.length<sizeLine):
  D3 H a (.ref b) v (upd H a (.dT (putK kvs k v))):=.inr ⟨kvs,k,b,e,rfl,eb,hl,rfl⟩
section
variable {y v:V}{r:Value}{o:Option V}
theorem Inv.big (I:Inv X U Z H s):sysModules<s.heap.objs.size:=by
 have h:mainGlobals<s.heap.objs.size:=(I.mod.glob.keeps I.bk).lt;exact Nat.lt_trans (by decide) h
theorem G9(hu:A.units+1<cLine)(I:Inv X U Z H s)(g:pf H a y (some v))(ry:RelV y af)(h:∀w' s',Inv X U Z H s'->RelV v w'->Q w' s'):
  wpAny (model X.prog X.w) A (getItem (.ref a) af) Q E s:=by
 rcases g with⟨kvs,k,e,ey,l⟩|⟨kvs,k,b,e,ey,eb,l⟩
 ·subst ey;obtain⟨z,hd,vs,rel,dd⟩:=tm I.cP e;obtain⟨w',hw,o9⟩:=lG.some_of (v:=v) (o:=valueAt vs k) (by rw[l];exact rel.val k);exact wpAny_getItem_of (pd ry) dd.mapOf hw (h w' _ (I.tok _) o9)
 ·subst ey;cases(show af=Value.ref b from ry);obtain⟨z,hd,xs,rel,dd⟩:=uY I.cP e;obtain⟨w',hw,o9⟩:=lG.some_of (v:=v) (o:=(atKey xs k).map (·.2)) (by rw[l];exact rel.val k);obtain⟨p,hp,MV⟩:=Option.map_eq_some_iff.mp hw;refine wpAny_getItem_heap (l9 hu) (rG I.cP eb) dd hp ?_
  rw[MV];exact h w' _ (I.tok _) o9
theorem ZZ(hu:A.units+1<cLine)(I:Inv X U Z H s)(g:pf H a y o)(ry:RelV y af)(h:∀s',Inv X U Z H s'->Q (.bool o.isSome) s'):
  wpAny (model X.prog X.w) A (compareOp .In af (.ref a)) Q E s:=by
 rcases g with⟨kvs,k,e,ey,l⟩|⟨kvs,k,b,e,ey,eb,l⟩
 ·subst ey;obtain⟨z,hd,vs,rel,dd⟩:=tm I.cP e;refine wpAny_in_of (pd ry) hd dd.mapOf ?_
  rw[<-(rel.val k).mw,<-l];exact h _ (I.tok _)
 ·subst ey;cases(show af=Value.ref b from ry);obtain⟨z,hd,xs,rel,dd⟩:=uY I.cP e;refine wpAny_in_heap (l9 hu) (rG I.cP eb) hd dd ?_
  have q:=(rel.val k).mw;rw[jP]at q;rw[<-q,<-l];exact h _ (I.tok _)
theorem MW(hu:A.units+1<cLine)(I:Inv X U Z H s)(g:pf H a y o)(ry:RelV y af)(h:∀s',Inv X U Z H s'->Q (.bool (!o.isSome)) s'):
  wpAny (model X.prog X.w) A (compareOp .NotIn af (.ref a)) Q E s:=by
 rcases g with⟨kvs,k,e,ey,l⟩|⟨kvs,k,b,e,ey,eb,l⟩
 ·subst ey;obtain⟨z,hd,vs,rel,dd⟩:=tm I.cP e;refine wpAny_notIn_of (pd ry) hd dd.mapOf ?_
  rw[<-(rel.val k).mw,<-l];exact h _ (I.tok _)
 ·subst ey;cases(show af=Value.ref b from ry);obtain⟨z,hd,xs,rel,dd⟩:=uY I.cP e;refine wpAny_notIn_heap (l9 hu) (rG I.cP eb) hd dd ?_
  have q:=(rel.val k).mw;rw[jP]at q;rw[<-q,<-l];exact h _ (I.tok _)
theorem tq{ob:HO}(I:Inv X U Z H s)(mu:UP (H a))(hs:Heap.SameBut a s.heap aa)(he:∃q,aa.get? a=some q)(new:cR X.prog X.w (upd H a ob) aa a ob):
  Inv X U Z (upd H a ob) {s with heap:=aa,toks:=i}:=
 I.write (x:=a) (e:=a) mu (.inl rfl) (fun b q hb z=>(hs.2 b hb).trans z) he new
theorem w4{vs:List (Key×Value)}(z:kvs.length<=sizeLine)(hd:(a==sysModules)=false)(rel:KV kvs vs)(dd:aa.DictOf (bY P w) a vs):
  cR P w H aa a (.dK kvs):=⟨z,hd,vs,rel,dd⟩
theorem G_(hu:A.units+1<cLine)(I:Inv X U Z H s)(g:D3 H a y v ac)(ry:RelV y af)(rv:RelV v r)(h:∀s',Inv X U Z ac s'->ae () s'):
  wpAny (model X.prog X.w) A (setItem (.ref a) af r) ae E s:=by
 rcases g with⟨kvs,k,e,ey,l,eH⟩|⟨kvs,k,b,e,ey,eb,l,eH⟩
 ·subst ey eH;obtain⟨z,hd,vs,rel,dd⟩:=Ft I.cP e;have hz:vs.length<=sizeLine:=by rw[<-rel.length];exact z
  have hl:(putK kvs k v).length<=sizeLine:=by have:=pb kvs k v;omega
  refine wpAny_setItem_pairs (hsz:=hz) (pd ry) dd fun h' Fu hs=>h _ ?_
  have he:∃q,h'.get? a=some q:=let⟨q,_,_,hq,_⟩:=Fu;⟨q,hq⟩
  exact tq I (by rw[e];exact True.intro) hs he (w4 hl hd (rel.put k rv) Fu)
 ·subst ey eH;cases(show af=Value.ref b from ry);obtain⟨z,hd,xs,rel,dd⟩:=Vj I.cP e;have hz:xs.length<=sizeLine:=by rw[<-Paired.length rel];exact z
  have hl:(putK kvs k v).length<=sizeLine:=by have:=pb kvs k v;omega
  refine wpAny_setItem_heap (hsz:=hz) (l9 hu) (rG I.cP eb) dd fun h' Fu hs=>h _ ?_
  obtain⟨q,es,ep,hq,h2,h3,h4,_,h5⟩:=Fu;refine tq I (by rw[e];exact True.intro) hs ⟨q,hq⟩ ⟨hl,hd,_,(rel.put k eb rv).keeps fun c ys ec=>?_,q,es,ep,hq,h2,h3,h4,h5⟩;rw[bb (UN ec e (fun z=>nomatch z))];exact ec
end
section
variable {k:Key}
theorem Pg{v:V}(I:Inv X U Z H s)(e:H a=some (.dK kvs))(ry:RelV (kV k) af)(l:mv kvs k=some v)(hm:aq=[]\/∃x,aq=[x])
  (h:∀w' s',Inv X U Z (upd H a (.dK (qR kvs k))) s'->RelV v w'->Q w' s'):wpAny (model X.prog X.w) A (call (.builtin "dict.pop") (.ref a::af::aq)) Q E s:=by
 obtain⟨z,hd,vs,rel,dd⟩:=Ft I.cP e;obtain⟨w',hw,o9⟩:=lG.some_of (v:=v) (o:=valueAt vs k) (by rw[<-l];exact rel.val k);have hp:(keyPart af).isSome=true:=by
  cases k with
  |inl i=>obtain⟨t,q⟩:=(show∃t,af=Value.int i t from ry);subst q;rfl
  |inr x=>obtain⟨t,q⟩:=(show∃t,af=Value.str x t from ry);subst q;rfl
 have ha:argsOk "dict.pop" ⟨.ref a::af::aq,[]⟩:=by
  rcases hm with q|⟨x,q⟩
  ·subst q;exact PySem.F.args_dict_pop_2 _ _
  ·subst q;exact PySem.F.args_dict_pop_3 _ _ _
 refine jh r_ dd.typeIs PySem.F.entry_dict_pop ha (meets_dict_pop_there (bY X.prog X.w) a (pd ry) aq hm hp)
  ⟨vs,w',dd,by rw[<-rel.length];exact z,hw,fun h' Fu hs=>h w' _ ?_ o9⟩
 have he:∃q,h'.get? a=some q:=let⟨q,_,_,hq,_⟩:=Fu;⟨q,hq⟩
 exact tq I (by rw[e];exact True.intro) hs he (w4 (cw (Js kvs k) z) hd (rel.drop k) Fu)
theorem Q4{r:Value}(I:Inv X U Z H s)(e:H a=some (.dK kvs))(ry:RelV (kV k) af)(l:mv kvs k=none)(h:∀s',Inv X U Z H s'->Q r s'):
  wpAny (model X.prog X.w) A (call (.builtin "dict.pop") [.ref a,af,r]) Q E s:=by
 obtain⟨z,hd,vs,rel,dd⟩:=Ft I.cP e;have hn:valueAt vs k=none:=lG.none_of (by rw[<-l];exact rel.val k);have hp:(keyPart af).isSome=true:=by
  cases k with
  |inl i=>obtain⟨t,q⟩:=(show∃t,af=Value.int i t from ry);subst q;rfl
  |inr x=>obtain⟨t,q⟩:=(show∃t,af=Value.str x t from ry);subst q;rfl
 exact jh r_ dd.typeIs PySem.F.entry_dict_pop (PySem.F.args_dict_pop_3 _ _ _) (meets_dict_pop_default (bY X.prog X.w) a (pd ry) hd hp r) ⟨vs,dd,hn,h _ (I.tok _)⟩
theorem Vk(I:Inv X U Z H s)(e:Rd H a (.dK kvs))(h:∀t s',Inv X U Z H s'->Q (.int kvs.length t) s'):wpAny (model X.prog X.w) A (call (.builtin "len") [.ref a]) Q E s:=by
 obtain⟨z,hd,vs,rel,dd⟩:=tm I.cP e;refine call_len_dict hd dd (by rw[<-rel.length];rw[dH]at z;omega) ?_
 rw[<-rel.length];exact h _ _ (I.tok _)
end
def MX(i:Expr):Prop:=∀ov iv,subscripted i false ov iv=operate [ov,iv] (getItem ov iv)
theorem MY{env:Env}{id:String}
  (hl:typeLookup (.type ay) "__getitem__"=pure (some (.builtin id))) (hs:MX tg)
  (h:wpAny (model P w) A (eval e env) (fun o cZ=>wpAny (model P w) A (eval tg env) (fun i sT=>sT.TypeIs o ay/\wpAny (model P w) A (getItem o i) Q E sT) E cZ) E s):
  wpAny (model P w) A (eval (.Subscript e tg pos) env) Q E s:=by
 refine Subscript_ (dW h (fun o cZ fK=>dW fK (fun i sT ph=>?_) fun _ _ x=>x) fun _ _ x=>x);obtain⟨hT,ph⟩:=ph;unfold subscriptTail;refine aP ?_
 rw[getitemInPython_of_ne hT.not_modules];refine aP (wpAny_specialOf hT hl ?_);have fin:wpAny (model P w) A (subscripted tg false o i) (fun r BV=>wpAny (model P w) A (letTemporaryGo e o r>>=fun _=>pure r) Q E BV) E sT:=by
  rw[hs o i];exact wpAny_operating (dW ph (fun r BV yM=>aP (wpAny_letTemporaryGo (a_ yM))) fun _ _ x=>x)
 first
  |exact a_ (aP fin)
  |exact aP (a_ (aP fin))
  |exact aP fin
theorem BW{y:V}{o:Option V}(I:Inv X U Z H s)(g:pf H a y o):s.TypeIs (.ref a) "dict":=by
 rcases g with⟨kvs,k,e,_,_⟩|⟨kvs,k,b,e,_,_,_⟩
 ·obtain⟨_,_,vs,_,dd⟩:=tm I.cP e;exact dd.typeIs
 ·obtain⟨_,_,xs,_,dd⟩:=uY I.cP e;exact dd.typeIs
def Vl(td ty tv:TE):TS:=fun D Z H=>tv Z H fun v H1=>td Z H1 fun x H2=>ty Z H2 fun y H3=>∃a H4,x=.ref a/\D3 H3 a y v H4/\D.nx Z H4
section
variable {td ty tv:TE}
theorem MZ(hu:X.A.units+1<cLine)(ho:PE X o td)(hi:PE X e ty)(hv:PE X tg tv)(hs:swapsWith tg (some (.Subscript o e p)) pos.line X.env=pure false):
  PS X (.Assign [.Subscript o e p] tg pos) (Vl td ty tv):=by
 intro U s Z H D I h;refine wpAny_Assign_Subscript (d7 (hv U s Z H _ I h) fun r s1 ⟨v,H1,I1,rv,q1⟩=>d7 (ho U s1 Z H1 _ I1 q1) fun u s2 ⟨x,H2,I2,rx,q2⟩=>d7 (hi U s2 Z H2 _ I2 q2) fun iv s3 ⟨y,H3,I3,ry,a,H4,ex,g,q3⟩=>?_) hs;subst ex;obtain rfl:u=Value.ref a:=rx;exact G_ hu I3 g ry rv fun s4 I4=>⟨Z,H4,I4,q3⟩
end
theorem BX(h:Heap)(hb:sysModules<h.objs.size):cR P w H (h.push {cls:=.type "dict",data:=.dict #[]}) h.objs.size (.dK []):=
 ⟨dU _,iW.mpr (Ne.symm (bS hb)),[],.nil,Heap.DictOf.new h⟩
def Q5:TE:=fun _ H Q=>∀p,H p=none->Q (.ref p) (upd H p (.dK []))
theorem Jt:PE X (.Dict [] [] pos) Q5:=fun U s Z H Q I h=>
 wpAny_Dict_empty ⟨.ref s.heap.objs.size,_,I.laid (a:=s.heap.objs.size) (o:=.dK []) (t':=s.toks) (fun _ _ q=>bL _ q) (bu _) (BX s.heap I.big),rfl,h _ (I.cP.fresh (bu _))⟩
def w6:List (TE×TE)->St->Hp->(List (V×V)->Hp->Prop)->Prop
 |[],_,H,Q=>Q [] H
 |(tk,tv)::r,Z,H,Q=>tk Z H fun x H1=>tv Z H1 fun y H2=>w6 r Z H2 fun ps H3=>Q ((x,y)::ps) H3
abbrev VV:List (V×V)->List (Value×Value)->Prop:=Paired fun p q=>RelV p.1 q.1/\RelV p.2 q.2
def Ul(X:Cx)(pos:Pos)(keys:List (Option Expr))(values:List Expr)(Aj:List (TE×TE)):Prop:=
 ∀(U:List (Addr×Obj)) (s:Shared) (Z:St) (H:Hp) (Q:List (V×V)->Hp->Prop),Inv X U Z H s->w6 Aj Z H Q->
  wpAny (model X.prog X.w) X.A (evalPairs (pairTrees keys values X.env pos)) (fun vs s'=>∃ps H',Inv X U Z H' s'/\VV ps vs/\Q ps H') X.xe s
theorem Fv:Ul X pos [] [] []:=fun U s Z H Q I h=>pairTrees_nil_walk ⟨[],H,I,.nil,h⟩
theorem BY{ks:List (Option Expr)}{tk tv:TE}{Aj:List (TE×TE)}(hk:PE X e tk)(hv:PE X o tv)(hr:Ul X pos ks es Aj):
  Ul X pos (some e::ks) (o::es) ((tk,tv)::Aj):=fun U s Z H Q I h=>
 pairTrees_cons_walk (d7 (hk U s Z H _ I h) fun u s1 ⟨x,H1,I1,rx,q1⟩=>d7 (hv U s1 Z H1 _ I1 q1) fun w2 s2 ⟨y,H2,I2,ry,q2⟩=>
  d7 (hr U s2 Z H2 _ I2 q2) fun ws s3 ⟨ps,H3,I3,rel,q3⟩=>⟨(x,y)::ps,H3,I3,.cons ⟨rx,ry⟩ rel,q3⟩)
def iD(kvs more:List (Key×V)):List (Key×V):=more.foldl (fun acc kv=>putK acc kv.1 kv.2) kvs
theorem KV.merge:∀{more:List (Key×V)} {rs:List (Key×Value)} {kvs:List (Key×V)} {vs:List (Key×Value)},KV more rs->KV kvs vs->KV (iD kvs more) (merged vs rs):=by
 intro more rs kvs vs r;unfold KV at r
 induction r generalizing kvs vs with
 |nil=>intro q;exact q
 |@cons p q ps qs h t ih=>
  intro r0;have e:KV (putK kvs p.1 p.2) (stored vs q.1 q.2):=by
   have:=r0.put p.1 h.2;rw[<-h.1];exact this
  exact ih e
theorem i8:∀(more kvs:List (Key×V)),(iD kvs more).length<=kvs.length+more.length
 |[],kvs=>by show kvs.length<=kvs.length+0;omega
 |p::r,kvs=>by
  have h1:=i8 r (putK kvs p.1 p.2);have h2:=pb kvs p.1 p.2;show(iD (putK kvs p.1 p.2) r).length<=_;rw[dg];omega
theorem w8{P:Program}{w:World}:∀{kvs:List (Key×V)} {ws:List (Value×Value)},VV (kvs.map fun kv=>(kV kv.1,kv.2)) ws->∃rs,Carries (bY P w) ws rs/\KV kvs rs
 |[],_,r=>by rw[mf]at r;cases r;exact⟨[],True.intro,.nil⟩
 |p::kvs,_,r=>by
  rw[bH]at r;cases r with
  |@cons a b as bs h t=>
   obtain⟨rs,c,q⟩:=w8 (P:=P) (w:=w) t;obtain⟨b1,b2⟩:=b;exact⟨(p.1,b2)::rs,⟨pd h.1,rfl,c⟩,.cons ⟨rfl,h.2⟩ q⟩
def Vm(Aj:List (TE×TE)):TE:=fun Z H Q=>∀p,H p=none->w6 Aj Z (upd H p (.dK [])) fun ps H2=>H2 p=some (.dK [])/\∃kvs:List (Key×V),ps=kvs.map (fun kv=>(kV kv.1,kv.2))/\kvs.length<=15/\Q (.ref p) (upd H2 p (.dK (iD [] kvs)))
theorem Fw{keys:List (Option Expr)}{Aj:List (TE×TE)}(h:Ul X pos keys es Aj)(uw:keys.all (·.isSome)=true)(hl:keys.length=es.length)(h0:keys≠[])
  (M0:keys.length<=15):PE X (.Dict keys es pos) (Vm Aj):=by
 intro U s Z H Q I q;have hn:=I.cP.fresh (bu s.heap.objs.size);have I1:=I.laid (a:=s.heap.objs.size) (o:=.dK []) (h':=s.heap.push {cls:=.type "dict",data:=.dict #[]}) (t':=s.toks) (fun _ _ q=>bL _ q) (bu _) (BX s.heap I.big);refine wpAny_Dict_walk (knd:=bY X.prog X.w) uw hl h0 M0 (d7 (h U _ Z _ _ I1 (q _ hn)) fun ws s2 ⟨ps,H2,I2,rel,e,kvs,ep,lk,q2⟩=>?_);subst ep;obtain⟨rs,c,rk⟩:=w8 (P:=X.prog) (w:=X.w) rel;obtain⟨z,hd,vs0,r0,dd⟩:=Ft I2.cP e;cases r0;refine⟨rs,c,dd,fun h' Fu hs=>⟨.ref s.heap.objs.size,_,?_,rfl,q2⟩⟩;have hz:(iD [] kvs).length<=sizeLine:=by
  have h1:=i8 kvs [];rw[wD]at h1;rw[dH];omega
 have he:∃q,h'.get? s.heap.objs.size=some q:=let⟨q,_,_,hq,_⟩:=Fu;⟨q,hq⟩
 exact tq I2 (by rw[e];exact True.intro) hs he (w4 hz hd (rk.merge .nil) Fu)
structure M1(X:Cx)(o:Expr)(m:Str)(b8:Pos)(e:Expr)(dt:Pos):Prop where
 base:attributeBase o m X.env (eval o X.env)=eval o X.env
 Vn:((backTo dt (starEach [e] X.env)).all (fun x=>!x.1)&&(backToKw dt (keywordEach [] X.env)).all (fun x=>x.1.isSome)
  &&decide (([e]:List Expr).length+([]:List Keyword).length+(if([]:List Keyword).isEmpty then 0 else 1)<30))=true
 line:(b8.endLine==dt.line)=true
 trees:backTo dt (starEach [e] X.env)=[(false,eval e X.env)]
structure M2(X:Cx)(o:Expr)(m:Str)(b8:Pos)(e f:Expr)(dt:Pos):Prop where
 base:attributeBase o m X.env (eval o X.env)=eval o X.env
 Vn:((backTo dt (starEach [e,f] X.env)).all (fun x=>!x.1)&&(backToKw dt (keywordEach [] X.env)).all (fun x=>x.1.isSome)
  &&decide (([e,f]:List Expr).length+([]:List Keyword).length+(if([]:List Keyword).isEmpty then 0 else 1)<30))=true
 line:(b8.endLine==dt.line)=true
 trees:backTo dt (starEach [e,f] X.env)=[(false,eval e X.env),(false,eval f X.env)]
def Vo(H:Hp)(a:Addr):Prop:=(∃kvs,Rd H a (.dK kvs))\/∃kvs,Rd H a (.dT kvs)
theorem Ak(I:Inv X U Z H s)(d:Vo H a):
  s.TypeIs (.ref a) "dict"/\(∀b,Value.ref a=.ref b->∃ob,s.heap.get? b=some ob/\ob.dict=none)/\(a==sysModules)=false:=by
 rcases d with⟨kvs,e⟩|⟨kvs,e⟩
 ·obtain⟨_,hd,vs,_,dd⟩:=tm I.cP e;refine⟨dd.typeIs,fun b q=>?_,hd⟩;cases q;obtain⟨ob,_,_,h1,h2,_⟩:=dd;exact⟨ob,h1,h2.2.1⟩
 ·obtain⟨_,hd,xs,_,dd⟩:=uY I.cP e;refine⟨dd.typeIs,fun b q=>?_,hd⟩;cases q;obtain⟨ob,_,_,h1,h2,_⟩:=dd;exact⟨ob,h1,h2.2.1⟩
section
variable {y d:V}{r:Value}{o:Option V}
theorem Q6(hu:A.units+1<cLine)(I:Inv X U Z H s)(g:pf H a y o)(ry:RelV y af)(h:∀w' s',Inv X U Z H s'->RelV (o.getD .cu) w'->Q w' s'):
  wpAny (model X.prog X.w) A (call (.builtin "dict.get") [.ref a,af]) Q E s:=by
 rcases g with⟨kvs,k,e,ey,l⟩|⟨kvs,k,b,e,ey,eb,l⟩
 ·subst ey;obtain⟨z,hd,vs,rel,dd⟩:=tm I.cP e;refine jh p9 dd.typeIs r9 (PySem.F.args_dict_get_2 _ _) (meets_dict_get (bY X.prog X.w) a (pd ry) hd) ⟨_,dd.mapOf,h _ _ (I.tok _) ?_⟩;rw[l];exact(rel.val k).getD rfl
 ·subst ey;cases(show af=Value.ref b from ry);obtain⟨z,hd,xs,rel,dd⟩:=uY I.cP e;refine jh p9 dd.typeIs r9 (PySem.F.args_dict_get_2 _ _) (meetsH_dict_get (tupleKind (bY X.prog X.w)) a b hd) ⟨l9 hu,k,xs,rG I.cP eb,dd,h _ _ (I.tok _) ?_⟩;rw[l];exact(rel.val k).getD rfl
theorem Q7(hu:A.units+1<cLine)(I:Inv X U Z H s)(g:pf H a y o)(ry:RelV y af)(rd:RelV d r)(h:∀w' s',Inv X U Z H s'->RelV (o.getD d) w'->Q w' s'):
  wpAny (model X.prog X.w) A (call (.builtin "dict.get") [.ref a,af,r]) Q E s:=by
 rcases g with⟨kvs,k,e,ey,l⟩|⟨kvs,k,b,e,ey,eb,l⟩
 ·subst ey;obtain⟨z,hd,vs,rel,dd⟩:=tm I.cP e;refine jh p9 dd.typeIs r9 (PySem.F.args_dict_get_3 _ _ _) (meets_dict_get_default (bY X.prog X.w) a (pd ry) hd r) ⟨_,dd.mapOf,h _ _ (I.tok _) ?_⟩;rw[l];exact(rel.val k).getD rd
 ·subst ey;cases(show af=Value.ref b from ry);obtain⟨z,hd,xs,rel,dd⟩:=uY I.cP e;refine jh p9 dd.typeIs r9 (PySem.F.args_dict_get_3 _ _ _) (meetsH_dict_get_default (tupleKind (bY X.prog X.w)) a b hd r) ⟨l9 hu,k,xs,rG I.cP eb,dd,h _ _ (I.tok _) ?_⟩;rw[l];exact(rel.val k).getD rd
end
def Q8(td ty:TE):TE:=fun Z H Q=>td Z H fun x H1=>∃a,x=.ref a/\Vo H1 a/\ty Z H1 fun y H2=>∃o,pf H2 a y o/\Q (o.getD .cu) H2
def Q9(td ty tx:TE):TE:=fun Z H Q=>td Z H fun x H1=>∃a,x=.ref a/\Vo H1 a/\ty Z H1 fun y H2=>tx Z H2 fun z H3=>∃o,pf H3 a y o/\Q (o.getD z) H3
def Q_(td ty:TE):TE:=fun Z H Q=>td Z H fun x H1=>∃a,x=.ref a/\Vo H1 a/\ty Z H1 fun y H2=>∃kvs k v,H2 a=some (.dK kvs)/\y=kV k/\mv kvs k=some v/\Q v (upd H2 a (.dK (qR kvs k)))
def Ra(td ty tx:TE):TE:=fun Z H Q=>td Z H fun x H1=>∃a,x=.ref a/\Vo H1 a/\ty Z H1 fun y H2=>tx Z H2 fun z H3=>∃kvs k,H3 a=some (.dK kvs)/\y=kV k/\
 (∀v,mv kvs k=some v->Q v (upd H3 a (.dK (qR kvs k))))/\(mv kvs k=none->Q z H3)
section
variable {td ty tx:TE}
theorem Ju(hu:X.A.units+1<cLine)(ho:PE X o td)(he:PE X e ty)(m:M1 X o "get" b8 e p):PE X (.Call (.Attribute o "get" b8) [e] [] p) (Q8 td ty):=by
 intro U s Z H Q I h;refine sD m.base m.Vn m.line p7 p9 PySem.F.type_dict_get (d7 (ho U s Z H _ I h) fun u s1 ⟨x,H1,I1,rx,a,ex,d,q1⟩=>?_);subst ex;obtain rfl:u=Value.ref a:=rx;obtain⟨t1,t2,_⟩:=Ak I1 d;refine⟨t1,t2,?_⟩;rw[m.trees];refine mX rfl (m3 (kl (d7 (he U s1 Z H1 _ I1 q1) fun iv s2 ⟨y,H2,I2,ry,ov,g,q2⟩=>oN ?_)));exact Q6 hu I2 g ry fun w' s3 I3 o9=>⟨_,H2,I3,o9,q2⟩
theorem Jv(hu:X.A.units+1<cLine)(ho:PE X o td)(he:PE X e ty)(hf:PE X tg tx)(m:M2 X o "get" b8 e tg p):PE X (.Call (.Attribute o "get" b8) [e,tg] [] p) (Q9 td ty tx):=by
 intro U s Z H Q I h;refine sD m.base m.Vn m.line p7 p9 PySem.F.type_dict_get (d7 (ho U s Z H _ I h) fun u s1 ⟨x,H1,I1,rx,a,ex,d,q1⟩=>?_);subst ex;obtain rfl:u=Value.ref a:=rx;obtain⟨t1,t2,_⟩:=Ak I1 d;refine⟨t1,t2,?_⟩;rw[m.trees];refine mX rfl (m3 (kl (d7 (he U s1 Z H1 _ I1 q1) fun iv s2 ⟨y,H2,I2,ry,q2⟩=>
  kl (d7 (hf U s2 Z H2 _ I2 q2) fun fv s3 ⟨z,H3,I3,rz,ov,g,q3⟩=>oN ?_))))
 exact Q7 hu I3 g ry rz fun w' s4 I4 o9=>⟨_,H3,I4,o9,q3⟩
theorem Jw(ho:PE X o td)(he:PE X e ty)(m:M1 X o "pop" b8 e p):PE X (.Call (.Attribute o "pop" b8) [e] [] p) (Q_ td ty):=by
 intro U s Z H Q I h;refine sD m.base m.Vn m.line p7 r_ PySem.F.type_dict_pop (d7 (ho U s Z H _ I h) fun u s1 ⟨x,H1,I1,rx,a,ex,d,q1⟩=>?_);subst ex;obtain rfl:u=Value.ref a:=rx;obtain⟨t1,t2,_⟩:=Ak I1 d;refine⟨t1,t2,?_⟩;rw[m.trees];refine mX rfl (m3 (kl (d7 (he U s1 Z H1 _ I1 q1) fun iv s2 ⟨y,H2,I2,ry,kvs,k,v,ea,ey,l,q2⟩=>oN ?_)));subst ey;exact Pg I2 ea ry l (.inl rfl) fun w' s3 I3 o9=>⟨v,_,I3,o9,q2⟩
theorem Jx(ho:PE X o td)(he:PE X e ty)(hf:PE X tg tx)(m:M2 X o "pop" b8 e tg p):PE X (.Call (.Attribute o "pop" b8) [e,tg] [] p) (Ra td ty tx):=by
 intro U s Z H Q I h;refine sD m.base m.Vn m.line p7 r_ PySem.F.type_dict_pop (d7 (ho U s Z H _ I h) fun u s1 ⟨x,H1,I1,rx,a,ex,d,q1⟩=>?_);subst ex;obtain rfl:u=Value.ref a:=rx;obtain⟨t1,t2,_⟩:=Ak I1 d;refine⟨t1,t2,?_⟩;rw[m.trees];refine mX rfl (m3 (kl (d7 (he U s1 Z H1 _ I1 q1) fun iv s2 ⟨y,H2,I2,ry,q2⟩=>
  kl (d7 (hf U s2 Z H2 _ I2 q2) fun fv s3 ⟨z,H3,I3,rz,kvs,k,ea,ey,q3,q4⟩=>oN ?_))))
 subst ey;cases l:mv kvs k with
 |some v=>exact Pg I3 ea ry l (.inr ⟨fv,rfl⟩) fun w' s4 I4 o9=>⟨v,_,I4,o9,q3 v l⟩
 |none=>exact Q4 I3 ea ry l fun s4 I4=>⟨z,H3,I4,rz,q4 l⟩
end
theorem zb:∀{vs:List Value} {ns:List Int},IntsAre vs ns->Vals (ns.map V.int) vs
 |_,_,.nil=>.nil
 |_,_,.cons n t h=>.cons ⟨t,rfl⟩ (zb h)
def Rb(H:Hp):Prop:=∀b,H b=none\/∃o xs,H b=some (.kR o (.lst xs))
theorem Jy{mb:Str->Option Value}{CX:BO}{fd:FuncData}{sp:Sp}{cZ:Shared}{ns:List Int}
  (KX:K.In cZ.heap) (Rc:cZ.heap.Ns mainGlobals mg) (hb:cZ.heap.Ns builtinsNs mb) (hbb:∀x:Str,x≠"__name__"->mb x=bootBuiltins x) (Z0:cZ.heap.NoLimit) (hg:cZ.gens=#[])
  (ha:cZ.heap.get? a=some {cls:=.type "list",data:=.seq aq.toArray}) (hi:IntsAre aq ns) (hl:ns.length<=sizeLine) (hr:cV i callerA)
  (F:∀base:Heap,K.In base->base.Ns mainGlobals mg->d5 P w K mg base CX i au fd [x] sp) (Vp:∀(s:Shared) (u:Value),BindsTo s fd ⟨[u],[]⟩ [(x,u)])
  (Jn:∀H:Hp,Rb H->ll K H a (ns.map V.int)->sp [.ref a] H (fun v _=>v=.bl true) fun _ _ _=>False)
  (Z1:∀H e s',CX [] H cZ (fun _ _ _=>False) e s'->False):
  codeAny (model P w) callerA (.call (.ref au) ⟨[.ref a],[]⟩) (fun r s'=>r=.ok (.ret (.bool true))/\OldK cZ.heap s'.heap/\s'.os=cZ.os/\AllBare s'.gens) cZ:=by
 have rv:=zb hi;have Z2:=hi.length;have core:∀H:Hp,Rb H->ll K H a (ns.map V.int)->rB P w H cZ.heap->(∀b,H b≠none->b=a)->(H a≠none->K.lookup a=none)->
   codeAny (model P w) callerA (.call (.ref au) ⟨[.ref a],[]⟩) (fun r s'=>r=.ok (.ret (.bool true))/\OldK cZ.heap s'.heap/\s'.os=cZ.os/\AllBare s'.gens) cZ:=by
  intro H hO hS cP hA hK;have Fx:∀{b:Addr} {o:Obj},cZ.heap.get? b=some o->H b=none->(z8 cZ.heap H).get? b=some o:=fun e n=>IQ e n;have Vd:∀{b:Addr} {o:Obj} {es:Array DictEntry} {ep:Nat},cZ.heap.get? b=some o->o.data=.dict es ep->H b=none:=fun{b o es ep} e d=>by
   cases q:H b with
   |none=>rfl
   |some u=>
    have e':b=a:=hA b (by rw[q];simp);subst e';rw[ha]at e;cases e;have d':Data.seq aq.toArray _=Data.dict es ep:=d;cases d'
  have YQ:∀{b:Addr} {m:Str->Option Value},cZ.heap.Ns b m->(z8 cZ.heap H).Ns b m:=fun{b m} ⟨o,es,ep,e,d,r⟩=>⟨o,es,ep,Fx e (Vd e d),d,r⟩;have hKb:K.In (z8 cZ.heap H):=fun b o e=>Fx (KX b o e) (by
   cases q:H b with
   |none=>rfl
   |some u=>
    have e':b=a:=hA b (by rw[q];simp);subst e';rw[hK (by rw[q];simp)]at e;cases e)
  have hM:Mod K mg (z8 cZ.heap H):=⟨hKb,YQ Rc,⟨mb,YQ hb,hbb⟩,let⟨mc,h1,h2⟩:=Z0;⟨mc,YQ h1,h2⟩⟩;have e0:yJ P w K mg (z8 cZ.heap H) callerA [] cZ H:=⟨rfl,hM,fun b o e=>Mv e,Nat.le_of_eq (GX _ _),trivial,fun b hb=>absurd (show b∈([]:List Addr)from hb) (by simp),cP,.of_eq hg⟩;refine hW ((F _ hKb (YQ Rc)).run callerA [] cZ H ⟨[.ref a],[]⟩ [.ref a] [.ref a] _ _ hr e0 (Vp cZ (.ref a)) (.cons rfl .nil) (Jn H hO hS)) fun r s' h=>?_
  cases r with
  |error e=>exact(Z1 H e s' h).elim
  |ok fl=>
   cases fl with
   |next=>exact False.elim h
   |brk=>exact False.elim h
   |cont=>exact False.elim h
   |ret u=>
    obtain⟨v,H',os,bare,un,Z3,r',q⟩:=h;have q':v=.bl true:=q;subst q';obtain rfl:u=Value.bool true:=r';refine⟨rfl,OldK.of_keep fun b o e=>?_,os,bare⟩;cases q:H b with
    |none=>exact un.keep b o e q (by intro z;exact absurd (show b∈([]:List Addr)from z) (by simp)) (by simp)
    |some u=>
     rcases hO b with z|⟨ob,xs,z⟩
     ·rw[q]at z;cases z
     ·have z2:=un.kT b ob _ z;obtain⟨e1,_⟩:=cP b _ z;obtain⟨e2,_⟩:=Z3 b _ z2;rw[e]at e1;cases e1;exact e2
 cases hk:K.lookup a with
 |some o=>
  have e:=KX a o hk;rw[ha]at e;cases e;refine core (fun _=>none) (fun _=>.inl rfl) (.inr ⟨_,aq.toArray,_,hk,rfl,rfl,rfl,by rw[cO,Z2];exact hl,by simpa using rv⟩) (fun b u z=>by have z':(none:Option HO)=some u:=z;cases z') (fun b z=>absurd rfl z) fun z=>absurd rfl z
 |none=>
  refine core (fun b=>if b=a then some (.kR {cls:=.type "list",data:=.seq aq.toArray} (.lst (ns.map V.int)))else none) (fun b=>?_) (.inl (.inr ⟨{cls:=.type "list",data:=.seq aq.toArray},aS rfl⟩)) (fun b u z=>?_) (fun b z=>?_) fun _=>hk
  ·by_cases hb:b=a
   ·exact .inr ⟨_,_,aS hb⟩
   ·exact .inl (aW hb)
  ·by_cases hb:b=a
   ·have z':=(aS hb).symm.trans z;cases z';subst hb;exact⟨ha,by rw[bj];exact hl,aq,_,rv,ha⟩
   ·have z':=(aW hb).symm.trans z;cases z'
  ·by_cases hb:b=a
   ·exact hb
   ·exact absurd (aW hb) z
theorem M3{l:PySem.W.OpenLaw}{n k:Nat}{XP:(Str->Option Value)->Heap->Prop}{YP:World->Heap->Prop}{d:DefRec}{K:Params->Frag}{CX:World->BO}{sp:World->Sp}{x:Str}
  (hn:l.most=some n) (QK:n<=sizeLine) (UJ:d.params.defaults=[]) (hr:cV k callerA)
  (hY:∀(w:World) (h:Heap),YP w h->(K w.params).In h)
  (F:∀(w:World) (mg:Str->Option Value) (fa:Addr) (h:Heap),(K w.params).In h->h.Ns mainGlobals mg->mg d.name=some (.ref fa)->
   ∃fd:FuncData,(∀(s:Shared) (u:Value),BindsTo s fd ⟨[u],[]⟩ [(x,u)])/\
    ∀base:Heap,(K w.params).In base->base.Ns mainGlobals mg->d5 l.prog w (K w.params) mg base (CX w) k fa fd [x] (sp w))
  (Jn:∀(w:World) (H:Hp) (a:Addr) (ns:List Int),ns.length<=n->Rb H->ll (K w.params) H a (ns.map V.int)->sp w [.ref a] H (fun v _=>v=.bl true) fun _ _ _=>False)
  (Z1:∀(w:World) (H:Hp) (s:Shared) (e:Value) (s':Shared),CX w [] H s (fun _ _ _=>False) e s'->False):
  PySem.W.WalkO P ps XP YP l.row.toRowW d [] (fun f vs=>PySem.call f vs):=by
 refine Att.BH hn UJ fun w f9 cZ mg mb fa o pm cd doc a vs ns G ρ ho hd DL UK Qe hints b9 hg=>?_
 have KX:=hY w _ ρ;obtain⟨fd,hb,hF⟩:=F w mg fa _ KX G.T.g UK;exact Jy KX G.T.g G.T.b G.T.builtins G.T.nolimit hg Qe hints (cw b9 QK) hr hF hb (fun H hO hS=>Jn w H a ns b9 hO hS) fun H e s'=>Z1 w H cZ e s'
def vL(s:Stmt):Arguments:=match s with
 |.FunctionDef _ a _ _ _ _ _ _ _ _=>a
 |_=>{posonlyargs:=[],args:=[],vararg:=none,kwonlyargs:=[],kw_defaults:=[],kwarg:=none,defaults:=[]}
def fF(s:Stmt):List Stmt:=match s with
 |.FunctionDef _ _ b _ _ _ _ _ _ _=>b
 |_=>[]
def bC(s:Stmt):Scope:=match s with
 |.FunctionDef _ _ _ _ _ _ sc _ _ _=>sc
 |_=>{kind:=.function,names:=[],isGenerator:=false,isCoroutine:=false}
abbrev lX:BO:=fun _ _ _ _ _ _=>False
abbrev E0:XK:=fun _ _ _=>False
theorem Jz:Passes lX X E0:=fun _ _ _ _ _ _ _ h=>h.elim
structure yF(K:Frag)(x qual:Str)(st:Stmt)(f:Addr)(fd:FuncData):Prop where
 ex:∃(oc:Value) (od:Option Addr) (kV doc pm:Value) (an:Option Addr) (fH ct:Value) (Jm:Array (Option Value)),
  fd=PySem.W.fnOf x qual (vL st) (fF st) (bC st) .none kV doc pm an fH ct/\K.lookup f=some ⟨oc,od,.func fd,Jm⟩/\PySem.W.codeIn K fH qual=true
 kp:PySem.W.keepIn K (.ref f)=true
theorem yF.ok {qual:Str}{st:Stmt}{f:Addr}{fd:FuncData}{N:List Str}{k:Nat}{sp:Sp}(F:yF K x qual st f fd)(S:gO N ps (bC st))(len:∀vs H Q E,sp vs H Q E->vs.length=ps.length)
  (kE:∀(fH:Value) (A:Around) (outer:List Env) (s:Shared) (H:Hp) (vs:List V) (Q:VK) (E:XK),cV k (A.deeper (envOfC qual (bC st) s.heap.objs.size f fH))->sp vs H Q E->
   ∃t,n_ (n5 lX P w K mg aa N qual (bC st) f fH A outer s H E).IH (fF st) t/\t {nx:=fun _ H'=>Q .cu H',rt:=Q} (start N vs) H):d5 P w K mg aa lX (k+1) f fd ps sp:=by
 obtain⟨oc,od,kV,doc,pm,an,fH,ct,Jm,rfl,lk,DL⟩:=F.ex;refine Pb lk DL S len fun A outer s H vs Q E hr Jn=>?_
 obtain⟨t,h,q⟩:=kE fH A outer s H vs Q E hr Jn;exact⟨t,h.IH,q⟩
theorem yF.binds {qual:Str}{st:Stmt}{f:Addr}{fd:FuncData}(F:yF K x qual st f fd)
  (h:∀(kV doc pm:Value) (an:Option Addr) (fH ct:Value) (us:List Value),us.length=ps.length->bindArgs (PySem.W.fnOf x qual (vL st) (fF st) (bC st) .none kV doc pm an fH ct) ⟨us,[]⟩=pure (ps.zip us)):Binds K fd ps []:=by
 obtain⟨oc,od,kV,doc,pm,an,fH,ct,Jm,rfl,lk,DL⟩:=F.ex;exact .all (h kV doc pm an fH ct)
theorem aY(hr:cV i A):A.units+1<cLine:=sj (Nat.add_le_add_left (by decide:1<=64) _) hr.units
theorem Rf{A B:Prop}(h:B):if false=true then A else B:=by
 rw[aW fD];exact h
theorem Rg{A B:Prop}(h:A):if true=true then A else B:=by
 rw[aS rfl];exact h
def ba(H H':Hp):Prop:=∀b o,H b=some o->H' b=some o
theorem ba.refl (H:Hp):ba H H:=fun _ _ h=>h
theorem ba.trans {H1 H2:Hp}(a:ba H H1)(b:ba H1 H2):ba H H2:=fun c o h=>b c o (a c o h)
theorem ba.free {H':Hp}(e:ba H H'){l:Addr}(h:H' l=Option.none):H l=Option.none:=by
 cases q:H l with
 |none=>rfl
 |some o=>
  rw[e l o q]at h;cases h
theorem ba.seq {H':Hp}{xs:List V}(e:ba H H')(h:ll K H a xs):ll K H' a xs:=by
 rcases h with(h|⟨o,h⟩)|h
 ·exact .inl (.inl (e _ _ h))
 ·exact .inl (.inr ⟨o,e _ _ h⟩)
 ·exact .inr h
theorem w_{α β:Type}{f:α->β->Sem (ForInStep β)}{g:β->α->β}:∀(l:List α) (c:β),(∀x∈l,∀c,f x c=pure (.yield (g c x)))->forIn l c f=(pure (l.foldl g c):Sem β)
 |[],c,_=>rfl
 |x::l,c,h=>by
  rw[oO,h x cp,pure_bind];exact w_ l _ fun y hy=>h y (b_ _ hy)
def lI(env:Env)(cs:List (Str×Addr))(x:Str×NameKind):List (Str×Addr):=if x.2== .free then(x.1,(env.cells.lookup x.1).getD 0)::cs else cs
def D4(scope:Scope)(env:Env):List (Str×Addr):=scope.names.foldl (lI env) []
theorem tB{env:Env}(h:∀x∈ax.names,x.2=.free->∃c,env.cells.lookup x.1=some c):closureFor ax env=pure (D4 ax env):=by
 simp only[closureFor];rw[w_ (g:=lI env) ax.names [] (fun x hx c=>by
  obtain⟨n,k⟩:=x;by_cases hk:k=.free
  ·subst hk;obtain⟨a,ha⟩:=h _ hx rfl;have jH:env.cells.lookup n=some a:=ha;simp[cellOf,jH,lI]
  ·have e:(k==NameKind.free)=false:=by simpa using hk
   simp[e,lI])]
 rfl
theorem xa{env:Env}:∀(names:List (Str×NameKind)) (acc:List (Str×Addr)),(∀x∈names,x.2=.free->∃c,env.cells.lookup x.1=some c)->(∀x c,acc.lookup x=some c->env.cells.lookup x=some c)->
  ∀x c,(names.foldl (lI env) acc).lookup x=some c->env.cells.lookup x=some c
 |[],_,_,ha,x,c,e=>ha x c e
 |(n,k)::r,acc,hf,ha,x,c,e=>by
  refine xa r (lI env acc (n,k)) (fun y hy=>hf y (b_ _ hy)) (fun y d ed=>?_) x c e;unfold lI at ed;by_cases hk:k=.free
  ·subst hk;obtain⟨a,hn⟩:=hf (n,.free) cp rfl;have O4:env.cells.lookup n=some a:=hn;simp only[bX,cK,O4,oJ,cE]at ed;split at ed
   ·rename_i hy;have:y=n:=by simpa using hy
    subst this;rw[O4];exact ed
   ·exact ha y d ed
  ·have e:(k==NameKind.free)=false:=by simpa using hk
   simp only[e,cW,cx]at ed;exact ha y d ed
theorem xf{env:Env}:∀(names:List (Str×NameKind)) (acc:List (Str×Addr)) (x:Str),((acc.lookup x).isSome=true\/(x,NameKind.free)∈names)->((names.foldl (lI env) acc).lookup x).isSome=true
 |[],_,_,h=>h.elim (fun z=>z) fun z=>absurd z (by simp)
 |(n,k)::r,acc,x,h=>by
  refine xf r (lI env acc (n,k)) x ?_
  unfold lI;rcases h with h|h
  ·left;split
   ·rw[cE];split<;>simp_all
   ·exact h
  ·rcases bB.mp h with h|h
   ·left;cases h;simp[cE]
   ·exact .inr h
theorem rH{env:Env}:∀{names:List (Str×NameKind)} {x:Str} {k:NameKind},(names.map fun(n,k)=>if(k==NameKind.free&&env.scope.kind== .function&&env.kindOf n==some .cell)then(n,NameKind.cell)else(n,k)).lookup x=some k->
  names.lookup x=some k\/names.lookup x=some .free
 |[],_,_,h=>by simp at h
 |(n,j)::r,x,k,h=>by
  simp only[bH]at h;by_cases hx:x=n
  ·subst hx;by_cases hc:(j==NameKind.free&&env.scope.kind== .function&&env.kindOf x==some .cell)=true
   ·rw[aS hc]at h;simp only[bP,eV]at hc;right;rw[cE,bX,hc.1.1]
   ·rw[aW hc]at h;left;rw[cE,bX]at h⊢;exact h
  ·have e:(x==n)=false:=by simpa using hx
   have h':(r.map fun(n,k)=>if(k==NameKind.free&&env.scope.kind== .function&&env.kindOf n==some .cell)then(n,NameKind.cell)else(n,k)).lookup x=some k:=by
    split at h<;>(rw[cE,e]at h;exact h)
   rcases rH h' with z|z
   ·left;rw[cE,e];exact z
   ·right;rw[cE,e];exact z
theorem tD{env:Env}:∀{names:List (Str×NameKind)} {x:Str},names.lookup x=some .free->
  (names.map fun(n,k)=>if(k==NameKind.free&&env.scope.kind== .function&&env.kindOf n==some .cell)then(n,NameKind.cell)else(n,k)).lookup x=some .cell\/
  (names.map fun(n,k)=>if(k==NameKind.free&&env.scope.kind== .function&&env.kindOf n==some .cell)then(n,NameKind.cell)else(n,k)).lookup x=some .free
 |[],_,h=>by simp at h
 |(n,j)::r,x,h=>by
  simp only[bH];by_cases hx:x=n
  ·subst hx;rw[cE,bX]at h;have hj:j=.free:=Option.some.inj h;by_cases hc:(j==NameKind.free&&env.scope.kind== .function&&env.kindOf x==some .cell)=true
   ·left;rw[aS hc,cE,bX]
   ·right;rw[aW hc,cE,bX,hj]
  ·have e:(x==n)=false:=by simpa using hx
   rw[cE,e]at h;rcases tD (env:=env) h with z|z
   ·left;split<;>(rw[cE,e];exact z)
   ·right;split<;>(rw[cE,e];exact z)
def tH(X:Cx)(scope:Scope)(N:List Str)(s:Shared)(H:Hp)(ex:List Addr):Cx where
 prog:=X.prog
 w:=X.w
 K:=X.K
 mg:=X.mg
 base:=X.base
 A:=X.A
 N:=N
 f9:=s
 BK:=H
 env:=compEnvC scope (D4 scope X.env) s.heap.objs.size X.env
 outer:=X.stack
 stack:=X.stack
 ex:=ex
 fn:=fun _=>false
 calm:=X.calm
 pn:=[]
 xe:=fun _ _=>False
def Vq(N N':List Str)(ix:List (Option Nat))(sc scope:Scope):Bool:=
 decide (N'.length=ix.length)&&(N'.zip ix).all (fun p=>match p.2 with
  |none=>true
  |some j=>decide (N[j]?=some p.1)&&decide (scope.names.lookup p.1=some .free))&&
 scope.names.all (fun y=>y.2 != .cell&&(y.2 != .free||decide (sc.names.lookup y.1=some .cell))&&(y.2 != .local||decide (scope.names.lookup y.1=some .local)))&&(scope.kind== .function)
structure gz(X:Cx)(N':List Str)(ix:List (Option Nat))(scope:Scope):Prop where
 len:N'.length=ix.length
 free:∀(i:Nat) (x:Str) (j:Nat),N'[i]?=some x->ix[i]?=some (some j)->X.N[j]?=some x/\scope.names.lookup x=some .free
 JA:∀y∈scope.names,y.2≠ .cell
 cell:∀y∈scope.names,y.2=.free->X.env.scope.names.lookup y.1=some .cell
 loc:∀y∈scope.names,y.2=.local->scope.names.lookup y.1=some .local
 kind:scope.kind=.function
theorem gz.of {N N':List Str}{ix:List (Option Nat)}{sc scope:Scope}(hN:X.N=N)(hs:X.env.scope=sc)(h:Vq N N' ix sc scope=true):gz X N' ix scope:=by
 unfold Vq at h;simp only[bP,hU,dm]at h;obtain⟨⟨⟨h1,h2⟩,h3⟩,h4⟩:=h;refine⟨h1,fun i x j e1 e2=>?_,fun y hy z=>?_,fun y hy z=>?_,fun y hy z=>?_,by simpa using h4⟩
 ·have m:(x,some j)∈N'.zip ix:=dS (i:=i) (by rw[List.getElem?_zip_eq_some];exact⟨e1,e2⟩);have q:=h2 _ m;simp only[bP,hU]at q;rw[hN];exact q
 ·have q:=(h3 y hy).1.1;rw[z]at q;simp at q
 ·have q:=(h3 y hy).1.2;rw[z]at q;simp only[sq,kz,hU]at q;rw[hs];exact q
 ·have q:=(h3 y hy).2;rw[z]at q;simp only[sq,kz,hU]at q;exact q
def i9(ix:List (Option Nat))(Z:St):St:=ix.map fun o=>o.bind fun j=>(Z[j]?).join
theorem D5{ix:List (Option Nat)}{fp:List Addr}{tk:Nat}(L:gz X ps ix ax)(I:Inv X U Z H s)
  (Rc:aa.Ns s.heap.objs.size (fun _=>none)) (M4:∀b o,s.heap.get? b=some o->aa.get? b=some o)
  (hf:∀b∈fp,kD X U H b) (hfo:∀b∈fp,b<s.heap.objs.size):Inv (tH X ax ps s H fp) [] (i9 ix Z) H {s with heap:=aa,toks:=tk}:=by
 have xg:∀y∈ax.names,y.2=.free->∃c,X.env.cells.lookup y.1=some c:=fun y hy z=>I.ok.has y.1 (.inl (L.cell y hy z));have sub:∀x c,(D4 ax X.env).lookup x=some c->X.env.cells.lookup x=some c:=xa ax.names [] xg (fun x c e=>by simp at e);have has:∀x,ax.names.lookup x=some .free->∃c,(D4 ax X.env).lookup x=some c:=fun x e=>
  rX.mp (xf ax.names [] x (.inr (kZ e)))
 have Mh:∀b∈fp,b∉jG X.stack:=fun b hb z=>by
  obtain⟨_,f1,f2,_⟩:=hf b hb;rcases bB.mp (I.wO b z)with q|q
  ·exact f1 q
  ·exact f2 q
 refine⟨⟨I.ok.mod,L.kind,I.ok.glob,I.ok.blt,bu _,fun x y c e1 e2=>I.ok.inj x y c (sub x c e1) (sub y c e2),fun x hx=>?_,fun x c z=>absurd (show false=true from z) fD,I.ok.hd,I.ok.frames,.inl rfl,
   fun b hb=>⟨bS (hfo b hb),fun x c e=>(hf b hb).2.2.2.2.1 x c (sub x c e)⟩,I.bs,cw I.ok.GY I.sz,fun b o e hb=>?_,Mh,I.stack,I.vJ⟩,
  rfl,I.bare,Un.kept M4,⟨_,Rc,fun i x v e1 e2 e3=>?_⟩,fun x c e=>?_,I.fresh,fun x c e=>I.fI x c (sub x c e),fun p hp=>absurd (show p∈([]:List (Addr×Obj))from hp) (by simp),I.cP.kept M4,?_⟩
 ·have hx:(relabel ax X.env).names.lookup x=some .cell\/(relabel ax X.env).names.lookup x=some .free:=hx;have Fc:ax.names.lookup x=some .free:=by
   rcases hx with z|z
   ·rcases rH z with q|q
    ·exact absurd rfl (L.JA _ (kZ q))
    ·exact q
   ·rcases rH z with q|q
    ·exact q
    ·exact q
  exact has x Fc
 ·obtain⟨_,_,_,q,_⟩:=hf b hb;rcases q with q|q
  ·exact I.ok.z9 b o e q
  ·exact absurd (cU (bp (I.ok.bs b o e).1) q) (eC _)
 ·
  unfold i9 at e2;rw[bW]at e2;cases eo:ix[i]? with
  |none=>rw[eo]at e2;cases e2
  |some o=>
   rw[eo]at e2;cases o with
   |none=>exact absurd (show(some none:Option (Option V))=some (some v)from e2) (by simp)
   |some j=>
    obtain⟨n1,n2⟩:=L.free i x j e1 eo;have Um:(Z[j]?).join=some v:=Option.some.inj (show some ((Z[j]?).join)=some (some v)from e2);have e4:Z[j]?=some (some v):=by
     cases q:Z[j]? with
     |none=>rw[q]at Um;cases Um
     |some z=>
      rw[q]at Um;have:z=some v:=Um;rw[this]
    have Fy:X.env.scope.names.lookup x=some .cell:=L.cell _ (kZ n2) rfl;obtain⟨m,hn,hl⟩:=I.loc;obtain⟨u,r,l⟩:=hl j x v n1 e4 (.inr (.inl Fy));refine⟨u,r,?_⟩;rcases l with⟨k,_⟩|⟨k,c,ec,z⟩
    ·have k':X.env.scope.names.lookup x=some .local:=k;rw[Fy]at k';cases k'
    ·obtain⟨c',UU⟩:=has x n2;have ecc:c'=c:=by
      have q:=sub x c' UU;rw[ec]at q;exact(Option.some.inj q).symm
     subst ecc;refine .inr ⟨?_,c',UU,?_⟩
     ·exact tD n2
     ·obtain⟨o',Mw,Mx⟩:=z;exact⟨o',M4 _ _ Mw,Mx⟩
 ·obtain⟨v,o,ho,hd⟩:=I.cell x c (sub x c e);exact⟨v,o,M4 _ _ ho,hd⟩
 ·show(i9 ix Z).length=ps.length;unfold i9;rw[bj];exact L.len.symm
abbrev Fz(ifs:List Expr)(env:Env):Sem Bool:=forIn ifs true fun c r=>if r=true then do let ok<-isTrue c env (eval c env);pure (ForInStep.yield ok)else pure (ForInStep.yield r)
theorem M5{acc:Value}{env:Env}(I:Nat->Shared->Prop)
  (turn:∀n s,I n s->wpAny (model P w) A (pyNext af) (fun r cZ=>match r with
   |none=>aw (.ok .next) cZ
   |some v=>wpAny (model P w) A (letOwnedTupleGo o af v) (fun _ Ph=>wpAny (model P w) A (assign o env v) (fun _ sT=>
     wpAny (model P w) A (Fz es env) (fun ok BV=>
      if ok=true then wpAny (model P w) A (eval e env) (fun x M6=>
       wpAny (model P w) A (call (.builtin "list.append") [acc,x]) (fun _ Vr=>∃m,m<n/\I m Vr) (fun _ _=>False) M6) (fun _ _=>False) BV
      else∃m,m<n/\I m BV) (fun _ _=>False) sT) (fun _ _=>False) Ph) (fun _ _=>False) cZ) (fun _ _=>False) s)
  (n:Nat) (h:I n s):codeAny (model P w) A (.compLoop (.ListComp e [⟨o,tg,es,0⟩] ax pos) 0 af acc env) aw s:=by
 refine codeAny_loop rfl I (fun n s hI=>?_) n h;show wpAny _ A ((compTurn (.ListComp e [⟨o,tg,es,0⟩] ax pos) 0 af acc env).onRaise (fun x=>do noteFrame x env;theTreesLotGoes x)) _ _ s;refine wpAny_noted ?_
 rw[compTurn_list];refine aP (wpAny_standAt (aP (dW (turn n s hI) (fun r cZ fK=>?_) fun _ _ f=>f.elim)));cases r with
 |none=>exact a_ fK
 |some v=>
  refine aP (dW fK (fun _ Ph Vs=>?_) fun _ _ f=>f.elim);refine aP (dW Vs (fun _ sT ph=>aP (dW ph (fun ok BV yM=>?_) fun _ _ f=>f.elim)) fun _ _ f=>f.elim);cases ok with
  |false=>exact a_ ⟨rfl,yM⟩
  |true=>exact aP (aP (dW yM (fun x M6 Rh=>aP (dW Rh (fun _ Vr qO=>a_ (a_ ⟨rfl,qO⟩)) fun _ _ f=>f.elim)) fun _ _ f=>f.elim))
def PF(X:Cx)(ifs:List Expr)(t:TT):Prop:=
 ∀(U:List (Addr×Obj)) (s:Shared) (Z:St) (H:Hp) (Q:Bool->Hp->Prop),Inv X U Z H s->t Z H Q->wpAny (model X.prog X.w) X.A (Fz ifs X.env) (TP X U Z Q) X.xe s
theorem Ri:PF X [] (fun _ H Q=>Q true H):=fun _ _ _ H _ I h=>wpAny_tests_nil ⟨H,I,h⟩
theorem Rj{t:TT}(h:PT X e t):PF X [e] t:=fun U s Z H Q I q=>wpAny_tests_one (h U s Z H Q I q)
def Z4(J:It)(D:Addr)(YR:St)(H0:Hp)(g:TG)(tc:TT)(te:TE)(Q:Hp->Prop):Prop:=
 ∃W:Nat->Nat->St->Hp->Prop,(∃m,W 0 m YR H0)/\∀i m Z H,W i m Z H->(J.stop i H/\Q H)\/
  (J.go i H/\∃N:St->Hp->Prop,(∀di H',N di H'->∃m',m'<m/\W (i+1) m' di H')/\∀x H',J.Fj i H x H'->g x Z H' fun vK H2=>tc vK H2 fun b H3=>
    if b=true then te vK H3 fun y H4=>∃ys,H4 D=some (.lst ys)/\ys.length<sizeLine/\N vK (upd H4 D (.lst (ys++[y])))else N vK H3)
def Uo(wi:TI)(ix:List (Option Nat))(g:TG)(tc:TT)(te:TE):TE:=fun Z H Q=>wi Z H fun J H1=>∀D,H1 D=none->Z4 J D (i9 ix Z) (upd H1 D (.lst [])) g tc te fun H'=>Q (.ref D) H'
section
variable {scope:Scope}{ix:List (Option Nat)}{elt:Expr}{g:TG}{tc:TT}{te:TE}
theorem FA{use:Option (Value->Sem Unit)}{QD:Addr->Hp->Prop}{s2:Shared}{fp:List Addr}{tn:Nat->Heap->Prop}{J:It}
  (L:gz X ps ix scope) (hc:X.calm=true) (kU:∀s H ex,PG (tH X scope ps s H ex) tg g/\PF (tH X scope ps s H ex) az tc/\PE (tH X scope ps s H ex) elt te)
  (I2:Inv X U Z ac s2) (T:Turn X.prog X.w X.K tg J fp a tn) (ME:tn 0 s2.heap) (f2:∀b∈fp,kD X U ac b)
  (hw:∀D,ac D=none->Z4 J D (i9 ix Z) (upd ac D (.lst [])) g tc te (QD D))
  (Z5:∀D C H' s' m,Inv X U Z H' s'->kD X U H' C->s'.heap.Ns C m->QD D H'->compPost (model X.prog X.w) X.A X.xe use E (.ref D) C (.ok .next) s'):
  wpAny (model X.prog X.w) X.A (newList []) (fun acc BV=>wpAny (model X.prog X.w) X.A (newFunctionEnv scope X.env.globals (D4 scope X.env) [] X.env.qual none .none (some X.env)) (fun Vt M6=>
   codeAny (model X.prog X.w) X.A (.compStart (.ListComp elt [⟨tg,am,az,0⟩] scope pos) 0 (.ref a) acc {Vt with scope:=relabel scope X.env}) (compPost (model X.prog X.w) X.A X.xe use E acc Vt.locals) M6) X.xe BV) X.xe s2:=by
 refine km (wpAny_newFunctionEnv L.JA (by intro y hy;simp at hy) (fun fK D6 D7=>?_) L.kind);dsimp only at D6 D7⊢;have hD:ac s2.heap.objs.size=none:=I2.fresh;have I3:Inv X U Z (upd ac s2.heap.objs.size (.lst [])) {s2 with heap:=s2.heap.push {cls:=.type "list",data:=.seq ([]:List Value).toArray},toks:=s2.toks}:=I2.MU (cc:=[]) .nil (dU _);generalize hs3:({s2 with heap:=s2.heap.push {cls:=.type "list",data:=.seq ([]:List Value).toArray},toks:=s2.toks}:Shared)=s3 at I3;have e3:({s2 with heap:=s2.heap.push {cls:=.type "list",dict:=none,data:=.seq ([]:List Value).toArray}}:Shared)=s3:=hs3;have eh:s2.heap.push {cls:=.type "list",dict:=none,data:=.seq ([]:List Value).toArray}=s3.heap:=cQ Shared.heap e3;have eos:s3.os=s2.os:=by rw[<-e3]
 have ek:∀b o,s2.heap.get? b=some o->s3.heap.get? b=some o:=fun b o e=>by rw[<-eh];exact bL _ e
 have Rk:s2.heap.objs.size<=s3.heap.objs.size:=by rw[<-eh,jg];exact oZ _
 rw[eh]at D6 D7⊢;have f3:∀b∈fp,kD X U (upd ac s2.heap.objs.size (.lst [])) b:=fun b hb=>by
  obtain⟨o,eo,_⟩:=T.obj _ _ ME b hb;refine⟨?_,(f2 b hb).2⟩;rw[bb (bS (bp eo))];exact(f2 b hb).1
 have GW:∀b∈fp,b<s3.heap.objs.size:=fun b hb=>by
  obtain⟨o,eo,_⟩:=T.obj _ _ ME b hb;exact cU (bp eo) Rk
 have k4:∀b o,s3.heap.get? b=some o->fK.get? b=some o:=fun b o e=>D7.extBut b o (bS (bp e)) (bL _ e);have st4:tn 0 fK:=T.keep _ _ _ ME fun b _ o e=>k4 b o (ek b o e);obtain⟨W,⟨m0,w0⟩,turn⟩:=hw s2.heap.objs.size hD;have I4:∀tk,Inv (tH X scope ps s3 (upd ac s2.heap.objs.size (.lst [])) fp) [] (i9 ix Z) (upd ac s2.heap.objs.size (.lst [])) {s3 with heap:=fK,toks:=tk}:=fun tk=>
  D5 L I3 D6 k4 f3 GW
 obtain⟨hg,hf,he⟩:=kU s3 (upd ac s2.heap.objs.size (.lst [])) fp;have DQ:∀{H':Hp},(∀b∈fp,H' b=none)->∀b∈fp,kD (tH X scope ps s3 (upd ac s2.heap.objs.size (.lst [])) fp) [] H' b:=fun{H'} hn b hb=>by
  have ok:=(I4 0).ok;obtain⟨x1,x2⟩:=ok.Ui b hb;exact⟨hn b hb,x1,ok.BL b hb,.inl hb,x2,fun p hp=>absurd (show p∈([]:List (Addr×Obj))from hp) (by simp)⟩
 have loop:∀tk,codeAny (model X.prog X.w) X.A (.compLoop (.ListComp elt [⟨tg,am,az,0⟩] scope pos) 0 (.ref a) (.ref s2.heap.objs.size) (compEnvC scope (D4 scope X.env) s3.heap.objs.size X.env))
   (compPost (model X.prog X.w) X.A X.xe use E (.ref s2.heap.objs.size) s3.heap.objs.size) {s3 with heap:=fK,toks:=tk}:=fun tk=>by
  refine M5 (fun n s'=>∃i di H',Inv (tH X scope ps s3 (upd ac s2.heap.objs.size (.lst [])) fp) [] di H' s'/\tn i s'.heap/\(∀b∈fp,H' b=none)/\W i n di H') ?_ m0
   ⟨0,_,_,I4 tk,st4,fun b hb=>(f3 b hb).1,w0⟩
  rintro n s5 ⟨i,YS,H5,I5,Uj,YO,w5⟩
  rcases turn i n YS H5 w5 with⟨stop,qn⟩|⟨go,N,hN,step⟩
  ·refine d7 (T.done (tH X scope ps s3 (upd ac s2.heap.objs.size (.lst [])) fp) rfl rfl rfl hc i [] s5 YS H5 _ I5 (DQ YO) Uj stop) fun r s6 ⟨hr,I6⟩=>?_
   subst hr;have u:Un (jG X.stack) fp ac H5 s2.heap s6.heap:=(Un.laid (o:=.lst []) ek (bu _) hD).trans I6.base;have J6:Inv X U Z H5 s6:=I2.UW (ch:=fp) (I6.os.trans eos) u I6.cP I6.bare fun b hb=>by
    obtain⟨_,x1,_,x3,x4,x5⟩:=f2 b hb;exact⟨x3,x1,x4,x5⟩
   obtain⟨m,hm,_⟩:=I6.loc;exact Z5 _ _ H5 s6 m J6 (I2.wR Rk I6.free) hm qn
  ·refine d7 (T.item (tH X scope ps s3 (upd ac s2.heap.objs.size (.lst [])) fp) rfl rfl rfl hc i [] s5 YS H5 _ I5 (DQ YO) Uj go) fun r s6 ⟨v,hr,h6⟩=>?_
   subst hr;refine d7 h6 fun _ s7 ⟨x,H7,I7,r7,y7,Z6,fr7⟩=>?_
   have I7':=I7.pinned (DQ fr7) (T.obj _ _ Z6);refine d7 (hg _ s7 YS H7 x v _ I7' r7 (step x H7 y7)) fun _ s8 ⟨YT,H8,I8,q8⟩=>?_
   have again:∀{Vu:St} {H9:Hp} {s9:Shared},Inv (tH X scope ps s3 (upd ac s2.heap.objs.size (.lst [])) fp) ([]++wV fp s7.heap) Vu H9 s9->N Vu H9->
     ∃m,m<n/\∃i di H',Inv (tH X scope ps s3 (upd ac s2.heap.objs.size (.lst [])) fp) [] di H' s9/\tn i s9.heap/\(∀b∈fp,H' b=none)/\W i m di H':=fun{Vu H9 s9} I9 n9=>by
    obtain⟨m',hm,w9⟩:=hN Vu H9 n9;refine⟨m',hm,i+1,Vu,H9,I9.sS,T.keep _ _ _ Z6 fun b hb o e=>(I9.pin (b,o) (dk _ (dk _ (m7 hb e)))).1,fun b hb=>?_,w9⟩;obtain⟨o,e,d⟩:=T.obj _ _ Z6 b hb;exact(I9.pin (b,o) (dk _ (dk _ (m7 hb e)))).2.1
   refine d7 (hf _ s8 YT H8 _ I8 q8) fun ok s9 ⟨H9,I9,q9⟩=>?_
   cases ok with
   |false=>exact again I9 q9
   |true=>
    refine d7 (he _ s9 YT H9 _ I9 q9) fun y s10 ⟨v10,H10,I10,r10,ys,hy,hz,n10⟩=>?_
    refine d7 (iC _ s10 YT H10 (.ref s2.heap.objs.size) [v10] (.ref s2.heap.objs.size) [y] (fun _ H'=>N YT H') I10 rfl (.cons r10 .nil) ⟨_,ys,v10,rfl,rfl,hy,hz,n10⟩) fun _ s11 ⟨_,H11,I11,_,q11⟩=>?_
    exact again I11 q11
 have es:∀tk,({s2 with heap:=fK,toks:=tk}:Shared)={s3 with heap:=fK,toks:=tk}:=fun tk=>by rw[<-e3]
 have Pj:∀tk,codeAny (model X.prog X.w) X.A (.compLoop (.ListComp elt [⟨tg,am,az,0⟩] scope pos) 0 (.ref a) (.ref s2.heap.objs.size) (compEnvC scope (D4 scope X.env) s3.heap.objs.size X.env))
   (compPost (model X.prog X.w) X.A X.xe use E (.ref s2.heap.objs.size) s3.heap.objs.size) {s2 with heap:=fK,toks:=tk}:=fun tk=>by
  rw[es tk];exact loop tk
 exact codeAny_compStart_list (Pj _) (T.self _ 0 _ _ _ st4 (Pj _))
theorem JB{wi:TI}(L:gz X ps ix scope)(hc:X.calm=true)(hi:PI X tg am wi)(kU:∀s H ex,PG (tH X scope ps s H ex) tg g/\PF (tH X scope ps s H ex) az tc/\PE (tH X scope ps s H ex) elt te)
  (hs:∀x,foldedSetIterable am X.env x=pure x:=by intro _;rfl):PE X (.ListComp elt [⟨tg,am,az,0⟩] scope pos) (Uo wi ix g tc te):=by
 intro U s Z H Q I h;have xg:∀y∈scope.names,y.2=.free->∃c,X.env.cells.lookup y.1=some c:=fun y hy z=>I.ok.has y.1 (.inl (L.cell y hy z));rw[eval_ListComp];refine wpAny_comprehension_free (use:=none) rfl hs (tB xg) L.kind L.loc (d7 (hi U s Z H _ I h) fun v s1 h1=>d7 h1 fun YM s2 h2=>?_);obtain⟨it,fp,tn,J,H2,e,I2,T,ME,f2,hw⟩:=h2;subst e;refine FA (QD:=fun D H'=>Q (.ref D) H') L hc kU I2 T ME f2 hw fun D C H' s' m I' fC hm q=>⟨m,hm,fun h' M4=>?_⟩;obtain⟨x0,x1,x2,x3,x4,x5⟩:=fC;exact⟨.ref D,H',I'.turned (t':=s'.toks) (fun b o hb e=>(M4.2 b hb).trans e) x0 x1 x3 x4 x5,rfl,q⟩
theorem xh{wi:TI}(L:gz X ps ix scope)(hc:X.calm=true)(hN:X.N.Nodup)(hi:X.N[i]?=some x)(hx:Loc X.env.scope x)(hit:PI X tg am wi)
  (kU:∀s H ex,PG (tH X scope ps s H ex) tg g/\PF (tH X scope ps s H ex) az tc/\PE (tH X scope ps s H ex) elt te)
  (Ha:swapsWith (.ListComp elt [⟨tg,am,az,0⟩] scope pos) (some (.Name x p)) b8.line X.env=pure true:=by rfl)
  (hs:∀x,foldedSetIterable am X.env x=pure x:=by intro _;rfl) (hf:yE X x:=by first|exact .inl rfl|exact .inr rfl|assumption):
  PS X (.Assign [.Name x p] (.ListComp elt [⟨tg,am,az,0⟩] scope pos) b8) (fun D Z H=>Uo wi ix g tc te Z H fun v H'=>D.nx (Z.set i (some v)) H'):=by
 intro U s Z H D I h;have xg:∀y∈scope.names,y.2=.free->∃c,X.env.cells.lookup y.1=some c:=fun y hy z=>I.ok.has y.1 (.inl (L.cell y hy z));rw[exec_Assign_Name_used _ _ _ _ Ha];refine aP (wpAny_standAt (aP ?_));show wpAny _ X.A (do let _<-comprehension (.ListComp elt [⟨tg,am,az,0⟩] scope pos) scope X.env _ (newList []) false (eval am X.env) (some (assign (.Name x p) X.env))) _ _ s;refine aP (dW (wpAny_comprehension_free (use:=some (assign (.Name x p) X.env)) (Q:=fun _ s'=>SP X U D .next s') rfl hs (tB xg) L.kind L.loc
  (d7 (hit U s Z H _ I h) fun v s1 h1=>d7 h1 fun YM s2 h2=>?_)) (fun _ s' hq=>a_ (a_ hq)) fun _ _ e=>e)
 obtain⟨it,fp,tn,J,H2,e,I2,T,ME,f2,hw⟩:=h2;subst e;refine FA (QD:=fun Dd H'=>D.nx (Z.set i (some (.ref Dd))) H') L hc kU I2 T ME f2 hw fun Dd C H' s' m I' fC hm q=>?_
 obtain⟨x0,x1,x2,x3,x4,x5⟩:=fC;show wpAny _ X.A (assign (.Name x p) X.env (.ref Dd)) _ _ _;refine wpAny_assign_Name (y2 I' hN hi hx (v:=.ref Dd) rfl (fun QU I'' y1=>?_) hf);obtain⟨a,M4,ha⟩:=y1;have hCa:C≠a:=by
  rcases ha with ha|ha
  ·rw[ha];exact x1
  ·exact fun z=>x4 _ _ ha z.symm
 refine⟨m,hm.sameBut M4 hCa,fun h' Z7=>?_⟩;exact⟨_,H',I''.turned (t':=QU.toks) (fun b o hb e=>(Z7.2 b hb).trans e) x0 x1 x3 x4 x5,q⟩
end
def YU(z:Str):It:=⟨fun i _=>i<z.cps.size,fun i H x H'=>H'=H/\∃c,z.cps[i]?=some c/\x=.str ⟨#[c]⟩,fun i _=>i=z.cps.size⟩
theorem BZ{t:Tok}{it:Addr}{n:String}(hn:["enumerate","zip","dict_itemiterator","dict_reverseitemiterator","odict_iterator","itertools.zip_longest","itertools.pairwise"].contains n=false)
  (W:∀A':Around,A'.handled=none->Walks P w A' it [it] [it] x.cps.size (SignAt x) (fun i h=>h.IsStrIter it n x t i))
  (self:∀(A:Around) (i:Nat) (s:Shared) (Q:Value->Shared->Prop) (E:Value->Shared->Prop),s.heap.IsStrIter it n x t i->Q (.ref it) s->wpAny (model P w) A (pyIter (.ref it)) Q E s):
  Turn P w K tg (YU x) [it] it (fun i h=>h.IsStrIter it n x t i) where
 mem:=by simp
 obj:=fun i h st b hb=>by
  have e:b=it:=by simpa using hb
  subst e;obtain⟨o,e,c,d⟩:=st;exact⟨o,e,fun v q=>by rw[d]at q;cases q⟩
 keep:=fun i h h' st k=>by
  obtain⟨o,e,c,d⟩:=st;exact⟨o,k it (by simp) o e,c,d⟩
 item:=by
  intro X hP hw hK hc i U s Z H E I hf st hg;subst hP hw hK;obtain⟨f0,f1,f2,f3,f4,f5⟩:=hf it (by simp);refine(W X.A (I.ok.hd hc)).item i s _ _ hg st fun v h' tk hv wU kk=>?_
  obtain⟨c,u,hcu,rfl⟩:=hv;have I1:Inv X U Z H {s with heap:=h',toks:=tk}:=I.turned (fun b o hb e=>kk b o (by simpa using hb) e) f0 f1 f3 f4 f5;obtain⟨o,e,cl,d⟩:=id wU;exact⟨_,rfl,y3 (s:={s with heap:=h',toks:=tk}) e cl d hn ⟨.str ⟨#[c]⟩,H,I1,⟨u,rfl⟩,⟨rfl,c,hcu,rfl⟩,wU,fun b hb=>(hf b hb).1⟩⟩
 done:=by
  intro X hP hw hK hc i U s Z H E I hf st hg;subst hP hw hK;obtain⟨f0,f1,f2,f3,f4,f5⟩:=hf it (by simp);have e:i=x.cps.size:=hg;subst e;exact(W X.A (I.ok.hd hc)).done s _ _ st fun h' tk kk=>⟨rfl,I.turned (fun b o hb e=>kk b o (by simpa using hb) e) f0 f1 f3 f4 f5⟩
 self:=self
theorem ll.upd {xs:List V}{o:HO}(hD:H au=none)(h:ll K H a xs):ll K (upd H au o) a xs:=by
 rcases h with(h|⟨ob,h⟩)|h
 ·exact .inl (.inl (by rw[bb (bM h hD)];exact h))
 ·exact .inl (.inr ⟨ob,by rw[bb (bM h hD)];exact h⟩)
 ·exact .inr h
theorem i7.upd {xs:List V}{o:HO}(hD:H au=none)(h:i7 K H a xs):i7 K (upd H au o) a xs:=by
 rcases h with(h|⟨ob,h⟩)|h
 ·exact .inl (.inl (by rw[bb (bM h hD)];exact h))
 ·exact .inl (.inr ⟨ob,by rw[bb (bM h hD)];exact h⟩)
 ·exact .inr h
theorem Hb:uy X (compareOp .LtE) (fun x y H Q=>∃i j,x=.str i/\y=.str j/\Q (.bl (!(decide (j.cps.toList<i.cps.toList)))) H):=by
 intro U s Z H x y v u Q I rx ry h;obtain⟨i,j,rfl,rfl,q⟩:=h;obtain⟨t,rfl⟩:=rx;obtain⟨t',rfl⟩:=ry;exact PySem.P.le_str (uz I q rfl)
theorem Rm:uy X (compareOp .Is) (fun x y H Q=>∃c d,x=.bl c/\y=.bl d/\Q (.bl (c==d)) H):=by
 intro U s Z H x y v u Q I rx ry h;obtain⟨c,d,rfl,rfl,q⟩:=h;cases rx;cases ry;exact is_bool (uz I q rfl)
theorem M7:uy X (binaryOp .Mult) (fun x y H Q=>∃z n,x=.str z/\y=.int n/\MulOk z n/\Q (.str (Txt.mul z n)) H):=by
 intro U s Z H x y v u Q I rx ry h;obtain⟨z,n,rfl,rfl,cP,q⟩:=h;obtain⟨t,rfl⟩:=rx;obtain⟨t',rfl⟩:=ry;exact SB.mul cP fun t' k=>⟨.str _,H,I.tok _,⟨_,rfl⟩,q⟩
theorem JC(hc:X.calm=true):gn X (.builtin "all") (fun xs H Q=>∃(p:Addr) (bs:List Bool),xs=[.ref p]/\ll X.K H p (bs.map V.bl)/\Q (.bl (bs.all id)) H):=by
 intro U s Z H xs us Q I r h;obtain⟨p,bs,rfl,hl,q⟩:=h;obtain⟨u,rfl,ru⟩:=vals1 r;cases(show u=Value.ref p from ru);obtain⟨cc,rv,pl,hz⟩:=I.list hl;have hb:cc=bs.map Value.bool:=by
  clear hz pl hl q I
  induction bs generalizing cc with
  |nil=>cases rv;rfl
  |cons b r ih=>
   cases rv with
   |cons r1 r2=>
    rw[bH,<-ih _ (by exact r2)];cases(show _=Value.bool b from r1)
    rfl
 subst hb;have f_:p<s.heap.objs.size:=by obtain⟨o,n,e,_⟩:=pl;exact bp e
 refine call_all_walk (kn pl.isList ?_);refine⟨s.heap.objs.size,[s.heap.objs.size,p],[s.heap.objs.size],(bs.map Value.bool).toArray.size,_,_,fun i=>(bs[i]?).getD true,rfl,Walks.list (A:=X.A.in1) (I.ok.hd hc) _ p (bS f_) _,
  ⟨⟨_,cf _ rfl,rfl,rfl⟩,pl.isList.push _⟩,fun i v s' Q' E' hP hQ=>?_,fun h' tk hk=>?_⟩
 ·have Vv:(bs.map Value.bool)[i]?=some v:=by simpa using hP
  rw[bW]at Vv;cases eb:bs[i]? with
  |none=>rw[eb]at Vv;cases Vv
  |some b=>
   rw[eb]at Vv;cases Vv;simp only[eb,oJ]at hQ;exact oM hQ
 ·have e:((List.range (bs.map Value.bool).toArray.size).all fun i=>(bs[i]?).getD true)=bs.all id:=by
   rw[cO,bj];exact LSm.range_all bs
  rw[e];exact⟨.bl _,H,I.kept (LSm.kept_iter hk),rfl,q⟩
theorem ba.tup {H':Hp}{xs:List V}(e:ba H H')(h:i7 K H a xs):i7 K H' a xs:=by
 rcases h with(h|⟨o,h⟩)|h
 ·exact .inl (.inl (e _ _ h))
 ·exact .inl (.inr ⟨o,e _ _ h⟩)
 ·exact .inr h
theorem ba.upd {o:HO}(hD:H a=none):ba H (upd H a o):=fun b u e=>by rw[bb (bM e hD)];exact e
theorem ba.Al {H':Hp}{D:Addr}{o:HO}(s:ba H H')(hD:H D=none):ba H (L2.upd H' D o):=fun b u e=>by rw[bb (bM e hD)];exact s b u e
structure zc(K:Frag)(mg:Str->Option Value)(x:Str)(st:Stmt)(ps:List Str)(f:Addr)(fd:FuncData):Prop where
 fn:yF K x x st f fd
 bd:Binds K fd ps []
 mg:mg x=some (.ref f)
theorem Rn{fd:FuncData}{sp:Sp}{t:TA}(D:zc X.K X.mg x ai ps a fd)(G:d5 X.prog X.w X.K X.mg X.base lX i a fd ps sp)(hr:cV i X.A)
  (ha:PA X (e::es) t) (hg:Gl X x:=by rfl) (fq:Db x:=by decide) (he:starEach (e::es) X.env=(false,eval e X.env)::starEach es X.env:=by rfl)
  (nZ:(backTo pos (starEach es X.env)).any (·.1)=false:=by rfl):PE X (.Call (.Name x p) (e::es) [] pos) (O9 sp [] E0 t):=by
 have q:=Fm (p:=p) (pos:=pos) G hr hg D.mg D.fn.kp D.bd .nil Jz ha (fq:=fq) (he:=he) (nZ:=nZ);exact q
def Z8:V->Option Int->Option Int->Hp->VK->Prop:=fun x lo hi H Q=>∃z,x=.str z/\z.length<=sizeLine/\Q (.str (Txt.slice z lo hi)) H
theorem Ro:Uk X Z8:=by
 intro U s Z H x v vl vu lo hi sl Q I rx hs pl pu h;obtain⟨z,rfl,hz,q⟩:=h;obtain⟨t,rfl⟩:=rx;refine⟨"str",_,F.slot_str_getitem.lookup,typeIs_str _ _ _,?_⟩;have go:∀(l u:Option (Int×Tok)),s.heap.IsSlice sl l u none->lo=l.map (·.1)->hi=u.map (·.1)->wpAny (model X.prog X.w) X.A (getItem (.str z t) (.ref sl)) (EP X U Z Q) X.xe s:=fun l u hh e1 e2=>by
  subst e1 e2;exact wpAny_getItem_str_slice hh rfl (post_val_or_str ⟨cw (Txt.slice_le z _ _) hz,fun t' k=>⟨.str _,H,I.tok _,⟨_,rfl⟩,q⟩⟩)
 cases pl with
 |none=>
  cases pu with
  |none=>exact go none none hs rfl rfl
  |int j tj=>exact go none (some (j,tj)) hs rfl rfl
 |int i ti=>
  cases pu with
  |none=>exact go (some (i,ti)) none hs rfl rfl
  |int j tj=>exact go (some (i,ti)) (some (j,tj)) hs rfl rfl
theorem B5:∀{cs:List String} {us:List Value},Vals (cs.map V.ty) us->us=cs.map Value.type
 |[],_,.nil=>rfl
 |c::cs,_,.cons r t=>by
  rw[B5 t];cases(show _=Value.type c from r)
  rfl
theorem uD(ht:aa.IsTuple a ak):∃dd n sl,aa.get? a=some ⟨.type "tuple",dd,.seq ak n,sl⟩:=by
 obtain⟨⟨cls,dd,data,sl⟩,h1,h2,n,h3⟩:=ht;dsimp only at h2 h3;subst h2 h3;exact⟨dd,n,sl,h1⟩
theorem Hc:gn X (.builtin "isinstance") (fun xs H Q=>∃(x:V) (p:Addr) (cs:List String) (t:Value) (b:Bool),xs=[x,.ref p]/\Pe x=true/\i7 X.K H p (cs.map V.ty)/\sW X.K H x t/\PySem.W.kitAny X.K t (cs.map Value.type)=some b/\Q (.bl b) H):=by
 intro U s Z H xs us Q I r h;obtain⟨x,p,cs,t,b,rfl,fx,hp,ty,e,q⟩:=h;obtain⟨u,v,rfl,ru,rv⟩:=vals2 r;cases(show v=Value.ref p from rv);obtain⟨cc,r1,p1,_⟩:=I.tuple hp;obtain⟨dd,n,sl,hg⟩:=uD p1;cases B5 r1;have fin:∀tk,EP X U Z Q (.bool b) {s with toks:=tk}:=fun tk=>⟨.bl b,H,I.tok _,rfl,q⟩;cases ty with
 |cu=>
  cases(show u=Value.none from ru);exact sE PySem.W.kitx_none I.lH .intro hg e (by simp) fin
 |bl y=>
  cases(show u=Value.bool y from ru);exact sE PySem.W.kitx_bool I.lH .intro hg e (by simp) fin
 |int i=>
  obtain⟨t,rfl⟩:=(show∃t,u=Value.int i t from ru);exact sE PySem.W.kitx_int I.lH .intro hg e (by simp) fin
 |str y=>
  obtain⟨t,rfl⟩:=(show∃t,u=Value.str y t from ru);exact sE PySem.W.kitx_str I.lH .intro hg e (by simp) fin
 |_=>exact absurd (show false=true from fx) fD
def B6(K:Frag)(w:World)(a:Addr)(kvs:List (Str×Value)):Prop:=
 (a==sysModules)=false/\∃o es ep,K.lookup a=some o/\o.ExactDict/\o.data=.dict es ep/\∀prog,KeysOf (PySem.strKind prog w) es/\Pairs (PySem.strKind prog w) es.toList kvs/\(kvs.map (·.1)).Nodup
theorem B6.of {kvs:List (Str×Value)}(D:B6 X.K X.w a kvs)(I:Inv X U Z H s):s.heap.DictOf (PySem.strKind X.prog X.w) a kvs:=by
 obtain⟨_,o,es,ep,h1,h2,h3,h4⟩:=D;obtain⟨k1,k2,k3⟩:=h4 X.prog;exact⟨o,es,ep,I.lH _ _ h1,h2,h3,k1,k2,k3⟩
theorem JD{to ti:TE}(ho:PE X o to)(hi:PE X e ti)(hs:MX e):
  PE X (.Subscript o e pos) (Qu (fun x y H Q=>∃(a:Addr) (z:Str) (kvs:List (Str×Value)) (u:Value) (v:V),x=.ref a/\y=.str z/\B6 X.K X.w a kvs/\valueAt kvs z=some u/\RelV v u/\Q v H) to ti):=by
 intro U s Z H Q I h;refine MY PySem.F.slot_dict_getitem.lookup hs (d7 (ho U s Z H _ I h) fun u s1 ⟨x,H1,I1,rx,q1⟩=>d7 (hi U s1 Z H1 _ I1 q1) fun iv s2 ⟨y,H2,I2,ry,q2⟩=>?_);obtain⟨a,z,kvs,u',v,rfl,rfl,D,hv,rv,q⟩:=q2;cases(show u=Value.ref a from rx);obtain⟨t,rfl⟩:=ry;have dd:=D.of I2;refine⟨?_,wpAny_getItem_of (knd:=PySem.strKind X.prog X.w) (k:=z) (by simp[PySem.strKind,Value.isStrOf]) dd.mapOf hv ⟨v,H2,I2.tok _,rv,q⟩⟩;obtain⟨ob,es,ep,h1,h2,_⟩:=dd;exact⟨ob,h1,h2.1⟩
inductive Tr where
 |cu|bl (b:Bool)|int (i:Int)|str (z:Str)|ty (n:String)
 |uZ (ns:List Int)|tup (ts:List Tr)|lst (ts:List Tr)|bT (bt:List (Key×Tr))|at(i:Nat)
 |u0 (bt:List (List Key×Tr))|ob (x:Str) (fs:List (Str×Tr))|zd (x:Str)
variable {aA:Tr->Prop}{aB:Tr}{aF:List (Key×Tr)}
variable {ts:List Tr}
def cS:Nat:=1000000
def clsAt(K:Frag)(x:Str):Addr:=match PySem.W.nsIn K mainGlobals x with
 |some (some (.ref C))=>C
 |_=>0
structure Vw where
 H:Hp
 ix:Addr->Option Nat
instance:Coe Vw Hp:=⟨Vw.H⟩
instance:CoeFun Vw (fun _=>Addr->Option HO):=⟨Vw.H⟩
structure eL(W W':Vw):Prop where
 h:ba W.H W'.H
 x:∀a i,W.ix a=some i->W'.ix a=some i
theorem eL.refl (W:Vw):eL W W:=⟨ba.refl _,fun _ _ e=>e⟩
theorem eL.trans {W W1 W2:Vw}(a:eL W W1)(b:eL W1 W2):eL W W2:=⟨a.h.trans b.h,fun c i e=>b.x c i (a.x c i e)⟩
mutual
inductive Rep(K:Frag)(H:Vw):V->Tr->Prop where
 |cu:Rep K H .cu .cu
 |bl (b:Bool):Rep K H (.bl b) (.bl b)
 |int (i:Int):Rep K H (.int i) (.int i)
 |str (z:Str) (h:z.length<=cS):Rep K H (.str z) (.str z)
 |ty (n:String):Rep K H (.ty n) (.ty n)
 |uZ {a:Addr} {ns:List Int} (h:ll K H.H a (ns.map V.int)):Rep K H (.ref a) (.uZ ns)
 |tup {a:Addr} {vs:List V} {ts:List Tr} (h:i7 K H.H a vs) (r:bI K H vs ts):Rep K H (.ref a) (.tup ts)
 |lst {a:Addr} {vs:List V} {ts:List Tr} (h:H.H a=some (.lst vs)) (r:bI K H vs ts):Rep K H (.ref a) (.lst ts)
 |bT {a:Addr} {kvs:List (Key×V)} {bt:List (Key×Tr)} (h:Rd H.H a (.dK kvs)) (e:kvs.map (·.1)=bt.map (·.1)) (r:bI K H (kvs.map (·.2)) (bt.map (·.2))):Rep K H (.ref a) (.bT bt)
 |at{a:Addr} {i:Nat} (h:H.ix a=some i):Rep K H (.ref a) (.at i)
 |u0 {a:Addr} {kvs:List (List Key×V)} {bt:List (List Key×Tr)} (h:H.H a=some (.dT kvs)) (e:kvs.map (·.1)=bt.map (·.1)) (r:bI K H (kvs.map (·.2)) (bt.map (·.2))):Rep K H (.ref a) (.u0 bt)
 |ob {a dx:Addr} {x:Str} {gZ:List (Str×V)} {fs:List (Str×Tr)} (h:H.H a=some (.ins (clsAt K x) dx gZ)) (e:gZ.map (·.1)=fs.map (·.1)) (r:bI K H (gZ.map (·.2)) (fs.map (·.2))):Rep K H (.ref a) (.ob x fs)
 |zd {a:Addr} {oe:Obj} {x:Str} (h:H.H a=some (.ext fun h=>h.get? a=some oe)) (c:oe.cls=.ref (clsAt K x)):Rep K H (.ref a) (.zd x)
inductive bI(K:Frag)(H:Vw):List V->List Tr->Prop where
 |nil:bI K H [] []
 |cons {v:V} {t:Tr} {vs:List V} {ts:List Tr} (h:Rep K H v t) (r:bI K H vs ts):bI K H (v::vs) (t::ts)
end
section
theorem Rd.same {H H':Hp}{u:HO}(s:ba H H')(h:Rd H a u):Rd H' a u:=by
 rcases h with h|⟨o,h⟩
 ·exact .inl (s _ _ h)
 ·exact .inr ⟨o,s _ _ h⟩
variable {H H':Vw}
theorem Rep.same (s:eL H H'){v:V}{t:Tr}(h:Rep K H v t):Rep K H' v t:=by
 refine Rep.rec (motive_1:=fun v t _=>Rep K H' v t) (motive_2:=fun vs ts _=>bI K H' vs ts) ?_ ?_ ?_ ?_ ?_ ?_ ?_ ?_ ?_ ?_ ?_ ?_ ?_ ?_ ?_ h
 ·exact .cu
 ·exact fun b=>.bl b
 ·exact fun i=>.int i
 ·exact fun z h=>.str z h
 ·exact fun n=>.ty n
 ·exact fun h=>.uZ (s.h.seq h)
 ·exact fun h _ r=>.tup (s.h.tup h) r
 ·exact fun h _ r=>.lst (s.h _ _ h) r
 ·exact fun h e _ r=>.bT (Rd.same s.h h) e r
 ·exact fun h=>.at (s.x _ _ h)
 ·exact fun h e _ r=>.u0 (s.h _ _ h) e r
 ·exact fun h e _ r=>.ob (s.h _ _ h) e r
 ·exact fun h c=>.zd (s.h _ _ h) c
 ·exact .nil
 ·exact fun _ _ h r=>.cons h r
theorem bI.same (s:eL H H'):∀{vs:List V} {ts:List Tr},bI K H vs ts->bI K H' vs ts
 |[],_,h=>by cases h;exact .nil
 |_::_,_,h=>by cases h with|cons h r=>exact .cons (h.same s) (bI.same s r)
theorem bI.length:∀{vs:List V} {ts:List Tr},bI K H vs ts->vs.length=ts.length
 |[],_,h=>by cases h;rfl
 |_::_,_,h=>by cases h with|cons h r=>rw[dg,dg,bI.length r]
theorem bI.get:∀{vs:List V} {ts:List Tr} {i:Nat} {t:Tr},bI K H vs ts->ts[i]?=some t->∃v,vs[i]?=some v/\Rep K H v t
 |[],_,i,t,h,e=>by cases h;simp at e
 |_::_,_,0,t,h,e=>by cases h with|cons h r=>simp at e;subst e;exact⟨_,rfl,h⟩
 |_::_,_,i+1,t,h,e=>by
  cases h with
  |cons h r=>
   obtain⟨v,e1,r1⟩:=bI.get (i:=i) (t:=t) r (by simpa using e);exact⟨v,by simpa using e1,r1⟩
theorem bI.xi:∀{vs:List V} {ts:List Tr} {i:Nat} {v:V},bI K H vs ts->vs[i]?=some v->∃t,ts[i]?=some t/\Rep K H v t
 |[],_,i,t,h,e=>by simp at e
 |_::_,_,0,t,h,e=>by cases h with|cons h r=>simp at e;subst e;exact⟨_,rfl,h⟩
 |_::_,_,i+1,t,h,e=>by
  cases h with
  |cons h r=>
   obtain⟨v,e1,r1⟩:=bI.xi (i:=i) r (by simpa using e);exact⟨v,by simpa using e1,r1⟩
theorem bI.append:∀{vs ws:List V} {ts us:List Tr},bI K H vs ts->bI K H ws us->bI K H (vs++ws) (ts++us)
 |[],_,_,_,h,q=>by cases h;exact q
 |_::_,_,_,_,h,q=>by cases h with|cons h r=>exact .cons h (bI.append r q)
theorem bI.take:∀{vs:List V} {ts:List Tr} (n:Nat),bI K H vs ts->bI K H (vs.take n) (ts.take n)
 |_,_,0,_=>by rw[List.take_zero,List.take_zero];exact .nil
 |[],_,_+1,h=>by cases h;exact .nil
 |_::_,_,n+1,h=>by cases h with|cons h r=>exact .cons h (bI.take n r)
theorem bI.drop:∀{vs:List V} {ts:List Tr} (n:Nat),bI K H vs ts->bI K H (vs.drop n) (ts.drop n)
 |_,_,0,h=>h
 |[],_,_+1,h=>by cases h;exact .nil
 |_::_,_,n+1,h=>by cases h with|cons h r=>exact bI.drop n r
theorem bI.rep {vs:List V}(h:bI K H vs ts):∀n:Nat,bI K H (List.replicate n vs).flatten (List.replicate n ts).flatten
 |0=>.nil
 |n+1=>by
  rw[m4,m4,l6,l6];exact h.append (bI.rep h n)
theorem ze:∀{zs:List Str},(∀z∈zs,z.length<=cS)->bI K H (zs.map V.str) (zs.map Tr.str)
 |[],_=>.nil
 |z::zs,h=>.cons (.str z (h z (cp ..))) (ze fun y hy=>h y (b_ _ hy))
end
structure eW where
 hd:Addr->Bool
 ix:Addr->Option Nat
variable {B:eW}
instance:CoeFun eW (fun _=>Addr->Bool):=⟨eW.hd⟩
def bV(B:eW)(H:Hp):Vw:=⟨fun b=>if B.hd b=true then none else H b,B.ix⟩
def HB(B:eW)(H:Hp):Prop:=∀b,B.hd b=true->∃o,H b=some o
section
variable {B':eW}{H':Hp}
theorem fL{b:Addr}(h:B.hd b=false):(bV B H).H b=H b:=by show(if B.hd b=true then none else H b)=_;rw[h,aW fD]
theorem bD:ba (bV B H).H H:=fun b o (e:(if B.hd b=true then none else H b)=some o)=>by
 split at e
 ·cases e
 ·exact e
theorem bE(s:ba H H'):eL (bV B H) (bV B H'):=⟨fun b o (e:(if B.hd b=true then none else H b)=some o)=>by
 show(if B.hd b=true then none else H' b)=some o;split at e
 ·cases e
 ·rw[aW (by assumption)];exact s b o e,fun _ _ e=>e⟩
def raw(B:eW)(H:Hp):Vw:=⟨H,B.ix⟩
theorem fj:eL (bV B H) (raw B H):=⟨bD,fun _ _ e=>e⟩
theorem HB.same (h:HB B H)(s:ba H H'):HB B H':=fun b e=>by obtain⟨o,q⟩:=h b e;exact⟨o,s b o q⟩
theorem HB.free {p:Addr}(h:HB B H)(hp:H p=none):B.hd p=false:=by
 cases e:B.hd p with
 |false=>rfl
 |true=>obtain⟨o,q⟩:=h p e;rw[hp]at q;cases q
theorem HB.new {p:Addr}{o:HO}(h:HB B H)(hp:H p=none):(bV B (upd H p o)).H p=some o:=by rw[fL (h.free hp)];exact bG
structure u3(B B':eW):Prop where
 hd:∀b,B.hd b=true->B'.hd b=true
 ix:∀b i,B'.ix b=some i->B.ix b=some i
theorem xj(h:u3 B B'):eL (bV B' H) (bV B H):=⟨fun b o (e:(if B'.hd b=true then none else H b)=some o)=>by
 show(if B.hd b=true then none else H b)=some o;split at e
 ·cases e
 ·rename_i n;rw[aW fun z=>n (h.hd b z)];exact e,h.ix⟩
end
inductive Rs(α:Type) where
 |bad|ok (a:α)|exc (c:Tr)
variable {aC:Tr->Tr->Rs Tr}
variable {h:List Tr->Rs Tr}
def Rs.bind {α β:Type}(r:Rs α)(f:α->Rs β):Rs β:=match r with
 |.ok a=>f a
 |.exc c=>.exc c
 |.bad=>.bad
def XA(X:Cx)(c:Tr)(H:Hp):Prop:=False
def qd(xc:Tr->Prop){α:Type}(r:Rs α)(k:α->Prop):Prop:=match r with
 |.ok a=>k a
 |.exc c=>xc c
 |.bad=>False
def xP(X:Cx)(H:Hp):Tr->Prop:=fun c=>∀H',ba H H'->XA X c H'
def Fi(X:Cx)(H:Hp){α:Type}(r:Rs α)(k:α->Prop):Prop:=qd (xP X H) r k
section
variable {β:Type}{r:Rs ag}{k k':ag->Prop}{Up:Tr->Prop}
theorem qd.mono (h:qd aA r k)(w:∀a,k a->k' a):qd aA r k':=by
 cases r with
 |ok a=>exact w a h
 |_=>exact h
theorem qd.imp (h:qd aA r k)(w:∀c,aA c->Up c):qd Up r k:=by
 cases r with
 |ok a=>exact h
 |exc c=>exact w c h
 |bad=>exact h
theorem qd.bind {f:ag->Rs β}{k:β->Prop}(h:qd aA (r.bind f) k):qd aA r fun a=>qd aA (f a) k:=by
 cases r with
 |_=>exact h
theorem Fi.mono (h:Fi X H r k)(w:∀a,k a->k' a):Fi X H r k':=qd.mono h w
theorem Fi.same (h:Fi X H r k)(s:ba H ac):Fi X ac r k:=qd.imp h fun _ q H2 s2=>q H2 (s.trans s2)
theorem Fi.bind {f:ag->Rs β}{k:β->Prop}(h:Fi X H (r.bind f) k):Fi X H r fun a=>Fi X H (f a) k:=qd.bind h
end
set_option genInjectivity true in
inductive Cell where
 |no|sh (t:Tr)|ow (ts:List Tr)
abbrev bO:=List Cell
variable {aE:bO->Rs Bool}
variable {F G:bO->Rs Tr}{L:bO->Rs (List Tr)}
structure cB(K:Frag)(B:eW)(H:Hp)(Z:St)(Y:bO):Prop where
 len:Y.length=Z.length
 sh:∀(i:Nat) (t:Tr),Y[i]?=some (.sh t)->∃v,Z[i]?=some (some v)/\Rep K (bV B H) v t
 ow:∀(i:Nat) (ts:List Tr),Y[i]?=some (.ow ts)->∃D ys,Z[i]?=some (some (.ref D))/\B D=true/\H D=some (.lst ys)/\bI K (bV B H) ys ts
 ap:∀(i j:Nat) (ts us:List Tr) (D:Addr),i≠j->Y[i]?=some (.ow ts)->Y[j]?=some (.ow us)->Z[i]?=some (some (.ref D))->Z[j]? ≠some (some (.ref D))
section
variable {B':eW}{Y:bO}
theorem cB.same (h:cB K B H Z Y)(s:ba H ac):cB K B ac Z Y:=
 ⟨h.len,fun i t e=>by obtain⟨v,e1,r⟩:=h.sh i t e;exact⟨v,e1,r.same (bE s)⟩,
   fun i ts e=>by obtain⟨D,ys,e1,e2,e3,r⟩:=h.ow i ts e;exact⟨D,ys,e1,e2,s _ _ e3,r.same (bE s)⟩,h.ap⟩
theorem fw{l:List ag}{j:Nat}{x y:ag}(e:(l.set i x)[j]?=some y):(i=j/\i<l.length/\y=x)\/(i≠j/\l[j]?=some y):=by
 rw[l7]at e;by_cases Am:i=j
 ·rw[aS Am]at e;by_cases hl:i<l.length
  ·rw[aS hl]at e;exact .inl ⟨Am,hl,(Option.some.inj e).symm⟩
  ·rw[aW hl]at e;cases e
 ·rw[aW Am]at e;exact .inr ⟨Am,e⟩
theorem cB.set {v:V}{t:Tr}(h:cB K B H Z Y)(i:Nat)(r:Rep K (bV B H) v t):cB K B H (Z.set i (some v)) (Y.set i (.sh t)):=by
 refine⟨by rw[ky,ky];exact h.len,fun j u e=>?_,fun j us e=>?_,fun j k us ws D hjk e1 e2 e3=>?_⟩
 ·rcases fw e with⟨rfl,hl,q⟩|⟨Am,q⟩
  ·cases q;exact⟨v,by rw[l7,aS rfl,aS (by rw[<-h.len];exact hl)],r⟩
  ·obtain⟨w,e1,r1⟩:=h.sh j u q;exact⟨w,by rw[l7,aW Am];exact e1,r1⟩
 ·rcases fw e with⟨rfl,hl,q⟩|⟨Am,q⟩
  ·cases q
  ·obtain⟨D,ys,e1,r1⟩:=h.ow j us q;exact⟨D,ys,by rw[l7,aW Am];exact e1,r1⟩
 ·rcases fw e1 with⟨rfl,hl,q⟩|⟨Am,q⟩
  ·cases q
  ·rcases fw e2 with⟨rfl,hl,q2⟩|⟨Vx,q2⟩
   ·cases q2
   ·rw[l7,aW Am]at e3;rw[l7,aW Vx];exact h.ap j k us ws D hjk q q2 e3
end
def startT(n:Nat)(ts:List Tr):bO:=ts.map Cell.sh++List.replicate (n - ts.length) .no
theorem qe{n:Nat}{c:Cell}(e:(startT n ts)[i]?=some c):c=.no\/∃t,ts[i]?=some t/\c=.sh t:=by
 unfold startT at e;by_cases hi:i<ts.length
 ·rw[og (by rw[bj];exact hi),bW]at e;cases q:ts[i]? with
  |none=>rw[q]at e;cases e
  |some u=>rw[q]at e;exact .inr ⟨u,rfl,(Option.some.inj e).symm⟩
 ·rw[v_ (by rw[bj];omega),rZ]at e;split at e
  ·exact .inl (Option.some.inj e).symm
  ·cases e
theorem cB.start (h:bI K (bV B H) ar ts):cB K B H (start ps ar) (startT ps.length ts):=by
 have hl:=h.length;refine⟨by unfold L2.start startT;simp only[eP,bj,wj];omega,fun i t e=>?_,fun i us e=>?_,fun i j us ws D _ e _ _=>?_⟩
 ·rcases qe e with q|⟨u,q,q2⟩
  ·cases q
  ·cases q2;obtain⟨v,e1,r⟩:=h.get q;have hi:i<ar.length:=(fT.mp e1).1;refine⟨v,?_,r⟩;unfold L2.start;rw[og (by rw[bj];exact hi),bW,e1]
   rfl
 ·rcases qe e with q|⟨u,q,q2⟩
  ·cases q
  ·cases q2
 ·rcases qe e with q|⟨u,q,q2⟩
  ·cases q
  ·cases q2
def isStar:Expr->Bool
 |.Starred .. =>true
 |_=>false
theorem bF(es:List Expr)(env:Env)(h:isStar e=false):starEach (e::es) env=(false,eval e env)::starEach es env:=by
 cases e<;>first|rfl|cases h
def bq(es:List Expr):Bool:=es.all fun e=>!isStar e
theorem cL{env:Env}:∀{es:List Expr},bq es=true->(backTo pos (starEach es env)).any (·.1)=false
 |[],_=>by rw[starEach];rfl
 |e::es,h=>by
  unfold bq at h;rw[hV,bP]at h;have h1:isStar e=false:=by simpa using h.1
  rw[bF es env h1];exact cL (es:=es) h.2
theorem jj{env:Env}:∀{es:List Expr},bq es=true->(backTo pos (starEach es env)).all (fun x=>!x.1)=true
 |[],_=>by rw[starEach];rfl
 |e::es,h=>by
  unfold bq at h;rw[hV,bP]at h;have h1:isStar e=false:=by simpa using h.1
  rw[bF es env h1];exact jj (es:=es) h.2
theorem bc{es:List Expr}(h:bq (e::es)=true):isStar e=false/\bq es=true:=by
 unfold bq at h;rw[hV,bP]at h;exact⟨by simpa using h.1,h.2⟩
def rJ:Expr->Bool
 |.ListComp .. =>true
 |.SetComp .. =>true
 |.DictComp .. =>true
 |_=>false
theorem xk{t:Option Expr}{env:Env}(h:rJ e=false):swapsWith e t i env=pure false:=by
 cases e<;>first|rfl|cases h
def my:Expr->Bool
 |.UnaryOp .. =>false
 |.BoolOp .. =>false
 |.IfExp .. =>false
 |.Compare .. =>false
 |_=>true
theorem xl{env:Env}(h:my e=true):∀whole,isTrue e env whole=(do let v<-whole;standAt e.pos;holding [v] (truthy v)):=by
 intro whole;cases e<;>first|rfl|cases h
def isSet:Expr->Bool
 |.Set .. =>true
 |_=>false
theorem f'{env:Env}(h:isSet e=false):∀x,foldedSetIterable e env x=pure x:=by
 intro x;cases e<;>first|rfl|cases h
def isCall:Expr->Bool
 |.Call .. =>true
 |_=>false
theorem gb{env:Env}{w:Sem Value}(h:isCall o=false):attributeBase o x env w=w:=by
 cases o<;>first|rfl|cases h
inductive tP(X:Cx)(F:bO->Rs Tr)(Z:St)(H:Hp)(Q:VK):Prop
 |mk (B:eW) (Y:bO):HB B H->cB X.K B H Z Y->(Fi X H (F Y) fun t=>∀v H',ba H H'->Rep X.K (bV B H') v t->Q v H')->tP X F Z H Q
inductive tQ(X:Cx)(F:bO->Rs Bool)(Z:St)(H:Hp)(Q:Bool->Hp->Prop):Prop
 |mk (B:eW) (Y:bO):HB B H->cB X.K B H Z Y->(Fi X H (F Y) fun b=>∀H',ba H H'->Q b H')->tQ X F Z H Q
inductive B7(X:Cx)(F:bO->Rs (List Tr))(Z:St)(H:Hp)(Q:List V->Hp->Prop):Prop
 |mk (B:eW) (Y:bO):HB B H->cB X.K B H Z Y->(Fi X H (F Y) fun ts=>∀vs H',ba H H'->bI X.K (bV B H') vs ts->Q vs H')->B7 X F Z H Q
inductive Out where
 |nx (Y:bO)|ret (t:Tr)|bk (Y:bO)|ct (Y:bO)
structure dZ(C B0:eW)(H0:Hp)(B:eW)(H:Hp):Prop where
 kp:∀b o,C b=true->H0 b=some o->H b=some o
 jw:eL (bV B0 H0) (bV B H)
 sub:u3 C B
 hb:HB B H
section
variable {C B0 B1 B2:eW}{H' H1 H2:Hp}
theorem dZ.go (h:dZ C B0 ac B H)(s:ba H H'):dZ C B0 ac B H':=⟨fun b o c e=>s _ _ (h.kp b o c e),h.jw.trans (bE s),h.sub,h.hb.same s⟩
theorem u3.refl:u3 B B:=⟨fun _ e=>e,fun _ _ e=>e⟩
theorem dZ.refl (h:HB B H)(c:u3 C B):dZ C B H B H:=⟨fun _ _ _ e=>e,eL.refl _,c,h⟩
theorem dZ.trans (h:dZ C B0 ac B1 H1)(q:dZ C B1 H1 B2 H2):dZ C B0 ac B2 H2:=⟨fun b o c e=>q.kp b o c (h.kp b o c e),h.jw.trans q.jw,q.sub,q.hb⟩
theorem dZ.same (h:dZ C C ac B H):ba ac H:=fun b o e=>by
 cases q:C b with
 |true=>exact h.kp b o q e
 |false=>exact bD _ _ (h.jw.h b o (by rw[fL q];exact e))
end
def D8(X:Cx)(D:Ends)(C B0:eW)(H0:Hp):Out->Prop
 |.nx Y=>∀di B' H',dZ C B0 H0 B' H'->cB X.K B' H' di Y->D.nx di H'
 |.ret t=>∀v B' H',dZ C B0 H0 B' H'->Rep X.K (bV C H') v t->D.rt v H'
 |.bk Y=>∀di B' H',dZ C B0 H0 B' H'->cB X.K B' H' di Y->D.bk di H'
 |.ct Y=>∀di B' H',dZ C B0 H0 B' H'->cB X.K B' H' di Y->D.ct di H'
def xS(X:Cx)(C B0:eW)(H0:Hp):Tr->Prop:=fun c=>∀B' H',dZ C B0 H0 B' H'->XA X c H'
inductive tS(X:Cx)(G:bO->Rs Out)(D:Ends)(Z:St)(H:Hp):Prop
 |mk (C:eW) (B0:eW) (H0:Hp) (B:eW) (Y:bO):dZ C B0 H0 B H->cB X.K B H Z Y->qd (xS X C B0 H0) (G Y) (D8 X D C B0 H0)->tS X G D Z H
theorem PE.weak {t t':TE}(h:PE X e t)(w:∀Z H Q,t' Z H Q->t Z H Q):PE X e t':=fun U s Z H Q I q=>h U s Z H Q I (w Z H Q q)
theorem PT.weak {t t':TT}(h:PT X e t)(w:∀Z H Q,t' Z H Q->t Z H Q):PT X e t':=fun U s Z H Q I q=>h U s Z H Q I (w Z H Q q)
theorem PW.weak {t t':TT}(h:PW X e t)(w:∀Z H Q,t' Z H Q->t Z H Q):PW X e t':=fun wh U s Z H Q I q=>h wh U s Z H Q I (w Z H Q q)
theorem PA.weak {t t':TA}(h:PA X es t)(w:∀Z H Q,t' Z H Q->t Z H Q):PA X es t':=fun pos U s Z H Q I q=>h pos U s Z H Q I (w Z H Q q)
theorem PS.weak {st:Stmt}{t t':TS}(h:PS X st t)(w:∀D Z H,t' D Z H->t D Z H):PS X st t':=fun U s Z H D I q=>h U s Z H D I (w D Z H q)
theorem n_.weak {st:List Stmt}{t t':TS}(h:n_ X st t)(w:∀D Z H,t' D Z H->t D Z H):n_ X st t':=fun U s Z H D I q=>h U s Z H D I (w D Z H q)
def xm(Y:bO)(i:Nat):Rs Tr:=match Y[i]? with
 |some (.sh t)=>.ok t
 |_=>.bad
theorem JE{Y:bO}(r:cB X.K B H Z Y)(h:Fi X H (xm Y i) aA):∃v t,Z[i]?=some (some v)/\Rep X.K (bV B H) v t/\aA t:=by
 unfold xm at h;split at h
 ·rename_i t e;obtain⟨v,e1,r1⟩:=r.sh i t e;exact⟨v,t,e1,r1,h⟩
 ·exact h.elim
section
variable {b:Expr}{E:bO->Rs Tr}
theorem Vy(i:Nat)(hN:X.N[i]?=some x:=by rfl) (hv:YI X.env.scope x:=by first|exact Or.inl rfl|exact Or.inr (Or.inl rfl)|exact Or.inr (Or.inr rfl)) (hd:Db x:=by decide)
  (DL:(x==("__classdict__":Str))=false:=by decide):PE X (.Name x pos) (tP X fun Y=>xm Y i):=
 (Qn hN hv hd DL).weak fun Z H Q ⟨B,Y,hb,r,q⟩=>by
  obtain⟨v,t,e,r1,k⟩:=JE r q;exact⟨v,e,k v H (ba.refl H) r1⟩
theorem B8{v:V}(h:PE X e (tC v))(r:∀H,Rep X.K H v aB):PE X e (tP X fun _=>.ok aB):=
 h.weak fun Z H Q ⟨B,Y,_,_,q⟩=>q v H (ba.refl H) (r _)
theorem Vz{i:Int}{j pos}:PE X (.Constant (.int i) j pos) (tP X fun _=>.ok (.int i)):=B8 Qo fun H=>.int i
theorem Z9{b:Bool}{j pos}:PE X (.Constant (.bool b) j pos) (tP X fun _=>.ok (.bl b)):=B8 UX fun H=>.bl b
theorem VA{j pos}:PE X (.Constant .none j pos) (tP X fun _=>.ok .cu):=B8 Qp fun H=>.cu
theorem VB{j pos}(hz:x.length<=cS:=by decide):PE X (.Constant (.str x) j pos) (tP X fun _=>.ok (.str x)):=B8 Qq fun H=>.str x hz
def VC(K:Frag)(mg:Str->Option Value)(x:Str)(t:Tr):Prop:=∃v u,mg x=some u/\RelV v u/\∀H,Rep K H v t
theorem Z_(hm:X.mg x=none)(hv:bootBuiltins x=some (.type ay):=by rfl) (hg:Gl X x:=by rfl) (hn:x≠"__name__":=by decide) (hd:Db x:=by decide):PE X (.Name x pos) (tP X fun _=>.ok (.ty ay)):=
 B8 (Fe (v:=.ty ay) hg hm hv rfl hn hd) fun H=>.ty ay
def Hd(h:Tr->Tr->Rs Tr)(o b:Rs Tr):Rs Tr:=o.bind fun x=>b.bind fun y=>h x y
inductive rT(X:Cx)(h:Tr->Tr->Rs Tr)(x:V)(y:V)(H:Hp)(Q:VK):Prop
 |mk (B:eW) (tx:Tr) (ty:Tr):HB B H->Rep X.K (bV B H) x tx->Rep X.K (bV B H) y ty->(Fi X H (h tx ty) fun t=>∀v H',ba H H'->Rep X.K (bV B H') v t->Q v H')->rT X h x y H Q
abbrev Bz(X:Cx)(f:Value->Value->Sem Value)(h:Tr->Tr->Rs Tr):Prop:=uy X f (rT X h)
theorem tK{Q:VK}(q:tP X (fun Y=>Hd aC (F Y) (G Y)) Z H Q):Qu (rT X aC) (tP X F) (tP X G) Z H Q:=by
 obtain⟨B,Y,hb,r,q⟩:=q;refine⟨B,Y,hb,r,q.bind.mono fun x qx v H1 s1 r1=>⟨B,Y,hb.same s1,r.same s1,(qx.bind.same s1).mono fun y qy u H2 s2 r2=>⟨B,x,y,(hb.same s1).same s2,r1.same (bE s2),r2,?_⟩⟩⟩;exact(qy.same (s1.trans s2)).mono fun t qt w H3 s3 r3=>qt w H3 ((s1.trans s2).trans s3) r3
theorem VD{op:Operator}(ho:Bz X (binaryOp op) aC)(ha:PE X o (tP X F))(hb:PE X b (tP X G)):PE X (.BinOp o op b pos) (tP X fun Y=>Hd aC (F Y) (G Y)):=
 (O8 ho ha hb).weak fun _ _ _ q=>tK q
theorem VE{op:CmpOp}(ho:Bz X (compareOp op) aC)(ha:PE X o (tP X F))(hb:PE X b (tP X G))(hm:behindInMarks op b=false:=by first|exact Ae _|rfl|with_unfolding_all rfl):PE X (.Compare o [op] [b] pos) (tP X fun Y=>Hd aC (F Y) (G Y)):=
 (MH ho ha hb hm).weak fun _ _ _ q=>tK q
def YV(r:Rs Tr):Rs Bool:=r.bind fun t=>match t with
 |.bl b=>.ok b
 |_=>.bad
theorem Rep.xn {H:Vw}{v:V}{b:Bool}(h:Rep K H v (.bl b)):v=.bl b:=by cases h;rfl
theorem fM{W:Vw}{t:Tr}(r:bI K W ar [t]):∃x,ar=[x]/\Rep K W x t:=by
 cases r with
 |cons o r=>cases r;exact⟨_,rfl,o⟩
theorem zf{W:Vw}{u:Tr}(r:bI K W ar [aB,u]):∃x y,ar=[x,y]/\Rep K W x aB/\Rep K W y u:=by
 cases r with
 |cons o r=>
  obtain⟨y,rfl,b⟩:=fM r;exact⟨_,_,rfl,o,b⟩
theorem Rep.FC {H:Vw}{v:V}{ns:List Int}(h:Rep K H v (.uZ ns)):∃o,v=.ref o/\ll K H.H o (ns.map V.int):=by cases h;exact⟨_,rfl,by assumption⟩
theorem Rep.m8 {H:Vw}{v:V}{bt:List (Key×Tr)}(h:Rep K H v (.bT bt)):∃o kvs,v=.ref o/\Rd H.H o (.dK kvs)/\kvs.map (·.1)=bt.map (·.1)/\bI K H (kvs.map (·.2)) (bt.map (·.2)):=by cases h;exact⟨_,_,rfl,by assumption,by assumption,by assumption⟩
theorem Rep.m9 {H:Vw}{v:V}(h:Rep K H v (.at i)):∃o,v=.ref o/\H.ix o=some i:=by cases h;exact⟨_,rfl,by assumption⟩
theorem Rep.An {H:Vw}{v:V}{fs:List (Str×Tr)}(h:Rep K H v (.ob x fs)):∃o dx gZ,v=.ref o/\H.H o=some (.ins (clsAt K x) dx gZ)/\gZ.map (·.1)=fs.map (·.1)/\bI K H (gZ.map (·.2)) (fs.map (·.2)):=by cases h;exact⟨_,_,_,rfl,by assumption,by assumption,by assumption⟩
theorem Rep.M8 {H:Vw}{v:V}(h:Rep K H v .cu):v=.cu:=by cases h;rfl
theorem Rep.int_inv {H:Vw}{v:V}{i:Int}(h:Rep K H v (.int i)):v=.int i:=by cases h;rfl
theorem Rep.str_inv {H:Vw}{v:V}{z:Str}(h:Rep K H v (.str z)):v=.str z/\z.length<=cS:=by cases h;exact⟨rfl,by assumption⟩
theorem Rep.dI {H:Vw}{v:V}(h:Rep K H v (.tup ts)):∃o vs,v=.ref o/\i7 K H.H o vs/\bI K H vs ts:=by cases h;exact⟨_,_,rfl,by assumption,by assumption⟩
theorem Rep.lst_inv {H:Vw}{v:V}(h:Rep K H v (.lst ts)):∃o vs,v=.ref o/\H.H o=some (.lst vs)/\bI K H vs ts:=by cases h;exact⟨_,_,rfl,by assumption,by assumption⟩
theorem hide{G:Prop}(k:∀P:Prop,(G->P)->P):G:=k G id
theorem M9{r:Rs Tr}{k:Bool->Prop}(h:Fi X H (YV r) k):Fi X H r fun t=>∃b,t=.bl b/\k b:=by
 refine h.bind.mono fun t q=>?_
 cases t with
 |bl b=>exact⟨b,rfl,q⟩
 |_=>exact q.elim
theorem VF{op:CmpOp}(ho:Bz X (compareOp op) aC)(ha:PE X o (tP X F))(hb:PE X b (tP X G))(hm:behindInMarks op b=false:=by first|exact Ae _|rfl|with_unfolding_all rfl):PT X (.Compare o [op] [b] pos) (tQ X fun Y=>YV (Hd aC (F Y) (G Y))):=
 (MI ho ha hb hm).weak fun Z H Q ⟨B,Y,hb,r,q⟩=>by
  refine tK (Q:=fun x H'=>∃k,x=.bl k/\Q k H') ⟨B,Y,hb,r,(M9 q).mono fun t qt v H' s' r'=>?_⟩;obtain⟨b,rfl,k⟩:=qt;exact⟨b,r'.xn,k H' s'⟩
def pj:Tr->Rs Bool
 |.cu=>.ok false
 |.bl b=>.ok b
 |.int i=>.ok (i !=0)
 |.str z=>.ok ((z.length:Int) !=0)
 |.tup ts=>.ok (!ts.isEmpty)
 |.lst ts=>.ok (!ts.isEmpty)
 |.bT bt=>.ok (!bt.isEmpty)
 |_=>.bad
theorem bI.isEmpty {H:Vw}{vs:List V}(h:bI K H vs ts):vs.isEmpty=ts.isEmpty:=by cases h<;>rfl
theorem lq:cS<=sizeLine:=by rw[dH];decide
theorem M_{H:Vw}{v:V}{b:Bool}(r:Rep K H v aB)(e:pj aB=.ok b):MJ K v H b:=by
 cases r with
 |cu=>cases e;rfl
 |bl tg=>cases e;rfl
 |int i=>cases e;rfl
 |str z h=>cases e;exact⟨cw h lq,rfl⟩
 |ty n=>cases e
 |tup h r=>cases e;exact .inr (.inl ⟨_,h,by rw[r.isEmpty]⟩)
 |lst h r=>cases e;exact .inl ⟨_,.of h,by rw[r.isEmpty]⟩
 |uZ h=>cases e
 |«at» h=>cases e
 |u0 h e1 rr=>cases e
 |ob h e1 rr=>cases e
 |zd h tg=>cases e
 |bT h e1 r=>
  cases e;refine .inr (.inr ⟨_,h,?_⟩);rename_i kvs bt;cases kvs<;>cases bt<;>first|rfl|cases e1
theorem xo{H:Vw}{v:V}{t:Tr}{k:Bool->Prop}(r:Rep X.K H v t)(h:Fi X H (pj t) k):∃b,MJ X.K v H b/\k b:=by
 cases e:pj t with
 |ok b=>rw[e]at h;exact⟨b,M_ r e,h⟩
 |exc tg=>cases t<;>cases e
 |bad=>rw[e]at h;exact h.elim
theorem VG(ha:PE X o (tP X F))(he:my o=true:=by rfl):PT X o (tQ X fun Y=>(F Y).bind pj):=
 (BN ha (xl he)).weak fun Z H Q ⟨B,Y,hb,r,q⟩=>⟨B,Y,hb,r,q.bind.mono fun t qt v H' s' r'=>by
  obtain⟨b,h1,h2⟩:=xo (r'.same fj) (qt.same s');exact⟨b,h1,h2 H' s'⟩⟩
def He(r:Rs Bool):Rs Bool:=r.bind fun b=>.ok (!b)
variable {A B:bO->Rs Bool}{c9:List Expr}
theorem VH(ha:PT X o (tQ X A)):PT X (.UnaryOp .Not o pos) (tQ X fun Y=>He (A Y)):=
 (IW ha).weak fun Z H Q ⟨B,Y,hb,r,q⟩=>⟨B,Y,hb,r,q.bind⟩
def Hf(o b:Rs Bool):Rs Bool:=o.bind fun tg=>if tg then b else .ok false
def VI(o b:Rs Bool):Rs Bool:=o.bind fun tg=>if tg then .ok true else b
theorem Rp(ha:PT X o (tQ X A)):PW X (.BoolOp .And [o] pos) (tQ X A):=pw_and1 ha
theorem VJ(ha:PT X o (tQ X A)):PW X (.BoolOp .Or [o] pos) (tQ X A):=pw_or1 ha
theorem w_and(ha:PT X o (tQ X A))(hb:PW X (.BoolOp .And (b::c9) pos) (tQ X B)):PW X (.BoolOp .And (o::b::c9) pos) (tQ X fun Y=>Hf (A Y) (B Y)):=
 (pw_and ha hb).weak fun Z H Q ⟨Bb,Y,hb,r,q⟩=>⟨Bb,Y,hb,r,q.bind.mono fun tg qc H1 s1=>by
  cases tg with
  |true=>exact⟨Bb,Y,hb.same s1,r.same s1,(Fi.same qc s1).mono fun b qb H2 s2=>qb H2 (s1.trans s2)⟩
  |false=>exact qc H1 s1⟩
theorem w_or(ha:PT X o (tQ X A))(hb:PW X (.BoolOp .Or (b::c9) pos) (tQ X B)):PW X (.BoolOp .Or (o::b::c9) pos) (tQ X fun Y=>VI (A Y) (B Y)):=
 (pw_or ha hb).weak fun Z H Q ⟨Bb,Y,hb,r,q⟩=>⟨Bb,Y,hb,r,q.bind.mono fun tg qc H1 s1=>by
  cases tg with
  |false=>exact⟨Bb,Y,hb.same s1,r.same s1,(Fi.same qc s1).mono fun b qb H2 s2=>qb H2 (s1.trans s2)⟩
  |true=>exact qc H1 s1⟩
theorem Rq{op}(h:PW X (.BoolOp op es pos) (tQ X A)):PT X (.BoolOp op es pos) (tQ X A):=h.pt
def VL(o b:Rs Tr):Rs Tr:=o.bind fun t=>(pj t).bind fun tg=>if tg then b else .ok t
theorem VM(ha:PE X o (tP X F))(hb:PE X (.BoolOp .And (b::c9) pos) (tP X G)):PE X (.BoolOp .And (o::b::c9) pos) (tP X fun Y=>VL (F Y) (G Y)):=by
 intro U s Z H Q I ⟨B,Y,hB,r,q⟩;refine BoolOp_and (d7 (ha U s Z H _ I ⟨B,Y,hB,r,q.bind.mono fun t qt v H1 s1 r1=>(show∃t,Rep X.K (bV B H1) v t/\ba H H1/\Fi X H ((pj t).bind fun tg=>if tg then G Y else .ok t) (fun t=>∀v H',ba H H'->Rep X.K (bV B H') v t->Q v H')from⟨t,r1,s1,qt⟩)⟩) fun v s1 ⟨x,H1,I1,r1,t,rt,sm,qt⟩=>?_);obtain⟨tg,h1,h2⟩:=xo (rt.same fj) (qt.bind.same sm);refine d7 (Je U s1 Z H1 x v (fun k H'=>k=tg/\H'=H1) I1 r1 ⟨tg,h1,rfl,rfl⟩) fun k s2 ⟨H2,I2,e1,e2⟩=>?_
 subst e1 e2;cases k with
 |true=>exact hb U s2 Z _ Q I2 ⟨B,Y,hB.same sm,r.same sm,(Fi.same h2 sm).mono fun t q v H' s' r'=>q v H' (sm.trans s') r'⟩
 |false=>exact⟨x,_,I2,r1,h2 x _ sm rt⟩
theorem VN{op}(h:PE X o (tP X F)):PE X (.BoolOp op [o] pos) (tP X F):=Qr h
def Rr(r:Rs Bool):Rs Tr:=r.bind fun b=>.ok (.bl b)
def JF(tg:Rs Bool)(o b:Rs Tr):Rs Tr:=tg.bind fun k=>if k then o else b
theorem Z'(hc:PT X tg (tQ X A))(ha:PE X o (tP X F))(hb:PE X b (tP X G)):PE X (.IfExp tg o b pos) (tP X fun Y=>JF (A Y) (F Y) (G Y)):=
 (IX hc ha hb).weak fun Z H Q ⟨B,Y,hb,r,q⟩=>⟨B,Y,hb,r,q.bind.mono fun k qk H1 s1=>by
  cases k with
  |true=>exact⟨B,Y,hb.same s1,r.same s1,(Fi.same qk s1).mono fun t q v H2 s2 r2=>q v H2 (s1.trans s2) r2⟩
  |false=>exact⟨B,Y,hb.same s1,r.same s1,(Fi.same qk s1).mono fun t q v H2 s2 r2=>q v H2 (s1.trans s2) r2⟩⟩
def xp(o:Rs Tr)(l:Rs (List Tr)):Rs (List Tr):=o.bind fun x=>l.bind fun xs=>.ok (x::xs)
theorem FD:PA X [] (B7 X fun _=>.ok []):=rE.weak fun Z H Q ⟨B,Y,hb,r,q⟩=>q [] H (ba.refl H) .nil
theorem Ap(ha:PE X o (tP X F))(hr:PA X es (B7 X L))(hs:isStar o=false:=by rfl):PA X (o::es) (B7 X fun Y=>xp (F Y) (L Y)):=
 (lp ha hr (bF _ _ hs)).weak fun Z H Q ⟨B,Y,hb,r,q⟩=>⟨B,Y,hb,r,q.bind.mono fun x qx v H1 s1 r1=>⟨B,Y,hb.same s1,r.same s1,(qx.bind.same s1).mono fun xs qs vs H2 s2 r2=>qs _ H2 (s1.trans s2) (.cons (r1.same (bE s2)) r2)⟩⟩
def e_:Nat:=16777216
theorem iE:e_=sizeLine:=dH.symm
def Aq(l:Rs (List Tr)):Rs Tr:=l.bind fun ts=>if ts.length<=e_ then .ok (.tup ts)else .bad
def yN(l:Rs (List Tr)):Rs Tr:=l.bind fun ts=>if ts.length<=e_ then .ok (.lst ts)else .bad
theorem VO{x1}(h:PA X es (B7 X L)):PE X (.Tuple es x1 pos) (tP X fun Y=>Aq (L Y)):=
 (QN h).weak fun Z H Q ⟨B,Y,hb,r,q⟩=>⟨B,Y,hb,r,q.bind.mono fun ts qt vs H1 s1 r1=>by
  by_cases hz:ts.length<=e_
  ·rw[aS hz]at qt;refine⟨by rw[r1.length,<-iE];exact hz,fun p hp=>qt (.ref p) _ (s1.Al (s1.free hp)) (.tup (.of ((hb.same s1).new hp)) (r1.same (bE (ba.upd hp))))⟩
  ·rw[aW hz]at qt;exact qt.elim⟩
theorem VP(h:PA X es (B7 X L)):PE X (.List es pos) (tP X fun Y=>yN (L Y)):=
 (Jk h).weak fun Z H Q ⟨B,Y,hb,r,q⟩=>⟨B,Y,hb,r,q.bind.mono fun ts qt vs H1 s1 r1=>by
  by_cases hz:ts.length<=e_
  ·rw[aS hz]at qt;refine⟨by rw[r1.length,<-iE];exact hz,fun p hp=>qt (.ref p) _ (s1.Al (s1.free hp)) (.lst ((hb.same s1).new hp) (r1.same (bE (ba.upd hp))))⟩
  ·rw[aW hz]at qt;exact qt.elim⟩
def dv(h:List Tr->Rs Tr)(l:Rs (List Tr)):Rs Tr:=l.bind h
inductive rC(X:Cx)(h:List Tr->Rs Tr)(xs:List V)(H:Hp)(Q:VK):Prop
 |mk (B:eW) (ts:List Tr):HB B H->bI X.K (bV B H) xs ts->(Fi X H (h ts) fun t=>∀v H',ba H H'->Rep X.K (bV B H') v t->Q v H')->rC X h xs H Q
abbrev lr(X:Cx)(f:Value)(h:List Tr->Rs Tr):Prop:=gn X f (rC X h)
theorem zg{Q:VK}(q:tP X (fun Y=>dv h (L Y)) Z H Q):ZK (rC X h) (B7 X L) Z H Q:=by
 obtain⟨B,Y,hb,r,q⟩:=q;exact⟨B,Y,hb,r,q.bind.mono fun ts qt vs H1 s1 r1=>⟨B,ts,hb.same s1,r1,(qt.same s1).mono fun t qt v H2 s2 r2=>qt v H2 (s1.trans s2) r2⟩⟩
theorem M'(hc:lr X (.builtin ay) h)(hm:X.mg x=none)(ha:PA X (e::es) (B7 X L))(hv:bootBuiltins x=some (.builtin ay):=by rfl) (hg:Gl X x:=by rfl) (hn:x≠"__name__":=by decide) (fq:Db x:=by decide)
  (cz:bq (e::es)=true:=by rfl):PE X (.Call (.Name x p) (e::es) [] pos) (tP X fun Y=>dv h (L Y)):=
 (o8 hc hg hm hv ha hn fq (bF _ _ (bc cz).1) (cL (bc cz).2)).weak fun _ _ _ q=>zg q
theorem JG(hc:lr X (.type ay) h)(hm:X.mg x=none)(ha:PA X (e::es) (B7 X L))(hv:bootBuiltins x=some (.type ay):=by rfl) (hg:Gl X x:=by rfl) (hn:x≠"__name__":=by decide) (fq:Db x:=by decide)
  (cz:bq (e::es)=true:=by rfl):PE X (.Call (.Name x p) (e::es) [] pos) (tP X fun Y=>dv h (L Y)):=
 (uB hc hg hm hv ha hn fq (bF _ _ (bc cz).1) (cL (bc cz).2)).weak fun _ _ _ q=>zg q
inductive spT(K:Frag)(f:List Tr->Rs Tr)(vs:List V)(H:Hp)(Q:VK)(_w3:XK):Prop
 |mk (B:eW) (ts:List Tr):HB B H->bI K (bV B H) vs ts->(∃t,f ts=.ok t/\∀v H',ba H H'->Rep K (bV B H') v t->Q v H')->spT K f vs H Q _w3
theorem VQ{fd:FuncData}(D:zc X.K X.mg x ai ps a fd)(G:d5 X.prog X.w X.K X.mg X.base lX i a fd ps (spT X.K h))(hr:cV i X.A)
  (ha:PA X (e::es) (B7 X L)) (hg:Gl X x:=by rfl) (fq:Db x:=by decide) (cz:bq (e::es)=true:=by rfl):PE X (.Call (.Name x p) (e::es) [] pos) (tP X fun Y=>dv h (L Y)):=
 (Rn D G hr ha hg fq (bF _ _ (bc cz).1) (cL (bc cz).2)).weak fun Z H Q ⟨B,Y,hb,r,q⟩=>⟨B,Y,hb,r,q.bind.mono fun ts qt vs H1 s1 r1=>by
  cases e:h ts with
  |ok t=>rw[e]at qt;exact⟨B,ts,hb.same s1,by rw[jQ];exact r1,t,e,fun v H2 s2 r2=>qt v H2 (s1.trans s2) r2⟩
  |exc tg=>rw[e]at qt;exact(qt _ (ba.refl _)).elim
  |bad=>rw[e]at qt;exact qt.elim⟩
end
section
variable {a b c:Expr}{G G':bO->Rs Out}{A:bO->Rs Bool}
def B9(r:Rs Out)(G:bO->Rs Out):Rs Out:=r.bind fun o=>match o with
 |.nx Y=>G Y
 |.ret t=>.ok (.ret t)
 |.bk Y=>.ok (.bk Y)
 |.ct Y=>.ok (.ct Y)
theorem VR:n_ X [] (tS X fun Y=>.ok (.nx Y)):=Ff.weak fun D Z H ⟨C,B0,H0,B,Y,si,r,q⟩=>q Z B H si r
theorem Rt(h1:PS X ai (tS X G))(h2:n_ X ah (tS X G')):n_ X (ai::ah) (tS X fun Y=>B9 (G Y) G'):=
 (BM h1 h2).weak fun D Z H ⟨C,B0,H0,B,Y,si,r,q⟩=>⟨C,B0,H0,B,Y,si,r,q.bind.mono fun o qo=>by
  cases o with
  |nx g9=>exact fun di B' H' Na r'=>⟨C,B0,H0,B',g9,Na,r',qo⟩
  |ret t=>exact qo
  |bk g9=>exact qo
  |ct g9=>exact qo⟩
theorem VS(h1:PS X ai (tS X G)):n_ X [ai] (tS X G):=Fg h1
def JH(i:Nat)(r:Rs Tr)(Y:bO):Rs Out:=r.bind fun t=>.ok (.nx (Y.set i (.sh t)))
theorem qd.here {α:Type}{C B0:eW}{H0:Hp}{r:Rs α}{k:α->Prop}(h:qd (xS X C B0 H0) r k)(si:dZ C B0 H0 B H):Fi X H r k:=h.imp fun _ q H' s'=>q B H' (si.go s')
theorem FE{C B0:eW}{Y:bO}(si:dZ C B0 ac B H)(r:cB X.K B H Z Y)(q:qd (xS X C B0 ac) (F Y) aA){Q:VK}(hq:∀t v H',aA t->ba H H'->dZ C B0 ac B H'->cB X.K B H' Z Y->Rep X.K (bV B H') v t->Q v H'):tP X F Z H Q:=
 ⟨B,Y,si.hb,r,(q.here si).mono fun t qt v H' s' r'=>hq t v H' qt s' (si.go s') (r.same s') r'⟩
theorem VT{C B0:eW}{Y:bO}{k:Bool->Prop}(si:dZ C B0 ac B H)(r:cB X.K B H Z Y)(q:qd (xS X C B0 ac) (A Y) k){Q:Bool->Hp->Prop}(hq:∀b H',k b->ba H H'->dZ C B0 ac B H'->cB X.K B H' Z Y->Q b H'):tQ X A Z H Q:=
 ⟨B,Y,si.hb,r,(q.here si).mono fun b qb H' s'=>hq b H' qb s' (si.go s') (r.same s')⟩
theorem Rep.out {C B0:eW}{H0:Hp}{v:V}{t:Tr}(r:Rep K (bV B H) v t)(si:dZ C B0 H0 B H):Rep K (bV C H) v t:=r.same (xj si.sub)
theorem VU(he:PE X e (tP X F))(hN:X.N.Nodup:=by assumption) (hi:X.N[i]?=some x:=by rfl) (hx:Loc X.env.scope x:=by first|exact Or.inl rfl|exact Or.inr rfl) (hs:rJ e=false:=by rfl) (hf:yE X x:=by first|exact .inl rfl|exact .inr rfl|assumption):
  PS X (.Assign [.Name x p] e pos) (tS X fun Y=>JH i (F Y) Y):=
 (Ja hN hi hx he (xk hs) hf).weak fun D Z H ⟨C,B0,H0,B,Y,si,r,q⟩=>FE si r q.bind fun t v H1 qt s1 Hg r1 rv=>qt _ B H1 Hg (r1.set i rv)
def JI(r:Rs Tr):Rs Out:=r.bind fun t=>.ok (.ret t)
theorem VW(he:PE X e (tP X F)):PS X (.Return (some e) pos) (tS X fun Y=>JI (F Y)):=
 (IZ he).weak fun D Z H ⟨C,B0,H0,B,Y,si,r,q⟩=>FE si r q.bind fun t v H1 qt s1 Hg r1 rv=>qt v B H1 Hg (rv.out Hg)
def Uq(c:Rs Bool)(a b:Rs Out):Rs Out:=c.bind fun k=>if k then a else b
theorem aaa(hc:PT X c (tQ X A))(ha:n_ X ah (tS X G))(hb:n_ X aj (tS X G')):PS X (.If c ah aj pos) (tS X fun Y=>Uq (A Y) (G Y) (G' Y)):=
 (O6 hc ha hb).weak fun D Z H ⟨C,B0,H0,B,Y,si,r,q⟩=>VT si r q.bind fun k H1 qk s1 Hg r1=>by
  cases k with
  |true=>exact Rg ⟨C,B0,H0,B,Y,Hg,r1,qk⟩
  |false=>exact Rf ⟨C,B0,H0,B,Y,Hg,r1,qk⟩
abbrev n6:=Tr->bO->Rs bO
inductive tG(X:Cx)(T:n6)(v:V)(Z:St)(H:Hp)(Q:St->Hp->Prop):Prop
 |mk (B:eW) (Y:bO) (t:Tr):HB B H->cB X.K B H Z Y->Rep X.K (bV B H) v t->(Fi X H (T t Y) fun g9=>∀di H',ba H H'->cB X.K B H' di g9->Q di H')->tG X T v Z H Q
def gN(i:Nat):n6:=fun t Y=>.ok (Y.set i (.sh t))
theorem Ru(i:Nat)(hN:X.N.Nodup:=by assumption) (hi:X.N[i]?=some x:=by rfl) (hx:Loc X.env.scope x:=by first|exact Or.inl rfl|exact Or.inr rfl) (hf:yE X x:=by first|exact .inl rfl|exact .inr rfl|assumption):PG X (.Name x pos) (tG X (gN i)):=by
 intro U s Z H v u Q I r ⟨B,Y,t,hb,rs,rt,q⟩;exact Fh hN hi hx hf U s Z H v u Q I r (q _ H (ba.refl H) (rs.set i rt))
def D9:List Nat->List Tr->bO->Rs bO
 |[],[],Y=>.ok Y
 |i::is,t::ts,Y=>D9 is ts (Y.set i (.sh t))
 |_,_,_=>.bad
inductive Ur(X:Cx)(T:List Tr->bO->Rs bO)(vs:List V)(Z:St)(H:Hp)(Q:St->Hp->Prop):Prop
 |mk (B:eW) (Y:bO) (ts:List Tr):HB B H->cB X.K B H Z Y->bI X.K (bV B H) vs ts->(Fi X H (T ts Y) fun g9=>∀di H',ba H H'->cB X.K B H' di g9->Q di H')->Ur X T vs Z H Q
theorem VX:MC X [] (Ur X (D9 [])):=by
 intro U s Z H vs us Q I r ⟨B,Y,ts,hb,rs,rt,q⟩
 match ts,rt,q with
 |[],.nil,q=>exact MD U s Z H [] us Q I r ⟨rfl,q Z H (ba.refl H) rs⟩
 |_::_,_,q=>exact q.elim
theorem Rv{is:List Nat}(h2:MC X es (Ur X (D9 is)))(hN:X.N.Nodup:=by assumption) (hi:X.N[i]?=some x:=by rfl) (hx:Loc X.env.scope x:=by first|exact Or.inl rfl|exact Or.inr rfl) (hf:yE X x:=by first|exact .inl rfl|exact .inr rfl|assumption)
  (hs:(assignEach (.Name x pos::es) X.env).map (·.2)=assign (.Name x pos) X.env::(assignEach es X.env).map (·.2):=by rfl):MC X (.Name x pos::es) (Ur X (D9 (i::is))):=by
 intro U s Z H vs us Q I r ⟨B,Y,ts,hb,rs,rt,q⟩
 match ts,rt,q with
 |[],_,q=>exact q.elim
 |t::ts,.cons r1 r2,q=>
  exact I0 (Fh hN hi hx hf) h2 hs U s Z H _ us Q I r ⟨_,_,rfl,⟨B,_,ts,hb,rs.set i r1,r2,q⟩⟩
def gT(is:List Nat):n6:=fun t Y=>match t with
 |.tup ts=>D9 is ts Y
 |_=>.bad
theorem FF:∀{is:List Nat} {ts:List Tr} {Y g9:bO},D9 is ts Y=.ok g9->ts.length=is.length
 |[],[],_,_,_=>rfl
 |[],_::_,_,_,h=>by cases h
 |_::_,[],_,_,h=>by cases h
 |_::is,_::ts,_,_,h=>by rw[dg,dg,FF (is:=is) (ts:=ts) h]
theorem zh:∀{is:List Nat} {ts:List Tr} {Y:bO} {c:Tr},D9 is ts Y≠ .exc c
 |[],[],_,_=>fun h=>by cases h
 |[],_::_,_,_=>fun h=>by cases h
 |_::_,[],_,_=>fun h=>by cases h
 |_::is,_::ts,_,_=>zh (is:=is) (ts:=ts)
theorem VY{is:List Nat}(h:MC X es (Ur X (D9 is)))(hc:X.calm=true:=by rfl) (hn:(assignEach es X.env).length=is.length:=by rfl) (cz:(assignEach es X.env).findIdx? (·.1)=none:=by rfl):PG X (.Tuple es i pos) (tG X (gT is)):=by
 intro U s Z H v u Q I r ⟨B,Y,t,hb,rs,rt,q⟩;cases rt with
 |tup hq rv=>
  refine Qt hc h hn cz U s Z H _ u Q I r ⟨_,_,rfl,(ba.tup bD hq),?_,B,Y,_,hb,rs,rv,q⟩;have q':Fi X H (D9 is _ Y) _:=q;cases e:D9 is _ Y with
  |ok g9=>rw[rv.length];exact FF e
  |exc c=>exact(zh e).elim
  |bad=>rw[e]at q';exact q'.elim
 |_=>exact q.elim
def Rw(T:n6)(r:Rs Tr)(Y:bO):Rs Out:=r.bind fun t=>(T t Y).bind fun g9=>.ok (.nx g9)
theorem VZ{T:n6}(hg:PG X tg (tG X T))(he:PE X e (tP X F))(hs:swapsWithSole [tg] e pos.line X.env=pure false:=by rfl) (hw:swappedStores [tg] e X.env=pure none:=by rfl)
  (h1:(assignEach [tg] X.env).map (·.2)=[assign tg X.env]:=by rfl):PS X (.Assign [tg] e pos) (tS X fun Y=>Rw T (F Y) Y):=
 (I_ he hg hs hw h1).weak fun D Z H ⟨C,B0,H0,B,Y,si,r,q⟩=>FE si r q.bind fun t v H1 qt s1 Hg r1 rv=>⟨B,Y,t,Hg.hb,r1,rv,(qt.bind.here Hg).mono fun g9 q' di H2 s2 r2=>q' di B H2 (Hg.go s2) r2⟩
structure lu(K:Frag)(B:eW)(J:It)(H:Hp)(ts:List Tr):Prop where
 go:∀i B' H',i<ts.length->eL (bV B H) (bV B' H')->HB B' H'->J.go i H'
 Fj:∀i B' H' x Mj,i<ts.length->eL (bV B H) (bV B' H')->HB B' H'->J.Fj i H' x Mj->ba H' Mj/\∃t,ts[i]?=some t/\Rep K (bV B' Mj) x t
 stop:∀B' H',eL (bV B H) (bV B' H')->J.stop ts.length H'
inductive tI(X:Cx)(W:bO->Rs (List Tr))(Z:St)(H:Hp)(R:It->Hp->Prop):Prop
 |mk (B:eW) (Y:bO):HB B H->cB X.K B H Z Y->(Fi X H (W Y) fun ts=>∀J H',ba H H'->lu X.K B J H' ts->R J H')->tI X W Z H R
def yO(T:n6)(G:bO->Rs Out):List Tr->bO->Rs Out
 |[],Y=>.ok (.nx Y)
 |t::ts,Y=>(T t Y).bind fun qS=>(G qS).bind fun o=>match o with
  |.nx g_=>yO T G ts g_
  |.ct g_=>yO T G ts g_
  |.bk g_=>.ok (.nx g_)
  |.ret t=>.ok (.ret t)
def FG(T:n6)(G:bO->Rs Out)(l:Rs (List Tr))(Y:bO):Rs Out:=l.bind fun ts=>yO T G ts Y
def Hh(z:Str):List Tr:=z.cps.toList.map fun c=>Tr.str ⟨#[c]⟩
def JJ(r:Rs Tr):Rs (List Tr):=r.bind fun t=>match t with
 |.tup ts=>.ok ts
 |.lst ts=>.ok ts
 |.str z=>.ok (Hh z)
 |_=>.bad
theorem xq(h:bV B H au=some (.lst ar))(r:bI K (bV B H) ar ts):lu K B (Itl K au) H ts where
 go:=fun i B' H' hi s hb=>by
  have hv:i<ar.length:=by rw[r.length];exact hi
  exact⟨ar,ar[i],ll.of (bD _ _ (s.h _ _ h)),by simp[hv]⟩
 Fj:=fun i B' H' x Mj hi s hb ⟨e,y⟩=>by
  subst e;have q:=y ar (ll.of (bD _ _ (s.h _ _ h)));obtain⟨t,e1,r1⟩:=r.xi q;exact⟨ba.refl _,t,e1,r1.same s⟩
 stop:=fun B' H' s=>⟨ar,ll.of (bD _ _ (s.h _ _ h)),by rw[r.length];exact bu _⟩
theorem Hi(h:i7 K (bV B H) au ar)(r:bI K (bV B H) ar ts):lu K B (Itt K au) H ts where
 go:=fun i B' H' hi s hb=>by
  have hv:i<ar.length:=by rw[r.length];exact hi
  exact⟨ar,ar[i],ba.tup bD (s.h.tup h),by simp[hv]⟩
 Fj:=fun i B' H' x Mj hi s hb ⟨e,y⟩=>by
  subst e;have q:=y ar (ba.tup bD (s.h.tup h));obtain⟨t,e1,r1⟩:=r.xi q;exact⟨ba.refl _,t,e1,r1.same s⟩
 stop:=fun B' H' s=>⟨ar,ba.tup bD (s.h.tup h),by rw[r.length];exact bu _⟩
theorem Hj(z:Str):lu K B (YU z) H (Hh z) where
 go:=fun i B' H' hi _ _=>by
  have h:i<z.cps.size:=by simpa[Hh]using hi
  exact h
 Fj:=fun i B' H' x Mj hi s hb ⟨e,c,hc,hx⟩=>by
  subst e;subst hx;refine⟨ba.refl _,.str ⟨#[c]⟩,?_,.str _ (by show 1<=cS;decide)⟩;unfold Hh;rw[bW,mZ,hc]
  rfl
 stop:=fun B' H' s=>by simp[Hh,YU]
theorem Nb{s1:Shared}{R:It->Hp->Prop}{t:Tok}(I1:Inv X U Z H s1)(q:R (YU x) H):wpAny (model X.prog X.w) X.A (pyIter (.str x t)) (YL X U Z tg R) X.xe s1:=by
 have fin:∀b∈[s1.heap.objs.size],kD X U H b:=fun b hb=>by
  have e:b=s1.heap.objs.size:=by simpa using hb
  rw[e];exact I1.wR (bu _) (I1.cP.fresh (bu _))
 cases ha:x.cps.all (· <128)
 ·exact wpAny_pyIter_wide ha ⟨s1.heap.objs.size,[s1.heap.objs.size],_,_,H,rfl,I1.kept (t':=s1.toks) fun b o e=>bL _ e,
   BZ (n:="str_iterator") (t:=t) (by decide) (fun A' hA=>Walks.strWide hA _ x t) fun _ _ _ _ _ ai hq=>wpAny_pyIter_striter_wide ai hq,⟨_,cf _ rfl,rfl,rfl⟩,fin,q⟩
 ·exact wpAny_pyIter_ascii ha ⟨s1.heap.objs.size,[s1.heap.objs.size],_,_,H,rfl,I1.kept (t':=s1.toks) fun b o e=>bL _ e,
   BZ (n:="str_ascii_iterator") (t:=t) (by decide) (fun A' hA=>Walks.strAscii hA _ x t) fun _ _ _ _ _ ai hq=>wpAny_pyIter_striter_ascii ai hq,⟨_,cf _ rfl,rfl,rfl⟩,fin,q⟩
theorem V0(hl:PE X am (tP X F)):PI X tg am (tI X fun Y=>JJ (F Y)):=by
 intro U s Z H R I ⟨B,Y,hb,r,q⟩;refine d7 (hl U s Z H (fun x H1=>∃t,ba H H1/\Rep X.K (bV B H1) x t/\Fi X H (JJ (.ok t)) fun ts=>∀J H',ba H H'->lu X.K B J H' ts->R J H') I ⟨B,Y,hb,r,q.bind.mono fun t qt v H1 s1 r1=>⟨t,s1,r1,qt⟩⟩) fun v s1 ⟨x,H1,I1,r1,t,sm,rt,k⟩=>?_
 have k:Fi X H (match t with
  |.tup ts=>.ok ts
  |.lst ts=>.ok ts
  |.str z=>.ok (Hh z)
  |_=>.bad) _:=k
 have fin:∀b∈[s1.heap.objs.size],kD X U H1 b:=fun b hb=>by
  rw[cX.mp hb];exact I1.wR (bu _) (I1.cP.fresh (bu _))
 split at k
 ·obtain⟨a,vs,rfl,h,rr⟩:=rt.dI;cases r1;obtain⟨cc,rv,p,hz⟩:=I1.tuple (ba.tup bD h);exact wpAny_pyIter_tuple (show s1.heap.IsTuple a cc.toArray from p) ⟨s1.heap.objs.size,[s1.heap.objs.size],_,_,H1,rfl,I1.kept (t':=s1.toks) fun b o e=>bL _ e,DN a _,⟨_,cf _ rfl,rfl,rfl⟩,fin,k _ H1 sm (Hi h rr)⟩
 ·obtain⟨a,vs,rfl,h,rr⟩:=rt.lst_inv;cases r1;obtain⟨cc,rv,p,hz⟩:=I1.list (ll.of (bD _ _ h));exact kn p.isList ⟨s1.heap.objs.size,[s1.heap.objs.size],_,_,H1,rfl,I1.kept (t':=s1.toks) fun b o e=>bL _ e,y4 a _,⟨_,cf _ rfl,rfl,rfl⟩,fin,k _ H1 sm (xq h rr)⟩
 ·obtain⟨rfl,_⟩:=rt.str_inv;obtain⟨t,rfl⟩:=(show∃t,v=Value.str _ t from r1);exact Nb I1 (k _ H1 sm (Hj _))
 ·exact k.elim
def B_(lo:Int)(n:Nat):List Tr:=(List.range n).map fun k=>Tr.int (lo+(k:Nat))
theorem pq(lo:Int)(n:Nat):(B_ lo n).length=n:=by simp[B_]
theorem Ca(lo:Int)(n:Nat):lu K B (YN lo n) H (B_ lo n) where
 go:=fun i B' H' hi _ _=>by rw[pq]at hi;exact hi
 Fj:=fun i B' H' x Mj hi s hb ⟨e,y⟩=>by
  subst e;subst y;rw[pq]at hi;refine⟨ba.refl _,.int (lo+i),?_,.int _⟩;unfold B_;rw[bW,List.getElem?_range hi]
  rfl
 stop:=fun B' H' s=>by rw[pq];exact bu _
def FH(l:Rs (List Tr)):Rs (List Tr):=l.bind fun ts=>match ts with
 |[.int j]=>if-4611686018427387904<=j/\j<4611686018427387904 then .ok (B_ 0 j.toNat)else .bad
 |_=>.bad
theorem PI.weak {c5:Expr}{t t':TI}(h:PI X tg c5 t)(w:∀Z H R,t' Z H R->t Z H R):PI X tg c5 t':=fun U s Z H R I q=>h U s Z H R I (w Z H R q)
theorem JK(hm:X.mg "range"=none)(ha:PA X [a] (B7 X L))(hg:Gl X "range":=by rfl) (hs:bq [a]=true:=by rfl):PI X tg (.Call (.Name "range" p) [a] [] pos) (tI X fun Y=>FH (L Y)):=
 (G0 hg hm ha (by rw[bF _ _ (bc hs).1];rfl)).weak fun Z H R ⟨B,Y,hb,r,q⟩=>⟨B,Y,hb,r,q.bind.mono fun ts qt vs H1 s1 r1=>by
  split at qt
  ·rename_i j;cases r1 with
   |cons h1 r1=>
    cases h1;cases r1;split at qt
    ·rename_i hj;exact⟨j,rfl,by omega,by omega,qt _ H1 s1 (Ca 0 _)⟩
    ·exact qt.elim
  ·exact qt.elim⟩
def Nc{α:Type}(r:Rs α):Rs α:=match r with
 |.ok a=>.ok a
 |_=>.bad
def tL(ix:List (Option Nat))(Y:bO):bO:=ix.map fun o=>match o with
 |none=>.no
 |some j=>match Y[j]? with
  |some (.sh t)=>.sh t
  |_=>.no
theorem cB.comp {B':eW}{H':Hp}{Y:bO}(ix:List (Option Nat))(h:cB K B H Z Y)(s:eL (bV B H) (bV B' H')):cB K B' H' (i9 ix Z) (tL ix Y):=by
 have no:∀(i:Nat) (c:Cell),(tL ix Y)[i]?=some c->c=.no\/∃j t,ix[i]?=some (some j)/\Y[j]?=some (.sh t)/\c=.sh t:=fun i c e=>by
  unfold tL at e;rw[bW]at e;cases q:ix[i]? with
  |none=>rw[q]at e;cases e
  |some o=>
   rw[q]at e;cases o with
   |none=>exact .inl (Option.some.inj e).symm
   |some j=>
    have e':(match Y[j]? with|some (Cell.sh t)=>Cell.sh t|_=>Cell.no)=c:=Option.some.inj e;split at e'
    ·rename_i t q2;exact .inr ⟨j,t,rfl,q2,e'.symm⟩
    ·exact .inl e'.symm
 refine⟨by unfold tL i9;rw[bj,bj],fun i t e=>?_,fun i ts e=>?_,fun i j ts us D _ e=>?_⟩
 ·rcases no i _ e with q|⟨j,u,q1,q2,q3⟩
  ·cases q
  ·cases q3;obtain⟨v,e1,r1⟩:=h.sh j t q2;refine⟨v,?_,r1.same s⟩;unfold i9;rw[bW,q1];show some ((Z[j]?).join)=_;rw[e1]
   rfl
 ·rcases no i _ e with q|⟨j,u,q1,q2,q3⟩
  ·cases q
  ·cases q3
 ·rcases no i _ e with q|⟨j,u,q1,q2,q3⟩
  ·cases q
  ·cases q3
def D_(T:n6)(A:bO->Rs Bool)(F:bO->Rs Tr):List Tr->bO->Rs (List Tr)
 |[],_=>.ok []
 |t::ts,Y=>(Nc (T t Y)).bind fun qS=>(Nc (A qS)).bind fun k=>if k then(Nc (F qS)).bind fun y=>(D_ T A F ts qS).bind fun ys=>.ok (y::ys)else D_ T A F ts qS
def u4(ix:List (Option Nat))(T:n6)(A:bO->Rs Bool)(F:bO->Rs Tr)(l:Rs (List Tr))(Y:bO):Rs Tr:=l.bind fun ts=>if ts.length<=e_ then(D_ T A F ts (tL ix Y)).bind fun ys=>.ok (.lst ys)else .bad
def mz(B:eW)(D:Addr):eW:=⟨fun b=>B.hd b||b==D,B.ix⟩
theorem kF{D:Addr}{o:HO}(hD:H D=none):eL (bV B H) (bV (mz B D) (upd H D o)):=⟨fun b u e=>by
 have e1:=bD b u e;have gV:b≠D:=bM e1 hD;have hB:B.hd b=false:=by
  cases q:B.hd b with
  |false=>rfl
  |true=>
   have e2:(if B.hd b=true then none else H b)=some u:=e;rw[q,aS rfl]at e2;cases e2
 rw[fL (show(B.hd b||b==D)=false by rw[hB,jT gV];rfl),bb gV];exact e1,fun _ _ e=>e⟩
theorem FI{o:HO}(h:HB B H)(hD:H au=none):HB (mz B au) (upd H au o):=fun b e=>by
 by_cases q:b=au
 ·subst q;exact⟨o,bG⟩
 ·have e':(B.hd b||b==au)=true:=e;rw[jT q,sI]at e';rw[bb q];exact h b e'
theorem zk:(mz B au).hd au=true:=by show(B.hd au||au==au)=true;rw[bX,Bool.or_true]
theorem tM{o:HO}:bV (mz B au) (upd H au o)=bV (mz B au) H:=by
 unfold bV;congr 1;funext b;by_cases q:b=au
 ·subst q;rw[aS zk,aS zk]
 ·rw[bb q]
theorem FJ:u3 B (mz B au):=⟨fun b e=>by show(B.hd b||b==au)=true;rw[e,Bool.true_or],fun _ _ e=>e⟩
theorem Cb:eL (bV (mz B au) H) (bV B H):=xj FJ
def fy(Y:bO):Prop:=∀(i:Nat) (ts:List Tr),Y[i]? ≠some (.ow ts)
def jx(T:n6):Prop:=∀t Y g9,fy Y->T t Y=.ok g9->fy g9
theorem fy.set {Y:bO}(h:fy Y)(i:Nat)(t:Tr):fy (Y.set i (.sh t)):=fun j ts e=>by
 rcases fw e with⟨_,_,q⟩|⟨_,q⟩
 ·cases q
 ·exact h j ts q
theorem fA(i:Nat):jx (gN i):=fun t Y g9 h e=>by cases e;exact h.set i t
theorem FK:∀{is:List Nat} {ts:List Tr} {Y g9:bO},fy Y->D9 is ts Y=.ok g9->fy g9
 |[],[],_,_,h,e=>by cases e;exact h
 |[],_::_,_,_,_,e=>by cases e
 |_::_,[],_,_,_,e=>by cases e
 |i::is,t::ts,_,_,h,e=>FK (is:=is) (ts:=ts) (h.set i t) e
theorem Ea(is:List Nat):jx (gT is):=fun t Y g9 h e=>by
 cases t with
 |tup ts=>exact FK h e
 |_=>cases e
theorem vM(ix:List (Option Nat))(Y:bO):fy (tL ix Y):=fun i ts e=>by
 unfold tL at e;rw[bW]at e;cases q:ix[i]? with
 |none=>rw[q]at e;cases e
 |some o=>
  rw[q]at e;cases o with
  |none=>cases e
  |some j=>
   have e':(match Y[j]? with|some (Cell.sh t)=>Cell.sh t|_=>Cell.no)=.ow ts:=Option.some.inj e;split at e'<;>cases e'
theorem Eb{r:Rs ag}{k:ag->Prop}(h:qd aA (Nc r) k):∃a,r=.ok a/\k a:=by
 cases r with
 |ok a=>exact⟨a,rfl,h⟩
 |_=>exact h.elim
inductive Pk(K:Frag)(F:bO->Rs Tr)(Z:St)(H:Hp)(Q:VK):Prop
 |mk (B:eW) (Y:bO):HB B H->cB K B H Z Y->(∃t,F Y=.ok t/\∀v H',ba H H'->Rep K (bV B H') v t->Q v H')->Pk K F Z H Q
inductive Pl(K:Frag)(F:bO->Rs Bool)(Z:St)(H:Hp)(Q:Bool->Hp->Prop):Prop
 |mk (B:eW) (Y:bO):HB B H->cB K B H Z Y->(∃b,F Y=.ok b/\∀H',ba H H'->Q b H')->Pl K F Z H Q
inductive Pm(K:Frag)(T:n6)(v:V)(Z:St)(H:Hp)(Q:St->Hp->Prop):Prop
 |mk (B:eW) (Y:bO) (t:Tr):HB B H->cB K B H Z Y->Rep K (bV B H) v t->(∃g9,T t Y=.ok g9/\∀di H',ba H H'->cB K B H' di g9->Q di H')->Pm K T v Z H Q
theorem Rx{Q:VK}:Pk X.K F Z H Q->tP X F Z H Q:=fun⟨B,Y,hb,r,t,e,q⟩=>⟨B,Y,hb,r,by rw[e];exact q⟩
theorem Ry{Q:Bool->Hp->Prop}:Pl X.K aE Z H Q->tQ X aE Z H Q:=fun⟨B,Y,hb,r,t,e,q⟩=>⟨B,Y,hb,r,by rw[e];exact q⟩
theorem RB{T:n6}{v:V}{Q:St->Hp->Prop}:Pm X.K T v Z H Q->tG X T v Z H Q:=fun⟨B,Y,t,hb,r,rt,g9,e,q⟩=>⟨B,Y,t,hb,r,rt,by rw[e];exact q⟩
theorem vN{J:It}{D:Addr}{YR:St}{Nd:bO}{T:n6}{Q:Hp->Prop}(hT:jx T)(h0:fy Nd)(hb:HB B H)(gt:lu K B J H ts)(hz:ts.length<=e_)(r:cB K (mz B D) (upd H D (.lst [])) YR Nd)(hD:H D=none)
  {k:List Tr->Prop} (q:qd aA (D_ T A F ts Nd) k) (hQ:∀ys H',k ys->ba H H'->Rep K (bV B H') (.ref D) (.lst ys)->Q H'):Z4 J D YR (upd H D (.lst [])) (Pm K T) (Pl K A) (Pk K F) Q:=by
 refine⟨fun i m Z H'=>m=ts.length - i/\i<=ts.length/\ba H H'/\HB (mz B D) H'/\eL (bV B H) (bV (mz B D) H')/\∃Y vs us,fy Y/\cB K (mz B D) H' Z Y/\H' D=some (.lst vs)/\vs.length<=i/\bI K (bV (mz B D) H') vs us/\qd aA (D_ T A F (ts.drop i) Y) (fun ys=>k (us++ys)),
  ⟨_,rfl,dU _,ba.upd hD,FI hb hD,kF hD,Nd,[],[],h0,r,bG,bu _,.nil,q⟩,?_⟩
 rintro i m Z H' ⟨rfl,hi,sm,II,jw,Y,vs,us,no,rs,hd,hl,rv,q'⟩
 by_cases f_:i<ts.length
 ·rw[oh f_]at q';refine .inr ⟨gt.go i _ H' f_ jw II,fun vK H2=>ba H H2/\HB (mz B D) H2/\eL (bV B H) (bV (mz B D) H2)/\∃Y vs us,fy Y/\cB K (mz B D) H2 vK Y/\H2 D=some (.lst vs)/\vs.length<=i+1/\bI K (bV (mz B D) H2) vs us/\qd aA (D_ T A F (ts.drop (i+1)) Y) (fun ys=>k (us++ys)),
   fun vK H2 h=>⟨ts.length - (i+1),by omega,rfl,f_,h⟩,fun x H2 hx=>?_⟩
  obtain⟨s2,t,et,rt⟩:=gt.Fj i _ H' x H2 f_ jw II hx;have RC:ts[i]=t:=by rw[bQ f_]at et;exact Option.some.inj et
  rw[RC]at q';obtain⟨qS,eT,q1⟩:=Eb (qd.bind q');have no1:=hT t Y qS no eT;refine⟨_,Y,t,II.same s2,rs.same s2,rt,qS,eT,fun MF H3 s3 r3=>?_⟩;have s23:=s2.trans s3;obtain⟨c,eA,qc⟩:=Eb (qd.bind q1);refine⟨_,qS,II.same s23,r3,c,eA,fun H4 s4=>?_⟩;have RD:=s23.trans s4;have g4:ba H H4:=sm.trans RD;cases c with
  |false=>
   exact Rf ⟨g4,II.same RD,jw.trans (bE RD),qS,vs,us,no1,r3.same s4,RD _ _ hd,by omega,rv.same (bE RD),qc⟩
  |true=>
   obtain⟨y,eF,qy⟩:=Eb (qd.bind qc);refine Rg ⟨_,qS,II.same RD,r3.same s4,y,eF,fun v H5 s5 r5=>?_⟩;have V1:=RD.trans s5;refine⟨vs,V1 _ _ hd,by rw[<-iE];omega,(sm.trans V1).Al hD,?_,?_,qS,vs++[v],us++[y],no1,?_,bG,by rw[eP];exact Nat.add_le_add_right hl 1,?_,?_⟩
   ·intro b e;by_cases q:b=D
    ·subst q;exact⟨_,bG⟩
    ·rw[bb q];exact(II.same V1) b e
   ·rw[tM];exact jw.trans (bE V1)
   ·have r5':=(r3.same s4).same s5;refine⟨r5'.len,fun i t e=>?_,fun i ts e=>(no1 i ts e).elim,r5'.ap⟩;rw[tM];exact r5'.sh i t e
   ·rw[tM];exact(rv.same (bE V1)).append (.cons r5 .nil)
   ·exact(qd.bind qy).mono fun ys q=>by rw[wx];exact q
 ·have e:i=ts.length:=by omega
  subst e;rw[oK]at q';refine .inl ⟨gt.stop _ H' jw,hQ us H' (by have:=(show k (us++[])from q');rw[jQ]at this;exact this) sm (.lst ?_ (rv.same Cb))⟩;rw[fL (hb.free hD)];exact hd
variable {scope:Scope}{N':List Str}{ix:List (Option Nat)}{elt c5:Expr}{ifs:List Expr}{T:n6}{W:bO->Rs (List Tr)}
theorem V2:PF X [] (tQ X fun _=>.ok true):=fun U s Z H Q I ⟨B,Y,hb,r,q⟩=>Ri U s Z H Q I (q H (ba.refl H))
theorem V3(h:PT X c (tQ X A)):PF X [c] (tQ X A):=Rj h
theorem Cc{Q:VK}(hT:jx T)(q:tP X (fun Y=>u4 ix T A F (W Y) Y) Z H Q):Uo (tI X W) ix (Pm X.K T) (Pl X.K A) (Pk X.K F) Z H Q:=by
 obtain⟨B,Y,hb,r,q⟩:=q;refine⟨B,Y,hb,r,q.bind.mono fun ts qt J H1 s1 gt D hD=>?_⟩;by_cases hz:ts.length<=e_
 ·rw[aS hz]at qt;exact vN hT (vM ix Y) (hb.same s1) gt hz ((r.same s1).comp ix (kF hD)) hD (Fi.bind qt) fun ys H' k s' rp=>k _ H' (s1.trans s') rp
 ·rw[aW hz]at qt;exact qt.elim
structure Nf(X:Cx)(scope:Scope)(N':List Str)(tg elt:Expr)(ifs:List Expr)(T:n6)(A:bO->Rs Bool)(F:bO->Rs Tr):Prop where
 all:∀s H ex,PG (tH X scope N' s H ex) tg (tG (tH X scope N' s H ex) T)/\PF (tH X scope N' s H ex) ifs (tQ (tH X scope N' s H ex) A)/\PE (tH X scope N' s H ex) elt (tP (tH X scope N' s H ex) F)
theorem Nf.Us {F:bO->Rs Tr}(h:Nf X scope N' tg elt ifs T A F):∀s H ex,PG (tH X scope N' s H ex) tg (Pm X.K T)/\PF (tH X scope N' s H ex) ifs (Pl X.K A)/\PE (tH X scope N' s H ex) elt (Pk X.K F):=fun s H ex=>by
 obtain⟨h1,h2,h3⟩:=h.all s H ex;exact⟨fun U s Z H v u Q I r q=>h1 U s Z H v u Q I r (RB q),fun U s Z H Q I q=>h2 U s Z H Q I (Ry q),fun U s Z H Q I q=>h3 U s Z H Q I (Rx q)⟩
theorem aac(Lk:gz X N' ix scope)(hi:PI X tg c5 (tI X W))(kU:Nf X scope N' tg elt ifs T A F)(hT:jx T)(hc:X.calm=true:=by rfl) (hs:isSet c5=false:=by rfl):
  PE X (.ListComp elt [⟨tg,c5,ifs,0⟩] scope pos) (tP X fun Y=>u4 ix T A F (W Y) Y):=
 (JB Lk hc hi kU.Us (f' hs)).weak fun Z H Q q=>Cc hT q
theorem Ng(Lk:gz X N' ix scope)(hit:PI X tg c5 (tI X W))(kU:Nf X scope N' tg elt ifs T A F)(hT:jx T)(hN:X.N.Nodup:=by assumption) (hc:X.calm=true:=by rfl) (hi:X.N[i]?=some x:=by rfl) (hx:Loc X.env.scope x:=by first|exact Or.inl rfl|exact Or.inr rfl)
  (Ha:swapsWith (.ListComp elt [⟨tg,c5,ifs,0⟩] scope pos) (some (.Name x p)) b8.line X.env=pure true:=by rfl) (hs:isSet c5=false:=by rfl) (hf:yE X x:=by first|exact .inl rfl|exact .inr rfl|assumption):
  PS X (.Assign [.Name x p] (.ListComp elt [⟨tg,c5,ifs,0⟩] scope pos) b8) (tS X fun Y=>JH i (u4 ix T A F (W Y) Y) Y):=
 (xh Lk hc hN hi hx hit kU.Us Ha (f' hs) hf).weak fun D Z H ⟨C,B0,H0,B,Y,si,r,q⟩=>Cc hT (FE (F:=fun Y=>u4 ix T A F (W Y) Y) si r q.bind fun t v H1 qt s1 Hg r1 rv=>qt _ B H1 Hg (r1.set i rv))
def dE(r:Rs Out):Rs Tr:=r.bind fun o=>match o with
 |.nx _=>.ok .cu
 |.ret t=>.ok t
 |_=>.bad
theorem yF.okT {base:Heap}{qual:Str}{f:Addr}{fd:FuncData}{N:List Str}{k:Nat}(Fn:yF K x qual ai f fd)(S:gO N ps (bC ai))(len:∀ts t,h ts=.ok t->ts.length=ps.length)
  (kE:∀(fH:Value) (A:Around) (outer:List Env) (s:Shared) (H:Hp) (E:XK),cV k (A.deeper (envOfC qual (bC ai) s.heap.objs.size f fH))->
   ∃G,n_ (n5 lX P w K mg base N qual (bC ai) f fH A outer s H E).IH (fF ai) (tS (n5 lX P w K mg base N qual (bC ai) f fH A outer s H E).IH G)/\∀ts t,h ts=.ok t->dE (G (startT N.length ts))=.ok t):d5 P w K mg base lX (k+1) f fd ps (spT K h):=by
 refine Fn.ok S (fun vs H Q E q=>?_) (fun fH A outer s H vs Q E hr q=>?_)
 ·obtain⟨B,ts,hb,r,t,e,_⟩:=q;rw[r.length];exact len ts t e
 ·obtain⟨B,ts,hb,r,t,e,q⟩:=q;obtain⟨G,hG,hE⟩:=kE fH A outer s H E hr;refine⟨_,hG,B,B,H,B,startT N.length ts,dZ.refl hb u3.refl,cB.start r,?_⟩;have e1:=hE ts t e;cases eo:G (startT N.length ts)with
  |ok o=>
   rw[eo]at e1;cases o with
   |nx Y=>cases e1;exact fun di B' H' si r'=>q .cu H' si.same .cu
   |ret u=>cases e1;exact fun v B' H' si r'=>q v H' si.same r'
   |_=>cases e1
  |_=>rw[eo]at e1;cases e1
end
theorem Nh:uy X (binaryOp .Add) (fun x y H Q=>∃(a b:Addr) (xs ys:List V),x=.ref a/\y=.ref b/\i7 X.K H a xs/\i7 X.K H b ys/\xs.length+ys.length<=sizeLine/\(xs=[]->Q (.ref b) H)/\(ys=[]->Q (.ref a) H)/\∀p,H p=none->Q (.ref p) (upd H p (.tup (xs++ys)))):=by
 intro U s Z H x y v u Q I rx ry h;obtain⟨a,b,xs,ys,rfl,rfl,ha,hb,hz,q1,q2,q3⟩:=h;by_cases hx:xs=[]
 ·subst hx;cases(show v=Value.ref a from rx);cases(show u=Value.ref b from ry);obtain⟨i1,r1,p1,_⟩:=I.tuple ha;obtain⟨i2,r2,p2,_⟩:=I.tuple hb;cases r1;obtain⟨dd,n,sl,h1⟩:=uD p1;obtain⟨Ue,n2,Yz,h2⟩:=uD p2;exact concat_meets ⟨_,h1,rfl⟩ ⟨_,h2,rfl⟩ noFill_tuple_add seq_tuple_add PySem.F.slot_tuple_add PySem.F.entry_tuple_add (PySem.F.args_tuple_add_2 _ _) (tuple_addW0 a b _ _ n n2 dd Ue sl Yz rfl) ⟨h1,h2,⟨.ref b,H,I,rfl,q1 rfl⟩⟩
 ·exact MP U s Z H _ _ v u Q I rx ry ⟨a,b,xs,ys,rfl,rfl,ha,hb,hx,hz,q2,fun _ p hp=>q3 p hp⟩
theorem Rep.up {v:V}{t:Tr}(r:Rep K (bV B H) v t):Rep K (raw B H) v t:=r.same fj
theorem i7.up {xs:List V}(h:i7 K (bV B H) a xs):i7 K H a xs:=ba.tup bD h
theorem dX{o:HO}(h:bV B H a=some o):H a=some o:=bD _ _ h
theorem Rep.RE {p:Addr}{vs:List V}(hb:HB B H)(hp:H p=none)(r:bI K (bV B H) vs ts):Rep K (bV B (upd H p (.tup vs))) (.ref p) (.tup ts):=.tup (.of (hb.new hp)) (r.same (bE (ba.upd hp)))
theorem Rep.yP {p:Addr}{vs:List V}(hb:HB B H)(hp:H p=none)(r:bI K (bV B H) vs ts):Rep K (bV B (upd H p (.lst vs))) (.ref p) (.lst ts):=.lst (hb.new hp) (r.same (bE (ba.upd hp)))
theorem Cd{H:Vw}(h:bI K H [] ts):ts=[]:=by cases h;rfl
theorem RF(h:x.length+av.length<=cS):(x++av).length<=cS:=by rw[oj];exact h
def yQ:Tr->Tr->Rs Tr
 |.int i,.int j=>.ok (.int (i+j))
 |.str a,.str b=>if a.length+b.length<=cS then .ok (.str (a++b))else .bad
 |.tup a,.tup b=>if a.length+b.length<=e_ then .ok (.tup (a++b))else .bad
 |.lst a,.lst b=>if a.length+b.length<=e_ then .ok (.lst (a++b))else .bad
 |_,_=>.bad
theorem gq{c:Prop}[Decidable c]{t:ag}{k:ag->Prop}(h:Fi X H (if c then Rs.ok t else .bad) k):c/\k t:=by
 by_cases hc:c
 ·rw[aS hc]at h;exact⟨hc,h⟩
 ·rw[aW hc]at h;exact h.elim
theorem hX:Bz X (binaryOp .Add) yQ:=by
 intro U s Z H x y v u Q I rx ry ⟨B,tx,ty,hb,r1,r2,q⟩;unfold yQ at q;split at q
 ·exact Qx U s Z H _ _ v u Q I rx ry ⟨_,_,r1.int_inv,r2.int_inv,q _ H (ba.refl H) (.int _)⟩
 ·have f:=gq q;exact DT U s Z H _ _ v u Q I rx ry ⟨_,_,r1.str_inv.1,r2.str_inv.1,cw f.1 lq,f.2 _ H (ba.refl H) (.str _ (RF f.1))⟩
 ·have f:=gq q;obtain⟨a,as,e1,h1,FL⟩:=r1.dI;obtain⟨b,bs,e2,h2,IJ⟩:=r2.dI;exact Nh U s Z H _ _ v u Q I rx ry ⟨_,_,_,_,e1,e2,h1.up,h2.up,by rw[FL.length,IJ.length,<-iE];exact f.1,fun e=>f.2 _ H (ba.refl H) (by subst e;rw[Cd FL,<-e2];exact r2),fun e=>f.2 _ H (ba.refl H) (by subst e;rw[Cd IJ,jQ,<-e1];exact r1),fun p hp=>f.2 _ _ (ba.upd hp) (.RE hb hp (FL.append IJ))⟩
 ·have f:=gq q;obtain⟨a,as,e1,h1,FL⟩:=r1.lst_inv;obtain⟨b,bs,e2,h2,IJ⟩:=r2.lst_inv;exact Jq U s Z H _ _ v u Q I rx ry ⟨_,_,_,_,e1,e2,dX h1,dX h2,by rw[FL.length,IJ.length,<-iE];exact f.1,fun p hp=>f.2 _ _ (ba.upd hp) (.yP hb hp (FL.append IJ))⟩
 ·exact fe q
def Hk:Tr->Tr->Rs Tr
 |.int i,.int j=>if 0<j then .ok (.int (i % j))else .bad
 |_,_=>.bad
theorem Ce:Bz X (binaryOp .Mod) Hk:=by
 intro U s Z H x y v u Q I rx ry ⟨B,tx,ty,hb,r1,r2,q⟩;unfold Hk at q;split at q
 ·have f:=gq q;exact Qz U s Z H _ _ v u Q I rx ry ⟨_,_,r1.int_inv,r2.int_inv,f.1,f.2 _ H (ba.refl H) (.int _)⟩
 ·exact fe q
def xr(i j:Int):Prop:=(-18446744073709551616<i/\i<18446744073709551616)\/(-18446744073709551616<j/\j<18446744073709551616)
theorem xr.cm {i j:Int}(h:xr i j):Jd i j:=by
 unfold xr at h;unfold Jd;omega
instance (i j:Int):Decidable (xr i j):=by unfold xr;infer_instance
def Hl:Tr->Tr->Rs Tr
 |.int i,.int j=>if xr i j then .ok (.int (i*j))else .bad
 |.str z,.int n=>if 0<=n/\n<=1000/\z.length<=1000 then .ok (.str (Txt.mul z n))else .bad
 |.lst ts,.int n=>if 0<=n/\n<=1000/\ts.length*n.toNat<=e_ then .ok (.lst (List.replicate n.toNat ts).flatten)else .bad
 |_,_=>.bad
theorem Ni:uy X (binaryOp .Mult) (fun x y H Q=>∃(l:Addr) (k:Int) (xs:List V),x=.ref l/\y=.int k/\H l=some (.lst xs)/\-(2 ^63)<=k/\k<2 ^63/\xs.length*k.toNat<=sizeLine/\∀p,H p=none->Q (.ref p) (upd H p (.lst (List.replicate k.toNat xs).flatten))):=Q2
theorem Nj{n:Int}(h0:0<=n)(h1:n<=1000)(hz:x.length<=1000):(Txt.mul x n).length<=cS:=by
 have e:=PyProof.Rows.len_mul x n;split at e
 ·have:((Txt.mul x n).length:Int)=0:=e;unfold cS;omega
 ·have h2:(x.length:Int)*n<=1000*1000:=Int.mul_le_mul (by omega) h1 h0 (by decide);have e':((Txt.mul x n).length:Int)=(x.length:Int)*n:=e;unfold cS;omega
theorem JL:Bz X (binaryOp .Mult) Hl:=by
 intro U s Z H x y v u Q I rx ry ⟨B,tx,ty,hb,r1,r2,q⟩;unfold Hl at q;split at q
 ·have f:=gq q;exact Qy U s Z H _ _ v u Q I rx ry ⟨_,_,r1.int_inv,r2.int_inv,f.1.cm,f.2 _ H (ba.refl H) (.int _)⟩
 ·have f:=gq q;exact M7 U s Z H _ _ v u Q I rx ry ⟨_,_,r1.str_inv.1,r2.int_inv,PyProof.Rows.mulOk_of 1000 1000 f.1.2.2 f.1.2.1 (Int.le_trans (by decide) f.1.1) (by decide) (by decide),f.2 _ H (ba.refl H) (.str _ (Nj f.1.1 f.1.2.1 f.1.2.2))⟩
 ·have f:=gq q;obtain⟨a,as,e1,h1,FL⟩:=r1.lst_inv;exact Ni U s Z H _ _ v u Q I rx ry ⟨_,_,_,e1,r2.int_inv,dX h1,Int.le_trans (by decide) f.1.1,Int.lt_of_le_of_lt f.1.2.1 (by decide),by rw[FL.length,<-iE];exact f.1.2.2,fun p hp=>f.2 _ _ (ba.upd hp) (.yP hb hp (FL.rep _))⟩
 ·exact fe q
mutual
def eqT:Tr->Tr->Bool
 |.cu,.cu=>true
 |.bl a,.bl b=>a==b
 |.bl a,.int b=>(if a then 1 else 0)==b
 |.int a,.bl b=>a==(if b then 1 else 0)
 |.int a,.int b=>a==b
 |.str a,.str b=>a==b
 |.tup a,.tup b=>Ec a b
 |.lst a,.lst b=>Ec a b
 |_,_=>false
def Ec:List Tr->List Tr->Bool
 |[],[]=>true
 |x::xs,y::ys=>eqT x y&&Ec xs ys
 |_,_=>false
end
mutual
def rK:Tr->Bool
 |.cu=>true
 |.bl _=>true
 |.int _=>true
 |.str _=>true
 |.tup ts=>xt ts
 |.lst ts=>xt ts
 |_=>false
def xt:List Tr->Bool
 |[]=>true
 |t::ts=>rK t&&xt ts
end
mutual
def dT:Tr->Nat
 |.tup ts=>RG ts+1
 |.lst ts=>RG ts+1
 |_=>0
def RG:List Tr->Nat
 |[]=>0
 |t::ts=>max (dT t) (RG ts)
end
theorem pv:∀{ts:List Tr},xt ts=true->∀t∈ts,rK t=true
 |[],_,t,h=>nomatch h
 |u::us,h,t,m=>by
  rw[xt,bP]at h;rcases bB.mp m with rfl|m
  ·exact h.1
  ·exact pv h.2 t m
theorem Ar:∀{ts:List Tr},∀t∈ts,dT t<=RG ts
 |[],t,h=>nomatch h
 |u::us,t,m=>by
  rw[RG];rcases bB.mp m with rfl|m
  ·exact Nat.le_max_left _ _
  ·exact cw (Ar t m) (Nat.le_max_right _ _)
theorem Cf:∀(xs ys:List Tr),((List.range (min xs.length ys.length)).all (fun j=>eqT (xs.getD j .cu) (ys.getD j .cu))&&xs.length==ys.length)=Ec xs ys
 |[],[]=>rfl
 |[],y::ys=>rfl
 |x::xs,[]=>rfl
 |x::xs,y::ys=>by
  have ih:=Cf xs ys;rw[Ec,<-ih,dg,dg,Nat.succ_min_succ,List.range_succ_eq_map,hV,oX,Bool.and_assoc];congr 1;have e1:(xs.length+1==ys.length+1)=(xs.length==ys.length):=by rw[sF,eV,eV];omega
  rw[e1]
  rfl
theorem Nk{u:Value}{k:Bool}(hv:∀b t,af≠Value.float b t)(hs:af=u->k=true)(h:SeqAt.RcAt A s af u k):SeqAt.EqAt A s af u k:=fun prog w E Q hq=>by
 unfold eqBool;refine fi ?_
 refine me (fun Ed=>?_) (fun _=>?_)
 ·rw[hs (eq_of_beq Ed)]at hq;exact aP (fo (a_ hq))
 ·cases af with
  |float b t=>exact absurd rfl (hv b t)
  |_=>exact aP (h prog w E _ (oM hq))
section
variable {qT:Addr->Option Nat}
theorem u5(I:Inv X U Z H s){ws:List V}(h1:i7 X.K H a ar)(h2:H a=some (.lst ws)):False:=by
 obtain⟨_,_,⟨o,e,c,_⟩,_⟩:=I.tuple h1;obtain⟨_,cc,n,_,e2⟩:=I.cP a _ h2;rw[e]at e2;cases e2;exact absurd c (by show¬(Value.type "list"=.type "tuple");decide+kernel)
def vT:V->Tr
 |.cu=>.cu
 |.bl b=>.bl b
 |.int i=>.int i
 |.str z=>.str z
 |_=>.at 0
theorem pw{W:Vw}{x:V}{t:Tr}(r:Rep K W x t)(p:rK t=true):(∃ts,t=.tup ts)\/(∃ts,t=.lst ts)\/t=vT x:=by
 cases r<;>first|(cases p;done)|exact .inr (.inr rfl)|exact .inl ⟨_,rfl⟩|exact .inr (.inl ⟨_,rfl⟩)
theorem tN{W:Vw}{x:V}{t':Tr}(e:aB=vT x)(p:rK aB=true)(p':rK t'=true)(r':Rep K W x t'):aB=t':=by
 rcases pw r' p' with⟨ts,rfl⟩|⟨ts,rfl⟩|e'
 ·obtain⟨a,_,rfl,_⟩:=r'.dI;rw[e]at p;cases p
 ·obtain⟨a,_,rfl,_⟩:=r'.lst_inv;rw[e]at p;cases p
 ·rw[e,e']
theorem Nl(I:Inv X U Z H s):∀(n:Nat) {x:V} {t t':Tr},dT t<=n->rK t=true->rK t'=true->Rep X.K (⟨H,qT⟩:Vw) x t->Rep X.K (⟨H,qT⟩:Vw) x t'->t=t':=by
 intro n
 induction n with
 |zero=>
  intro x t t' hd p p' r r';rcases pw r p with⟨ts,rfl⟩|⟨ts,rfl⟩|e
  ·exact absurd hd (Nat.not_succ_le_zero _)
  ·exact absurd hd (Nat.not_succ_le_zero _)
  ·exact tN e p p' r'
 |succ n ih=>
  intro x t t' hd p p' r r';have go:∀{vs:List V} {ts zl:List Tr},RG ts<=n->xt ts=true->xt zl=true->bI X.K (⟨H,qT⟩:Vw) vs ts->bI X.K (⟨H,qT⟩:Vw) vs zl->ts=zl:=by
   intro vs ts zl k1 k2 k3;have h1:=fun t m=>cw (Ar (ts:=ts) t m) k1;have h2:=pv k2;have h3:=pv k3
   clear hd p p' r r' k1 k2 k3
   induction vs generalizing ts zl with
   |nil=>intro q q';cases q;cases q';rfl
   |cons v vs ihv=>
    intro(.cons qh qr) (.cons qh' qr');rw[List.forall_mem_cons]at h1 h2 h3;rw[ih h1.1 h2.1 h3.1 qh qh',ihv h1.2 h2.2 h3.2 qr qr']
  rcases pw r p with⟨ts,rfl⟩|⟨ts,rfl⟩|e
  ·rcases pw r' p' with⟨zl,rfl⟩|⟨zl,rfl⟩|e
   ·obtain⟨a,vs,rfl,h,rr⟩:=r.dI;obtain⟨_,Nm,e,h',Cg⟩:=r'.dI;cases e;cases I.qa h h';rw[go (we hd) p p' rr Cg]
   ·obtain⟨a,vs,rfl,h,rr⟩:=r.dI;obtain⟨_,Nm,e,h',Cg⟩:=r'.lst_inv;cases e;exact(u5 I h h').elim
   ·exact(tN e p' p r).symm
  ·rcases pw r' p' with⟨zl,rfl⟩|⟨zl,rfl⟩|e
   ·obtain⟨a,vs,rfl,h,rr⟩:=r.lst_inv;obtain⟨_,Nm,e,h',Cg⟩:=r'.dI;cases e;exact(u5 I h' h).elim
   ·obtain⟨a,vs,rfl,h,rr⟩:=r.lst_inv;obtain⟨_,Nm,e,h',Cg⟩:=r'.lst_inv;cases e;cases h.symm.trans h';rw[go (we hd) p p' rr Cg]
   ·exact(tN e p' p r).symm
  ·exact tN e p p' r'
mutual
theorem Ci:∀{t:Tr},rK t=true->eqT t t=true
 |.cu,_=>rfl
 |.bl b,_=>by rw[eqT];exact bX b
 |.int i,_=>by rw[eqT];exact bX i
 |.str z,_=>by rw[eqT];exact bX z
 |.tup ts,h=>by rw[eqT];rw[rK]at h;exact uE h
 |.lst ts,h=>by rw[eqT];rw[rK]at h;exact uE h
 |.ty _,h=>by cases h
 |.uZ _,h=>by cases h
 |.bT _,h=>by cases h
 |.at _,h=>by cases h
 |.u0 _,h=>by cases h
 |.ob _ _,h=>by cases h
 |.zd _,h=>by cases h
theorem uE:∀{ts:List Tr},xt ts=true->Ec ts ts=true
 |[],_=>rfl
 |t::ts,h=>by
  rw[xt,bP]at h;rw[Ec,Ci h.1,uE h.2]
  rfl
end
theorem FN{l:List ag}{x d:ag}(h:l[i]?=some x):l.getD i d=x:=by rw[d_,h];rfl
inductive Sh(K:Frag)(G:Vw)(h:Heap):Tr->Value->Prop
 |cu:Sh K G h .cu .none
 |bl (b:Bool):Sh K G h (.bl b) (.bool b)
 |int (b:Int) (w:Tok):Sh K G h (.int b) (.int b w)
 |str (b:Str) (w:Tok):Sh K G h (.str b) (.str b w)
 |tup {a:Addr} {vs:List V} {ts:List Tr} {us:List Value} (q:h.IsTuple a us.toArray) (rr:bI K G vs ts) (rv:Vals vs us):Sh K G h (.tup ts) (.ref a)
 |lst {a:Addr} {vs:List V} {ts:List Tr} {us:List Value} (q:h.IsList a us.toArray) (rr:bI K G vs ts) (rv:Vals vs us):Sh K G h (.lst ts) (.ref a)
theorem As(I:Inv X U Z H s){x:V}{v:Value}{t:Tr}(p:rK t=true)(r:Rep X.K (⟨H,qT⟩:Vw) x t)(rx:RelV x v):Sh X.K ⟨H,qT⟩ s.heap t v:=by
 cases r with
 |cu=>cases(show v=Value.none from rx);exact .cu
 |bl b=>cases(show v=Value.bool b from rx);exact .bl b
 |int b=>obtain⟨w,rfl⟩:=(show∃t,v=Value.int b t from rx);exact .int b w
 |str b _=>obtain⟨w,rfl⟩:=(show∃t,v=Value.str b t from rx);exact .str b w
 |@tup a _ _ h rr=>cases(show v=Value.ref a from rx);obtain⟨_,rv,q,_⟩:=I.tuple h;exact .tup q rr rv
 |@lst a _ _ h rr=>cases(show v=Value.ref a from rx);obtain⟨_,rv,q,_⟩:=I.list (.of h);exact .lst q.isList rr rv
 |_=>cases p
theorem FO(I:Inv X U Z H s)(n:Nat){x y:V}{u:Value}{t:Tr}(hd:dT t<=n)(p:rK t=true)(p':rK aB=true)(r:Rep X.K (⟨H,qT⟩:Vw) x t)(r':Rep X.K (⟨H,qT⟩:Vw) y aB)(rx:RelV x af)(ry:RelV y u)(q:SeqAt.RcAt A s af u (eqT t aB)):SeqAt.EqAt A s af u (eqT t aB):=by
 refine Nk (fun b t e=>?_) (fun e=>?_) q
 ·subst e;cases r<;>first|(obtain⟨_,z⟩:=rx;cases z;done)|(cases rx;done)
 subst e;rw[rx.inj ry]at r;rw[<-Nl I n hd p p' r r'];exact Ci p
theorem FP{G:Vw}{A:Around}{u:Value}{t:Tr}(S:Sh K G s.heap t af)(S':Sh K G s.heap aB u)(hu:A.units<cLine):(SeqAt.RcAt A s af u (eqT t aB)/\SeqAt.RcNeAt A s af u (!eqT t aB))\/∃ts zl,(t=.tup ts/\aB=.tup zl)\/(t=.lst ts/\aB=.lst zl):=by
 cases S<;>cases S'<;>first|exact .inr ⟨_,_,.inl ⟨rfl,rfl⟩⟩|exact .inr ⟨_,_,.inr ⟨rfl,rfl⟩⟩|(refine .inl ⟨?_,?_⟩<;>simp only[eqT,eR,dz]<;>with_reducible first|exact .none_none|exact .none_bool _|exact .none_int _ _|exact .none_str _ _|exact .none_tuple ‹_› hu|exact .none_list ‹_› hu|exact .bool_none _|exact .bool_bool _ _|exact .bool_int _ _ _|exact .bool_str _ _ _|exact .bool_tuple _ ‹_› hu|exact .bool_list _ ‹_› hu|exact .int_none _ _|exact .int_bool _ _ _|exact .int_int _ _ _ _|exact .int_str _ _ _ _|exact .int_tuple _ _ ‹_› hu|exact .int_list _ _ ‹_› hu|exact .str_none _ _|exact .str_bool _ _ _|exact .str_int _ _ _ _|exact .str_str _ _ _ _|exact .str_tuple _ _ ‹_› hu|exact .str_list _ _ ‹_› hu|exact .tuple_none ‹_› hu|exact .tuple_bool _ ‹_› hu|exact .tuple_int _ _ ‹_› hu|exact .tuple_str _ _ ‹_› hu|exact .tuple_list ‹_› ‹_› hu|exact .list_none ‹_› hu|exact .list_bool _ ‹_› hu|exact .list_int _ _ ‹_› hu|exact .list_str _ _ ‹_› hu|exact .list_tuple ‹_› ‹_› hu)
theorem RH(I:Inv X U Z H s):∀(n:Nat) {A:Around} {x y:V} {v u:Value} {t t':Tr},dT t<=n->rK t=true->rK t'=true->Rep X.K (⟨H,qT⟩:Vw) x t->Rep X.K (⟨H,qT⟩:Vw) y t'->RelV x v->RelV y u->A.units+n<cLine->SeqAt.RcAt A s v u (eqT t t')/\SeqAt.RcNeAt A s v u (!eqT t t'):=by
 intro n
 induction n with
 |zero=>
  intro A x y v u t t' hd p p' r r' rx ry hu;rcases FP (As I p r rx) (As I p' r' ry) (A:=A) (by omega)with h|⟨_,_,⟨rfl,_⟩|⟨rfl,_⟩⟩
  ·exact h
  all_goals exact absurd hd (by rw[dT];omega)
 |succ n ih=>
  intro A x y v u t t' hd p p' r r' rx ry hu;have hv:A.units<cLine:=by omega
  have a8:∀{vs Nm:List V} {us Ee:List Value} {ts zl:List Tr},RG ts<=n->xt ts=true->xt zl=true->bI X.K (⟨H,qT⟩:Vw) vs ts->bI X.K (⟨H,qT⟩:Vw) Nm zl->Vals vs us->Vals Nm Ee->∀(j:Nat) (h1:j<us.toArray.size) (h2:j<Ee.toArray.size),
    SeqAt.EqAt A.in1 s us.toArray[j] Ee.toArray[j] (eqT (ts.getD j .cu) (zl.getD j .cu)):=by
   intro vs Nm us Ee ts zl d1 q1 q2 rr Cg rv Hm j h1 h2;replace h1:j<us.length:=h1;replace h2:j<Ee.length:=h2;have k1:=bQ (Nat.lt_of_lt_of_eq h1 rv.length.symm);have k2:=bQ (Nat.lt_of_lt_of_eq h2 Hm.length.symm);obtain⟨t1,e1,p1⟩:=rr.xi k1;obtain⟨t2,e2,p2⟩:=Cg.xi k2;obtain⟨w1,f1,g1⟩:=rv.get k1;obtain⟨w2,f2,g2⟩:=Hm.get k2;rw[bQ h1]at f1;rw[bQ h2]at f2;rw[List.getElem_toArray,List.getElem_toArray,Option.some.inj f1,Option.some.inj f2,FN e1,FN e2];have m1:=dS e1;have q2:=pv q2 _ (dS e2);have q1:=pv q1 _ m1;have d:=cw (Ar _ m1) d1;exact FO I n d q1 q2 p1 p2 g1 g2 (ih d q1 q2 p1 p2 g1 g2 (by show A.units+1+n<cLine;omega)).1
  have S:=As I p r rx;have S':=As I p' r' ry;rcases FP S S' hv with h|⟨ts,zl,⟨rfl,rfl⟩|⟨rfl,rfl⟩⟩
  ·exact h
  all_goals
   rw[dT]at hd;have it:=fun{vs Nm us Ee}=>@a8 vs Nm us Ee _ _ (Nat.le_of_add_le_add_right hd) p p';have e:=Cf ts zl;rw[eqT]
  ·cases S with|tup q rr rv=>
   cases S' with|tup q' Cg Hm=>
   rw[<-e,<-rr.length,<-Cg.length,rv.length,Hm.length];exact⟨.tuples q q' hv (it rr Cg rv Hm),.tuples q q' hv (it rr Cg rv Hm)⟩
  cases S with|lst q rr rv=>
  cases S' with|lst q' Cg Hm=>
  have l:=rr.length;have l':=Cg.length;rw[rv.length]at l;rw[Hm.length]at l';by_cases hz:ts.length=zl.length
  ·rw[hz,Nat.min_self,bX,Bool.and_true,<-hz,<-l]at e;rw[<-e];exact⟨.lists q q' (by simp;omega) hv (it rr Cg rv Hm),.lists q q' (by simp;omega) hv (it rr Cg rv Hm)⟩
  ·rw[jT hz,wJ]at e;rw[<-e];exact⟨.lists_lengths q q' (by simp;omega) hv,.lists_lengths q q' (by simp;omega) hv⟩
end
def eqC(a b:Tr):Rs Tr:=if rK a=true/\rK b=true/\dT a<=40 then .ok (.bl (eqT a b))else .bad
theorem dO(hu:X.A.units+40<cLine):Bz X (compareOp .Eq) eqC:=by
 intro U s Z H x y v u Q I rx ry ⟨B,tx,ty,hb,r1,r2,q⟩;obtain⟨⟨p1,p2,hd⟩,k⟩:=gq q;exact(RH I 40 hd p1 p2 r1.up r2.up rx ry hu).1 _ _ _ _ ⟨.bl _,H,I,rfl,k _ H (ba.refl H) (.bl _)⟩
section
variable {qT:Addr->Option Nat}
theorem JM(I:Inv X U Z H s)(n:Nat){x y:V}{u:Value}{t:Tr}(hd:dT t<=n)(p:rK t=true)(p':rK aB=true)(r:Rep X.K (⟨H,qT⟩:Vw) x t)(r':Rep X.K (⟨H,qT⟩:Vw) y aB)(rx:RelV x af)(ry:RelV y u)(hu:A.units+n<cLine):SeqAt.EqAt A s af u (eqT t aB):=
 FO I n hd p p' r r' rx ry (RH I n hd p p' r r' rx ry hu).1
end
def My(a b:Tr):Rs Tr:=if rK a=true/\rK b=true/\dT a<=40 then .ok (.bl (!eqT a b))else .bad
theorem Hn(hu:X.A.units+40<cLine):Bz X (compareOp .NotEq) My:=by
 intro U s Z H x y v u Q I rx ry ⟨B,tx,ty,hb,r1,r2,q⟩;obtain⟨⟨p1,p2,hd⟩,k⟩:=gq q;exact(RH I 40 hd p1 p2 r1.up r2.up rx ry hu).2 _ _ _ _ ⟨.bl _,H,I,rfl,k _ H (ba.refl H) (.bl _)⟩
def ltC:Tr->Tr->Rs Tr
 |.int i,.int j=>.ok (.bl (decide (i<j)))
 |.str a,.str b=>.ok (.bl (decide (a.cps.toList<b.cps.toList)))
 |_,_=>.bad
def leC:Tr->Tr->Rs Tr
 |.int i,.int j=>.ok (.bl (decide (i<=j)))
 |.str a,.str b=>.ok (.bl (!(decide (b.cps.toList<a.cps.toList))))
 |_,_=>.bad
def gtC:Tr->Tr->Rs Tr
 |.int i,.int j=>.ok (.bl (decide (j<i)))
 |_,_=>.bad
def geC:Tr->Tr->Rs Tr
 |.int i,.int j=>.ok (.bl (decide (j<=i)))
 |_,_=>.bad
theorem Nn:Bz X (compareOp .Lt) ltC:=by
 intro U s Z H x y v u Q I rx ry ⟨B,tx,ty,hb,r1,r2,q⟩;unfold ltC at q;split at q
 ·exact U5 U s Z H _ _ v u Q I rx ry ⟨_,_,r1.int_inv,r2.int_inv,q _ H (ba.refl H) (.bl _)⟩
 ·exact G3 U s Z H _ _ v u Q I rx ry ⟨_,_,r1.str_inv.1,r2.str_inv.1,q _ H (ba.refl H) (.bl _)⟩
 ·exact fe q
theorem aad:Bz X (compareOp .LtE) leC:=by
 intro U s Z H x y v u Q I rx ry ⟨B,tx,ty,hb,r1,r2,q⟩;unfold leC at q;split at q
 ·exact U6 U s Z H _ _ v u Q I rx ry ⟨_,_,r1.int_inv,r2.int_inv,q _ H (ba.refl H) (.bl _)⟩
 ·exact Hb U s Z H _ _ v u Q I rx ry ⟨_,_,r1.str_inv.1,r2.str_inv.1,q _ H (ba.refl H) (.bl _)⟩
 ·exact fe q
theorem RI:Bz X (compareOp .Gt) gtC:=by
 intro U s Z H x y v u Q I rx ry ⟨B,tx,ty,hb,r1,r2,q⟩;unfold gtC at q;split at q
 ·exact U7 U s Z H _ _ v u Q I rx ry ⟨_,_,r1.int_inv,r2.int_inv,q _ H (ba.refl H) (.bl _)⟩
 ·exact fe q
theorem V4:Bz X (compareOp .GtE) geC:=by
 intro U s Z H x y v u Q I rx ry ⟨B,tx,ty,hb,r1,r2,q⟩;unfold geC at q;split at q
 ·exact U8 U s Z H _ _ v u Q I rx ry ⟨_,_,r1.int_inv,r2.int_inv,q _ H (ba.refl H) (.bl _)⟩
 ·exact fe q
def YW:Tr->Bool
 |.cu=>true
 |_=>false
theorem FQ{H:Vw}{x:V}{t:Tr}(r:Rep K H x t):decide (x=.cu)=YW t:=by
 cases r<;>rfl
def FR:Tr->Tr->Rs Tr
 |a,.cu=>.ok (.bl (YW a))
 |.bl a,.bl b=>.ok (.bl (a==b))
 |_,_=>.bad
theorem Cj:Bz X (compareOp .Is) FR:=by
 intro U s Z H x y v u Q I rx ry ⟨B,tx,ty,hb,r1,r2,q⟩;unfold FR at q;split at q
 ·exact QH U s Z H _ _ v u Q I rx ry ⟨r2.M8,by rw[FQ r1];exact q _ H (ba.refl H) (.bl _)⟩
 ·exact Rm U s Z H _ _ v u Q I rx ry ⟨_,_,r1.xn,r2.xn,q _ H (ba.refl H) (.bl _)⟩
 ·exact fe q
def eN(bt:List (Key×Tr))(k:Key):Option Tr:=(bt.find? fun kv=>decide (kv.1=k)).map (·.2)
def jW:Tr->Option Key
 |.int i=>some (.inl i)
 |.str z=>some (.inr z)
 |_=>none
theorem m_{H:Vw}{x:V}{k:Key}(r:Rep K H x aB)(e:jW aB=some k):x=kV k:=by
 cases r with
 |int i=>cases e;rfl
 |str z h=>cases e;rfl
 |_=>cases e
theorem qg{H:Vw}(k:Key):∀{kvs:List (Key×V)} {bt:List (Key×Tr)},kvs.map (·.1)=bt.map (·.1)->bI K H (kvs.map (·.2)) (bt.map (·.2))->(eN bt k=none/\mv kvs k=none)\/∃t v,eN bt k=some t/\mv kvs k=some v/\Rep K H v t
 |[],[],_,_=>.inl ⟨rfl,rfl⟩
 |[],_::_,e,_=>by cases e
 |_::_,[],e,_=>by cases e
 |(k1,v1)::kvs,(k2,t2)::bt,e,r=>by
  rw[bH,bH]at e;injection e with e1 e2
  have Np:k1=k2:=e1;subst Np;cases r with
  |cons h r=>
   by_cases q:k1=k
   ·refine .inr ⟨t2,v1,?_,sZ q,h⟩;unfold eN;rw[jR,iY (show(k1,t2).1=k from q)]
    rfl
   ·rw[s_ q];have e3:eN ((k1,t2)::bt) k=eN bt k:=by
     unfold eN;rw[jR,fh (show¬(k1,t2).1=k from q)]
    rw[e3];exact qg k e2 r
theorem xu{H:Vw}{y:V}{t:Tr}{k:Key}(h:Rd H.H a (.dK kvs))(e:kvs.map (·.1)=aF.map (·.1))(r:bI K H (kvs.map (·.2)) (aF.map (·.2)))(ry:Rep K H y t)(hk:jW t=some k):
  ∃o,pf H a y o/\((eN aF k=none/\o=none)\/∃t v,eN aF k=some t/\o=some v/\Rep K H v t):=by
 have e1:=m_ ry hk;subst e1;refine⟨_,.inl ⟨kvs,k,h,rfl,rfl⟩,?_⟩;rcases qg k e r with⟨h1,h2⟩|⟨t,v,h1,h2,h3⟩
 ·exact .inl ⟨h1,h2⟩
 ·exact .inr ⟨t,v,h1,h2,h3⟩
def yG:Tr->Bool
 |.cu=>true
 |.bl _=>true
 |.int _=>true
 |.str _=>true
 |_=>false
def eU(x:Tr)(u:Value):Bool:=match u with
 |.none=>eqT .cu x
 |.bool b=>eqT (.bl b) x
 |.int i _=>eqT (.int i) x
 |.str z _=>eqT (.str z) x
 |_=>false
theorem Ef{H:Vw}{y:V}{t x:Tr}(r:Rep K H y t)(f:yG t=true)(ry:RelV y af):eU x af=eqT t x:=by
 cases r with
 |cu=>cases(show af=Value.none from ry);rfl
 |bl b=>cases(show af=Value.bool b from ry);rfl
 |int i=>obtain⟨w,rfl⟩:=(show∃t,af=Value.int i t from ry);rfl
 |str z _=>obtain⟨w,rfl⟩:=(show∃t,af=Value.str z t from ry);rfl
 |_=>cases f
theorem xw{H:Vw}{x:Tr}:∀{vs:List V} {ts:List Tr} {us:List Value},bI K H vs ts->ts.all yG=true->Vals vs us->us.any (eU x)=ts.any fun y=>eqT y x
 |[],_,_,r,_,rv=>by cases r;cases rv;rfl
 |_::_,_,_,r,f,rv=>by
  cases r with
  |cons h r=>
   cases rv with
   |cons h1 rv=>
    rw[hV,bP]at f;rw[iZ,iZ,Ef h f.1 h1,xw r f.2 rv]
theorem Nq{t:Tr}(f:yG t=true):dT t<=0/\rK t=true:=by cases t<;>first|exact⟨bu _,rfl⟩|cases f
theorem px{qT:Addr->Option Nat}{A:Around}{x:V}{t:Tr}{v:Value}(I:Inv X U Z H s)(hu:A.units<cLine)(rx:Rep X.K (⟨H,qT⟩:Vw) x t)(p:rK t=true)(rv:RelV x v):∀{vs:List V} {ts:List Tr} {us:List Value},bI X.K (⟨H,qT⟩:Vw) vs ts->ts.all yG=true->Vals vs us->∀u∈us,SeqAt.EqAt A s u v (eU t u)
 |[],_,_,r,_,q=>fun u m=>by cases q;cases m
 |_::_,_,_,r,f,q=>fun u m=>by
  cases r with
  |cons h r=>
   cases q with
   |cons h1 q=>
    rw[hV,bP]at f;rcases bB.mp m with rfl|m
    ·rw[Ef h f.1 h1];obtain⟨d0,p0⟩:=Nq f.1;exact JM I 0 d0 p0 p h rx h1 rv hu
    ·exact px I hu rx p rv r f.2 q u m
def JN(x:Tr)(ts:List Tr):Rs Bool:=if rK x=true/\ts.all yG=true then .ok (ts.any fun y=>eqT y x)else .bad
def Ho:Tr->Tr->Rs Tr
 |x,.tup ts=>Rr (JN x ts)
 |x,.lst ts=>Rr (JN x ts)
 |x,.bT bt=>match jW x with
  |some k=>.ok (.bl (eN bt k).isSome)
  |none=>.bad
 |.str i,.str j=>.ok (.bl (!(Builtin.Str.occurrences j i 0 j.length 1).isEmpty))
 |_,_=>.bad
def Nr:Tr->Tr->Rs Tr
 |x,.tup ts=>Rr (He (JN x ts))
 |x,.lst ts=>Rr (He (JN x ts))
 |x,.bT bt=>match jW x with
  |some k=>.ok (.bl (!(eN bt k).isSome))
  |none=>.bad
 |.str i,.str j=>.ok (.bl (!(!(Builtin.Str.occurrences j i 0 j.length 1).isEmpty)))
 |_,_=>.bad
theorem vO{k:Bool->Prop}(q:Fi X H (JN aB ts) k):rK aB=true/\ts.all yG=true/\k (ts.any fun y=>eqT y aB):=by
 unfold JN at q;split at q
 ·rename_i h;exact⟨h.1,h.2,q⟩
 ·exact q.elim
theorem FT{x y:V}{k:Key}(r:Rep K (bV B H) y (.bT aF))(r1:Rep K (bV B H) x aB)(ek:jW aB=some k):∃a,y=.ref a/\∃o,pf H a x o/\o.isSome=(eN aF k).isSome:=by
 cases r with
 |bT h e rr=>
  obtain⟨o,g,ho⟩:=xu (H:=raw _ _) (h.same bD) e (rr.same fj) r1.up ek;refine⟨_,rfl,o,g,?_⟩;rcases ho with⟨h1,rfl⟩|⟨_,_,h1,rfl,_⟩
  ·rw[h1];rfl
  ·rw[h1];rfl
theorem nc(hu:X.A.units+1<cLine):Bz X (compareOp .In) Ho:=by
 intro U s Z H x y v u Q I rx ry ⟨B,tx,ty,hb,r1,r2,q⟩;unfold Ho at q;split at q
 ·have f:=vO (Fi.bind q);obtain⟨a,vs,rfl,h,rr⟩:=r2.dI;cases(show u=Value.ref a from ry);obtain⟨cc,rv,pl,_⟩:=I.tuple h.up;refine SeqAt.in_tupleAt (eU tx) pl (fun w hw=>px I hu r1.up f.1 rx (rr.same fj) f.2.1 rv w (by simpa using hw)) ⟨.bl _,H,I,rfl,?_⟩;rw[show cc.toArray.any (eU tx)=cc.any (eU tx) by simp,xw rr f.2.1 rv];exact f.2.2 _ H (ba.refl H) (.bl _)
 ·have f:=vO (Fi.bind q);obtain⟨a,vs,rfl,h,rr⟩:=r2.lst_inv;cases(show u=Value.ref a from ry);obtain⟨cc,rv,pl,_⟩:=I.list (.of (dX h));refine SeqAt.in_listAt (eU tx) pl.isList (fun w hw=>px I hu r1.up f.1 rx (rr.same fj) f.2.1 rv w (by simpa using hw)) ⟨.bl _,H,I,rfl,?_⟩;rw[show cc.toArray.any (eU tx)=cc.any (eU tx) by simp,xw rr f.2.1 rv];exact f.2.2 _ H (ba.refl H) (.bl _)
 ·split at q
  ·rename_i ek;obtain⟨a,rfl,g⟩:=FT r2 r1 ek;cases(show u=Value.ref a from ry);obtain⟨o,g,eo⟩:=g;refine ZZ hu I g rx fun s' I'=>⟨.bl _,H,I',rfl,?_⟩;rw[eo];exact q _ H (ba.refl H) (.bl _)
  ·exact fe q
 ·exact G4 U s Z H _ _ v u Q I rx ry ⟨_,_,r1.str_inv.1,r2.str_inv.1,q _ H (ba.refl H) (.bl _)⟩
 ·exact fe q
theorem tR(hu:X.A.units+1<cLine):Bz X (compareOp .NotIn) Nr:=by
 intro U s Z H x y v u Q I rx ry ⟨B,tx,ty,hb,r1,r2,q⟩;unfold Nr at q;split at q
 ·have f:=vO (Fi.bind (Fi.bind q));obtain⟨a,vs,rfl,h,rr⟩:=r2.dI;cases(show u=Value.ref a from ry);obtain⟨cc,rv,pl,_⟩:=I.tuple h.up;refine SeqAt.notIn_tupleAt (eU tx) pl (fun w hw=>px I hu r1.up f.1 rx (rr.same fj) f.2.1 rv w (by simpa using hw)) ⟨.bl _,H,I,rfl,?_⟩;rw[show cc.toArray.any (eU tx)=cc.any (eU tx) by simp,xw rr f.2.1 rv];exact f.2.2 _ H (ba.refl H) (.bl _)
 ·have f:=vO (Fi.bind (Fi.bind q));obtain⟨a,vs,rfl,h,rr⟩:=r2.lst_inv;cases(show u=Value.ref a from ry);obtain⟨cc,rv,pl,_⟩:=I.list (.of (dX h));refine SeqAt.notIn_listAt (eU tx) pl.isList (fun w hw=>px I hu r1.up f.1 rx (rr.same fj) f.2.1 rv w (by simpa using hw)) ⟨.bl _,H,I,rfl,?_⟩;rw[show cc.toArray.any (eU tx)=cc.any (eU tx) by simp,xw rr f.2.1 rv];exact f.2.2 _ H (ba.refl H) (.bl _)
 ·split at q
  ·rename_i ek;obtain⟨a,rfl,g⟩:=FT r2 r1 ek;cases(show u=Value.ref a from ry);obtain⟨o,g,eo⟩:=g;refine MW hu I g rx fun s' I'=>⟨.bl _,H,I',rfl,?_⟩;rw[eo];exact q _ H (ba.refl H) (.bl _)
  ·exact fe q
 ·exact Ad U s Z H _ _ v u Q I rx ry ⟨_,_,r1.str_inv.1,r2.str_inv.1,q _ H (ba.refl H) (.bl _)⟩
 ·exact fe q
def kS{α:Type}:Option α->Rs α
 |some a=>.ok a
 |none=>.bad
def jI:Tr->Tr->Rs Tr
 |.tup ts,.int i=>kS (uC ts i)
 |.lst ts,.int i=>kS (uC ts i)
 |.str z,.int i=>(kS (uC z.cps.toList i)).bind fun c=>.ok (.str ⟨#[c]⟩)
 |.uZ ns,.int i=>(kS (uC ns i)).bind fun n=>.ok (.int n)
 |.bT bt,t=>(kS (jW t)).bind fun k=>kS (eN bt k)
 |_,_=>.bad
theorem bI.uC {H:Vw}{vs:List V}{i:Int}{t:Tr}(r:bI K H vs ts)(e:L2.uC ts i=some t):∃v,L2.uC vs i=some v/\Rep K H v t:=by
 unfold L2.uC at e⊢;rw[r.length];cases q:Mi ts.length i with
 |none=>rw[q]at e;cases e
 |some j=>
  rw[q]at e;obtain⟨v,e1,r1⟩:=r.get (show ts[j]?=some t from e);exact⟨v,e1,r1⟩
theorem gc{X:Cx}{H:Hp}{o:Option ag}{k:ag->Prop}(h:Fi X H (kS o) k):∃a,o=some a/\k a:=by
 cases o with
 |none=>exact h.elim
 |some a=>exact⟨a,rfl,h⟩
section
variable {b:Expr}
theorem Nt{β:Type}(f:ag->β)(xs:List ag)(i:Int):L2.uC (xs.map f) i=(L2.uC xs i).map f:=by
 unfold L2.uC;rw[bj];cases Mi xs.length i with
 |none=>rfl
 |some j=>show(xs.map f)[j]?=_;rw[bW];rfl
theorem Nu(c:Nat):(⟨#[c]⟩:Str).length<=cS:=by show 1<=cS;decide
theorem Nv{x y:V}{t:Tr}{k:Key}(r:Rep K (bV B H) x (.bT aF))(r2:Rep K (bV B H) y aB)(ek:jW aB=some k)(et:eN aF k=some t):∃tg w,x=.ref tg/\pf H tg y (some w)/\Rep K (bV B H) w t:=by
 obtain⟨tg,kvs,e0,h,e,rr⟩:=r.m8;refine⟨tg,?_⟩;rcases qg k e rr with⟨h1,_⟩|⟨t',w,h1,h2,h3⟩
 ·cases et.symm.trans h1
 ·cases et.symm.trans h1;exact⟨w,e0,.inl ⟨kvs,k,h.same bD,m_ r2 ek,h2.symm⟩,h3⟩
theorem V5(hu:X.A.units+1<cLine):Vh X (rT X jI):=by
 intro value slice U s Z H x y v u Q I rx ry ⟨B,tx,ty,hb,r1,r2,q⟩ hs;unfold jI at q;split at q
 ·obtain⟨tg,vs,e,h,rr⟩:=r1.dI;obtain⟨t,et,k⟩:=gc q;obtain⟨w,ew,o9⟩:=rr.uC et;exact QY value slice U s Z H _ _ v u Q I rx ry ⟨_,_,_,w,e,r2.int_inv,h.up,ew,k w H (ba.refl H) o9⟩ hs
 ·obtain⟨tg,vs,e,h,rr⟩:=r1.lst_inv;obtain⟨t,et,k⟩:=gc q;obtain⟨w,ew,o9⟩:=rr.uC et;exact Fp value slice U s Z H _ _ v u Q I rx ry ⟨_,_,_,w,e,r2.int_inv,.of (dX h),ew,k w H (ba.refl H) o9⟩ hs
 ·obtain⟨c,et,k⟩:=gc (Fi.bind q);exact QZ value slice U s Z H _ _ v u Q I rx ry ⟨_,_,c,r1.str_inv.1,r2.int_inv,cw r1.str_inv.2 lq,et,k _ H (ba.refl H) (.str _ (Nu c))⟩ hs
 ·obtain⟨n,et,k⟩:=gc (Fi.bind q);obtain⟨tg,e,h⟩:=r1.FC;exact Fp value slice U s Z H _ _ v u Q I rx ry ⟨_,_,_,.int n,e,r2.int_inv,ba.seq bD h,by rw[Nt,et];rfl,k _ H (ba.refl H) (.int n)⟩ hs
 ·obtain⟨k,ek,qk⟩:=gc (Fi.bind q);obtain⟨t,et,qt⟩:=gc qk;obtain⟨tg,w,rfl,g,o9⟩:=Nv r1 r2 ek et;cases(show v=Value.ref tg from rx);exact tail_any (BW I g) PySem.F.slot_dict_getitem.lookup (G9 hu I g ry fun w' s' I' rv=>⟨w,H,I',rv,qt w H (ba.refl H) o9⟩) hs
 ·exact fe q
theorem aae(hu:X.A.units+1<cLine)(ha:PE X tg (tP X F))(hb:PE X b (tP X G))(hs:sX b:=by exact fun _ _=>rfl):PE X (.Subscript tg b pos) (tP X fun Y=>Hd jI (F Y) (G Y)):=
 (Pc (V5 hu) ha hb hs).weak fun _ _ _ q=>tK q
inductive tO(X:Cx)(P:bO->Rs (Option Int))(Z:St)(H:Hp)(Q:Option Int->Hp->Prop):Prop
 |mk (B:eW) (Y:bO):HB B H->cB X.K B H Z Y->(Fi X H (P Y) fun o=>∀H',ba H H'->Q o H')->tO X P Z H Q
def Nw(r:Rs Tr):Rs (Option Int):=r.bind fun t=>match t with
 |.int i=>.ok (some i)
 |_=>.bad
theorem RJ:PO X none (tO X fun _=>.ok none):=fun U s Z H Q I ⟨B,Y,hb,r,q⟩=>MN U s Z H Q I (q H (ba.refl H))
theorem RK(h:PE X e (tP X F)):PO X (some e) (tO X fun Y=>Nw (F Y)):=fun U s Z H Q I ⟨B,Y,hb,r,q⟩=>
 MO h U s Z H Q I ⟨B,Y,hb,r,q.bind.mono fun t qt v H' s' r'=>by
  split at qt
  ·exact⟨_,r'.int_inv,qt H' s'⟩
  ·exact qt.elim⟩
def Au{α:Type}(xs:List α)(lo hi:Option Int):List α:=(xs.drop (HT.g8 xs.length 0 lo)).take (HT.g8 xs.length xs.length hi - HT.g8 xs.length 0 lo)
theorem bI.cut {H:Vw}{vs:List V}(r:bI K H vs ts)(lo hi:Option Int):bI K H (BS vs lo hi) (Au ts lo hi):=by
 unfold BS Au;rw[r.length];exact(r.drop _).take _
def ng(n:Nat)(lo hi:Option Int):Bool:=HT.g8 n 0 lo==0&&HT.g8 n n hi==n
def slT:Tr->Option Int->Option Int->Rs Tr
 |.tup ts,lo,hi=>if ng ts.length lo hi=true then .bad else .ok (.tup (Au ts lo hi))
 |.lst ts,lo,hi=>.ok (.lst (Au ts lo hi))
 |.str z,lo,hi=>if(Txt.slice z lo hi).length<=cS then .ok (.str (Txt.slice z lo hi))else .bad
 |_,_,_=>.bad
inductive rSl(X:Cx)(x:V)(lo:Option Int)(hi:Option Int)(H:Hp)(Q:VK):Prop
 |mk (B:eW) (t:Tr):HB B H->Rep X.K (bV B H) x t->(Fi X H (slT t lo hi) fun t=>∀v H',ba H H'->Rep X.K (bV B H') v t->Q v H')->rSl X x lo hi H Q
theorem aaf:Uk X (rSl X):=by
 intro U s Z H x v vl vu lo hi sl Q I rx hs pl pu ⟨B,t,hb,r,q⟩;cases r with
 |tup h rr=>
  rename_i tg vs ts;have q':Fi X H (if ng ts.length lo hi=true then Rs.bad else .ok (Tr.tup (Au ts lo hi))) _:=q;by_cases hw:ng ts.length lo hi=true
  ·rw[aS hw]at q';exact fe q'
  ·rw[aW hw]at q';refine QV U s Z H _ v vl vu lo hi sl Q I rx hs pl pu ⟨_,_,rfl,h.up,fun z=>hw ?_,fun p hp=>q' _ _ (ba.upd hp) (.RE hb hp (rr.cut lo hi))⟩;rw[rr.length]at z;unfold ng;rw[z.1,z.2,bX,bX];rfl
 |lst h rr=>exact MR U s Z H _ v vl vu lo hi sl Q I rx hs pl pu ⟨_,_,rfl,.of (dX h),fun p hp=>q _ _ (ba.upd hp) (.yP hb hp (rr.cut lo hi))⟩
 |str z hz=>
  obtain⟨h1,k⟩:=gq q;exact Ro U s Z H _ v vl vu lo hi sl Q I rx hs pl pu ⟨z,rfl,cw hz lq,k _ H (ba.refl H) (.str _ h1)⟩
 |_=>exact fe q
variable {P1 P2:bO->Rs (Option Int)}{lo hi:Option Expr}{p2:Pos}
def Nx:List Tr->Rs Tr
 |[.str z]=>.ok (.int (z.length:Int))
 |[.tup ts]=>.ok (.int (ts.length:Int))
 |[.lst ts]=>.ok (.int (ts.length:Int))
 |[.uZ ns]=>.ok (.int (ns.length:Int))
 |_=>.bad
theorem V6:lr X (.builtin "len") Nx:=by
 intro U s Z H xs us Q I rv ⟨B,ts,hb,r,q⟩;unfold Nx at q;split at q
 ·obtain⟨x,e,r⟩:=fM r;exact sU U s Z H _ us Q I rv ⟨_,_,e,by rw[r.str_inv.1];exact⟨cw r.str_inv.2 lq,rfl⟩,q _ H (ba.refl H) (.int _)⟩
 ·obtain⟨x,e,r⟩:=fM r;obtain⟨tg,vs,rfl,h,rr⟩:=r.dI;exact sU U s Z H _ us Q I rv ⟨_,_,e,.inr ⟨_,h.up,rfl⟩,q _ H (ba.refl H) (by rw[rr.length];exact .int _)⟩
 ·obtain⟨x,e,r⟩:=fM r;obtain⟨tg,vs,rfl,h,rr⟩:=r.lst_inv;exact sU U s Z H _ us Q I rv ⟨_,_,e,.inl ⟨_,.of (dX h),rfl⟩,q _ H (ba.refl H) (by rw[rr.length];exact .int _)⟩
 ·obtain⟨x,e,r⟩:=fM r;obtain⟨tg,rfl,h⟩:=r.FC;exact sU U s Z H _ us Q I rv ⟨_,_,e,.inl ⟨_,ba.seq bD h,rfl⟩,q _ H (ba.refl H) (by rw[bj];exact .int _)⟩
 ·exact fe q
def Pn:List Tr->Rs Tr
 |[.tup ts]=>.ok (.lst ts)
 |[.lst ts]=>.ok (.lst ts)
 |_=>.bad
def Eg:List Tr->Rs Tr
 |[.tup ts]=>.ok (.tup ts)
 |[.lst ts]=>.ok (.tup ts)
 |_=>.bad
theorem gP:lr X (.type "tuple") Eg:=by
 intro U s Z H xs us Q I rv ⟨B,ts,hb,r,q⟩;unfold Eg at q;split at q
 ·obtain⟨x,e,r⟩:=fM r;obtain⟨tg,vs,rfl,h,rr⟩:=r.dI;exact qQ U s Z H _ us Q I rv ⟨_,_,e,.inr ⟨h.up,q _ H (ba.refl H) (.tup h rr)⟩⟩
 ·obtain⟨x,e,r⟩:=fM r;obtain⟨tg,vs,rfl,h,rr⟩:=r.lst_inv;exact qQ U s Z H _ us Q I rv ⟨_,_,e,.inl ⟨.of (dX h),fun p hp=>q _ _ (ba.upd hp) (.RE hb hp rr)⟩⟩
 ·exact q.elim
def xx:Tr->String
 |.cu=>"NoneType"
 |.bl _=>"bool"
 |.int _=>"int"
 |.str _=>"str"
 |.ty _=>"type"
 |.tup _=>"tuple"
 |.lst _=>"list"
 |.uZ _=>"list"
 |.bT _=>"dict"
 |.at _=>"object"
 |.u0 _=>"dict"
 |.ob _ _=>"object"
 |.zd _=>"object"
def YX(t:Tr)(c:String):Bool:=xx t==c||(xx t=="bool"&&c=="int")
def kinds:List String:=["int","str","bool","tuple","list","dict"]
theorem FU(K:Frag):∀tg∈["NoneType","bool","int","str","tuple","list","dict"],∀c∈kinds,PySem.W.kitOne K (.type tg) (.type c)=some (tg==c||(tg=="bool"&&c=="int")):=by
 intro tg ha c hc;simp only[kinds,bB,cI,cJ]at ha hc;rcases ha with rfl|rfl|rfl|rfl|rfl|rfl|rfl<;>rcases hc with rfl|rfl|rfl|rfl|rfl|rfl<;>first|rfl|(unfold PySem.W.kitOne;exact aS (by decide))
def V7:Tr->Bool
 |.ty _|.at _|.ob _ _|.zd _=>true
 |_=>false
def RL:List Tr->Rs Tr
 |[t,.ty c]=>if V7 t=false/\kinds.contains c=true then .ok (.bl (YX t c))else .bad
 |_=>.bad
theorem Ny{qT:Addr->Option Nat}{x:V}(I:Inv X U Z H s)(r:Rep X.K (⟨H,qT⟩:Vw) x aB)(h0:V7 aB=false)(rx:RelV x af)(hc:ay∈kinds)(h:∀tk,Q (.bool (YX aB ay)) {s with toks:=tk}):
  wpAny (model X.prog X.w) A (call (.builtin "isinstance") [af,.type ay]) Q E s:=by
 have Nz:=fun tg ha=>FU X.K tg ha ay hc;cases r with
 |cu=>exact mr I rx .cu (Nz _ (by decide)) h
 |bl b=>exact mr I rx (.bl b) (Nz _ (by decide)) h
 |int i=>exact mr I rx (.int i) (Nz _ (by decide)) h
 |str z hz=>exact mr I rx (.str z) (Nz _ (by decide)) h
 |ty n=>cases h0
 |«at» h=>cases h0
 |ob h e rr=>cases h0
 |zd h ay=>cases h0
 |@u0 tg kvs bt hq e rr=>
  cases(show af=Value.ref tg from rx);obtain⟨_,_,xs,_,o,es,ep,h1,h2,_⟩:=(show cR X.prog X.w H s.heap tg (.dT kvs)from I.cP tg _ hq);exact eQ sk I.lH ⟨o,h1,h2.1⟩ (Nz "dict" (by decide)) (fun z=>nomatch z) h
 |@tup tg vs ts hq rr=>
  cases(show af=Value.ref tg from rx);obtain⟨cc,rv,⟨o,h1,h2,_⟩,_⟩:=I.tuple hq;exact eQ PySem.W.kitx_tuple I.lH ⟨o,h1,h2⟩ (Nz "tuple" (by decide)) (fun z=>nomatch z) h
 |lst hq rr=>exact mr I rx (.lst hq) (Nz _ (by decide)) h
 |@uZ tg ns hq=>
  cases(show af=Value.ref tg from rx);obtain⟨cc,rv,⟨o,n,h1,h2,_⟩,_⟩:=I.list hq;exact eQ wu I.lH ⟨o,h1,h2⟩ (Nz "list" (by decide)) (fun z=>nomatch z) h
 |@bT tg kvs bt hq e rr=>
  cases(show af=Value.ref tg from rx);obtain⟨_,_,vs,_,p⟩:=(show cR X.prog X.w H s.heap tg (.dK kvs)from hq.ok I.cP);obtain⟨o,es,ep,h1,h2,_⟩:=p;exact eQ sk I.lH ⟨o,h1,h2.1⟩ (Nz "dict" (by decide)) (fun z=>nomatch z) h
theorem zm:lr X (.builtin "isinstance") RL:=by
 intro U s Z H xs us Q I rv ⟨B,ts,hb,r,q⟩;unfold RL at q;split at q
 ·obtain⟨⟨h0,h1⟩,k⟩:=gq q;obtain⟨x,y,rfl,r1,r2⟩:=zf r;obtain⟨v,u,rfl,v1,v2⟩:=vals2 rv;cases r2;cases v2;exact Ny I r1.up h0 v1 (by simpa using h1) fun tk=>⟨.bl _,H,I.tok _,rfl,k _ H (ba.refl H) (.bl _)⟩
 ·exact q.elim
variable {name:Str}{dt:Pos}{id:String}{h:Str->List Tr->Rs Tr}
end
def RM:Tr->Rs Tr
 |.int i=>.ok (.int (-i))
 |_=>.bad
theorem V8(ha:PE X e (tP X F)):PE X (.UnaryOp .USub e pos) (tP X fun Y=>(F Y).bind RM):=
 (U4 QC ha).weak fun Z H Q ⟨B,Y,hb,r,q⟩=>⟨B,Y,hb,r,q.bind.mono fun t qt v H' s' r'=>by
  cases r' with
  |int i=>exact⟨i,rfl,qt _ H' s' (.int _)⟩
  |_=>exact fe qt⟩
theorem dq(hr:cV i A):A.units+40<cLine:=by have:=hr.units;omega
def qU(n m:Nat)(G:bO->Rs Out)(ts:List Tr):Rs Tr:=if ts.length=n then dE (G (startT m ts))else .bad
theorem NA{n:Nat}{G:bO->Rs Out}(h:qU n i G ts=.ok aB):ts.length=n:=by
 unfold qU at h;split at h
 ·assumption
 ·cases h
theorem RN{m:Nat}{G:bO->Rs Out}{t:Tr}(h:qU i m G ts=.ok t):dE (G (startT m ts))=.ok t:=by
 unfold qU at h;split at h
 ·exact h
 ·cases h
def lJ(bt:List (Key×Tr))(k:Key)(t:Tr):List (Key×Tr):=
 if(bt.any fun kv=>decide (kv.1=k))=true then bt.map (fun kv=>if kv.1=k then(kv.1,t)else kv)else bt++[(k,t)]
def lK(bt more:List (Key×Tr)):List (Key×Tr):=more.foldl (fun acc kv=>lJ acc kv.1 kv.2) bt
structure dQ(K:Frag)(H:Vw)(kvs:List (Key×V))(bt:List (Key×Tr)):Prop where
 keys:kvs.map (·.1)=bt.map (·.1)
 vals:bI K H (kvs.map (·.2)) (bt.map (·.2))
section
variable {H H':Vw}
theorem dQ.nil:dQ K H [] []:=⟨rfl,.nil⟩
theorem dQ.same {bt:List (Key×Tr)}(s:eL H H')(h:dQ K H kvs bt):dQ K H' kvs bt:=⟨h.keys,h.vals.same s⟩
theorem dQ.cons {k:Key}{v:V}{t:Tr}{bt:List (Key×Tr)}(r:Rep K H v t)(h:dQ K H kvs bt):dQ K H ((k,v)::kvs) ((k,t)::bt):=⟨by rw[bH,bH,h.keys],.cons r h.vals⟩
theorem dQ.inv {k:Key}{v:V}{bt:List (Key×Tr)}(h:dQ K H ((k,v)::kvs) bt):∃t r,bt=(k,t)::r/\Rep K H v t/\dQ K H kvs r:=by
 obtain⟨e,r⟩:=h
 match bt,e,r with
 |(k2,t)::c9,e,r=>
  rw[bH,bH]at e;injection e with e1 e2
  have Np:k=k2:=e1;subst Np;cases r with
  |cons h1 h2=>exact⟨t,c9,rfl,h1,e2,h2⟩
theorem dQ.any (k:Key):∀{kvs:List (Key×V)} {bt:List (Key×Tr)},dQ K H kvs bt->(kvs.any fun kv=>decide (kv.1=k))=bt.any fun kv=>decide (kv.1=k)
 |[],bt,h=>by
  have e:=h.keys;cases bt with
  |nil=>rfl
  |cons a b=>cases e
 |(j,v)::kvs,bt,h=>by
  obtain⟨t,r,rfl,_,h2⟩:=h.inv;rw[iZ,iZ,dQ.any k h2]
theorem dQ.map (k:Key){y:V}{u:Tr}(ry:Rep K H y u):∀{kvs:List (Key×V)} {bt:List (Key×Tr)},dQ K H kvs bt->dQ K H (kvs.map fun kv=>if kv.1=k then(kv.1,y)else kv) (bt.map fun kv=>if kv.1=k then(kv.1,u)else kv)
 |[],bt,h=>by
  have e:=h.keys;cases bt with
  |nil=>exact .nil
  |cons a b=>cases e
 |(j,v)::kvs,bt,h=>by
  obtain⟨t,r,rfl,h1,h2⟩:=h.inv;rw[bH,bH];by_cases e:j=k
  ·rw[aS (show(j,v).1=k from e),aS (show(j,t).1=k from e)];exact .cons ry (dQ.map k ry h2)
  ·rw[aW (show¬(j,v).1=k from e),aW (show¬(j,t).1=k from e)];exact .cons h1 (dQ.map k ry h2)
theorem dQ.snoc (k:Key){y:V}{u:Tr}(ry:Rep K H y u):∀{kvs:List (Key×V)} {bt:List (Key×Tr)},dQ K H kvs bt->dQ K H (kvs++[(k,y)]) (bt++[(k,u)])
 |[],bt,h=>by
  have e:=h.keys;cases bt with
  |nil=>exact .cons ry .nil
  |cons a b=>cases e
 |(j,v)::kvs,bt,h=>by
  obtain⟨t,r,rfl,h1,h2⟩:=h.inv;exact .cons h1 (dQ.snoc k ry h2)
theorem dQ.put (k:Key){y:V}{u:Tr}(ry:Rep K H y u){bt:List (Key×Tr)}(h:dQ K H kvs bt):dQ K H (putK kvs k y) (lJ bt k u):=by
 unfold putK lJ;rw[h.any k];by_cases e:(bt.any fun kv=>decide (kv.1=k))=true
 ·rw[aS e,aS e];exact h.map k ry
 ·rw[aW e,aW e];exact h.snoc k ry
theorem dQ.merge:∀{more:List (Key×V)} {Eh:List (Key×Tr)} {kvs:List (Key×V)} {bt:List (Key×Tr)},dQ K H more Eh->dQ K H kvs bt->dQ K H (iD kvs more) (lK bt Eh)
 |[],Eh,kvs,bt,h,q=>by
  have e:=h.keys;cases Eh with
  |nil=>exact q
  |cons a b=>cases e
 |(k,v)::more,Eh,kvs,bt,h,q=>by
  obtain⟨t,r,rfl,h1,h2⟩:=h.inv;exact dQ.merge (more:=more) (Eh:=r) h2 (q.put k h1)
end
theorem cB.bar {Y:bO}{p:Addr}{o:HO}(h:cB K B H Z Y)(hp:H p=none):cB K (mz B p) (upd H p o) Z Y:=by
 refine⟨h.len,fun i t e=>?_,fun i ts e=>?_,h.ap⟩
 ·obtain⟨v,e1,r⟩:=h.sh i t e;exact⟨v,e1,r.same (kF hp)⟩
 ·obtain⟨D,ys,e1,e2,e3,r⟩:=h.ow i ts e;exact⟨D,ys,e1,FJ.hd _ e2,by rw[bb (bM e3 hp)];exact e3,r.same (kF hp)⟩
def Po(k v:Rs Tr)(r:Rs (List (Tr×Tr))):Rs (List (Tr×Tr)):=k.bind fun x=>v.bind fun y=>r.bind fun ps=>.ok ((x,y)::ps)
def xy:List (Tr×Tr)->Rs (List (Key×Tr))
 |[]=>.ok []
 |(k,t)::r=>(kS (jW k)).bind fun k=>(xy r).bind fun l=>.ok ((k,t)::l)
def V9(r:Rs (List (Tr×Tr))):Rs Tr:=r.bind fun ps=>if ps.length<=15 then(xy ps).bind fun bt=>.ok (.bT (lK [] bt))else .bad
inductive xA(K:Frag)(H:Vw):List (V×V)->List (Tr×Tr)->Prop where
 |nil:xA K H [] []
 |cons {x y:V} {t u:Tr} {ps:List (V×V)} {qs:List (Tr×Tr)} (h1:Rep K H x t) (h2:Rep K H y u) (r:xA K H ps qs):xA K H ((x,y)::ps) ((t,u)::qs)
theorem xA.length {H:Vw}{ps:List (V×V)}{qs:List (Tr×Tr)}(h:xA K H ps qs):ps.length=qs.length:=by
 induction h with
 |nil=>rfl
 |cons _ _ _ ih=>rw[dg,dg,ih]
theorem zo{X:Cx}{H:Vw}{H0:Hp}{k:List (Key×Tr)->Prop}{ps:List (V×V)}{qs:List (Tr×Tr)}(h:xA K H ps qs):Fi X H0 (xy qs) k->∃kvs bt,k bt/\ps=kvs.map (fun kv=>(kV kv.1,kv.2))/\dQ K H kvs bt:=by
 induction h generalizing k with
 |nil=>exact fun q=>⟨[],[],q,rfl,.nil⟩
 |cons h1 h2 r ih=>
  intro q;obtain⟨key,ek,q1⟩:=gc (Fi.bind q);obtain⟨kvs,bt,k1,e1,rd⟩:=ih (Fi.bind q1);have e:=m_ h1 ek;subst e;exact⟨(key,_)::kvs,_,k1,by rw[bH,e1],.cons h2 rd⟩
section
variable {a f:Expr}{dt:Pos}{E:bO->Rs Tr}{keys:List (Option Expr)}{P:bO->Rs (List (Tr×Tr))}
structure QP(X:Cx)(pos:Pos)(keys:List (Option Expr))(es:List Expr)(P:bO->Rs (List (Tr×Tr))):Prop where
 h:∃Aj,Ul X pos keys es Aj/\∀Z H Q,(∃B Y,HB B H/\cB X.K B H Z Y/\Fi X H (P Y) fun RO=>∀NB H',ba H H'->xA X.K (bV B H') NB RO->Q NB H')->w6 Aj Z H Q
theorem Pp:QP X pos [] [] fun _=>.ok []:=⟨[],Fv,fun Z H Q ⟨B,Y,hb,r,q⟩=>q [] H (ba.refl H) .nil⟩
theorem xA.same {H H':Vw}(s:eL H H'){ps:List (V×V)}{qs:List (Tr×Tr)}(h:xA K H ps qs):xA K H' ps qs:=by
 induction h with
 |nil=>exact .nil
 |cons h1 h2 r ih=>exact .cons (h1.same s) (h2.same s) ih
theorem NC(hk:PE X e (tP X F))(hv:PE X o (tP X G))(hr:QP X pos keys es P):QP X pos (some e::keys) (o::es) fun Y=>Po (F Y) (G Y) (P Y):=by
 obtain⟨Aj,h1,h2⟩:=hr.h;refine⟨_,BY hk hv h1,fun Z H Q ⟨B,Y,hb,r,q⟩=>?_⟩;refine⟨B,Y,hb,r,q.bind.mono fun x qx u H1 s1 r1=>⟨B,Y,hb.same s1,r.same s1,(qx.bind.same s1).mono fun y qy w H2 s2 r2=>h2 _ _ _ ⟨B,Y,hb.same (s1.trans s2),r.same (s1.trans s2),(qy.bind.same (s1.trans s2)).mono fun ps qp NB H3 s3 r3=>?_⟩⟩⟩;exact qp _ H3 ((s1.trans s2).trans s3) (.cons (r1.same (bE (s2.trans s3))) (r2.same (bE s3)) r3)
theorem RP(h:QP X pos keys es P)(uw:keys.all (·.isSome)=true:=by rfl) (hl:keys.length=es.length:=by rfl) (h0:keys.isEmpty=false:=by rfl) (M0:keys.length<=15:=by decide):PE X (.Dict keys es pos) (tP X fun Y=>V9 (P Y)):=by
 obtain⟨Aj,h1,h2⟩:=h.h;refine(Fw h1 uw hl (fun z=>by rw[z]at h0;cases h0) M0).weak fun Z H Q ⟨B,Y,hb,r,q⟩ p hp=>?_
 refine h2 Z _ _ ⟨mz B p,Y,FI hb hp,r.bar hp,(q.bind.same (ba.upd hp)).mono fun RO qp NB H2 s2 r2=>?_⟩;by_cases hz:RO.length<=15
 ·rw[aS hz]at qp;obtain⟨kvs,bt,k1,e1,rd⟩:=zo r2 (Fi.bind qp);refine⟨s2 _ _ bG,kvs,e1,?_,?_⟩
  ·have e2:=cQ List.length e1;rw[bj,r2.length]at e2;rw[<-e2];exact hz
  ·have hBp:=hb.free hp;have rm:=(dQ.merge rd dQ.nil);refine k1 _ _ (((ba.upd hp).trans s2).Al hp) (.bT (.inl (by rw[fL hBp];exact bG)) rm.keys (rm.vals.same ?_));have e3:bV (mz B p) (upd H2 p (.dK (iD [] kvs)))=bV (mz B p) H2:=tM;rw[<-e3];exact Cb
 ·rw[aW hz]at qp;exact fe qp
def JO(a b:Rs Tr):Rs Tr:=a.bind fun x=>match x with
 |.bT bt=>b.bind fun y=>(kS (jW y)).bind fun k=>.ok ((eN bt k).getD .cu)
 |_=>.bad
def JP(a b c:Rs Tr):Rs Tr:=a.bind fun x=>match x with
 |.bT bt=>b.bind fun y=>c.bind fun z=>(kS (jW y)).bind fun k=>.ok ((eN bt k).getD z)
 |_=>.bad
theorem Pq(hb:isCall o=false)(cz:bq [e]=true)(hl:(b8.endLine==dt.line)=true):M1 X o x b8 e dt:=
 ⟨gb hb,by rw[jj cz];rfl,hl,by rw[bF _ _ (bc cz).1,starEach];rfl⟩
theorem Pt(hb:isCall o=false)(cz:bq [e,f]=true)(hl:(b8.endLine==dt.line)=true):M2 X o x b8 e f dt:=
 ⟨gb hb,by rw[jj cz];rfl,hl,by rw[bF _ _ (bc cz).1,bF _ _ (bc (bc cz).2).1,starEach];rfl⟩
theorem FV{y:V}{ov:Option V}(g:pf (bV B H) au y ov):pf H au y ov:=by
 rcases g with⟨kvs,k,e1,e2,e3⟩|⟨kvs,k,b,e1,e2,e3,e4⟩
 ·exact .inl ⟨kvs,k,e1.same bD,e2,e3⟩
 ·exact .inr ⟨kvs,k,b,e1.same bD,e2,bD _ _ e3,e4⟩
theorem RQ(hu:X.A.units+1<cLine)(ho:PE X o (tP X F))(he:PE X e (tP X G))(hb:isCall o=false:=by rfl) (cz:bq [e]=true:=by rfl) (hl:(b8.endLine==dt.line)=true:=by rfl):PE X (.Call (.Attribute o "get" b8) [e] [] dt) (tP X fun Y=>JO (F Y) (G Y)):=
 (Ju hu ho he (Pq hb cz hl)).weak fun Z H Q ⟨B,Y,hb,r,q⟩=>⟨B,Y,hb,r,q.bind.mono fun x qx v H1 s1 r1=>by
  split at qx
  ·obtain⟨_,_,rfl,h,e,rr⟩:=r1.m8;refine⟨_,rfl,.inl ⟨_,h.same bD⟩,B,Y,hb.same s1,r.same s1,(Fi.bind qx|>.same s1).mono fun y qy w H2 s2 r2=>?_⟩;obtain⟨k,ek,qk⟩:=gc (Fi.bind qy);obtain⟨ov,g,ho⟩:=xu (Rd.same (bE s2).h h) e (rr.same (bE s2)) r2 ek;refine⟨ov,FV g,qk _ H2 (s1.trans s2) ?_⟩;rcases ho with⟨h1,rfl⟩|⟨t,w',h1,rfl,h3⟩
   ·rw[h1];exact .cu
   ·rw[h1];exact h3
  ·exact qx.elim⟩
theorem RR(hu:X.A.units+1<cLine)(ho:PE X o (tP X F))(he:PE X e (tP X G))(hf:PE X f (tP X E))(hb:isCall o=false:=by rfl) (cz:bq [e,f]=true:=by rfl) (hl:(b8.endLine==dt.line)=true:=by rfl):PE X (.Call (.Attribute o "get" b8) [e,f] [] dt) (tP X fun Y=>JP (F Y) (G Y) (E Y)):=
 (Jv hu ho he hf (Pt hb cz hl)).weak fun Z H Q ⟨B,Y,hb,r,q⟩=>⟨B,Y,hb,r,q.bind.mono fun x qx v H1 s1 r1=>by
  split at qx
  ·obtain⟨_,_,rfl,h,e,rr⟩:=r1.m8;refine⟨_,rfl,.inl ⟨_,h.same bD⟩,B,Y,hb.same s1,r.same s1,(Fi.bind qx|>.same s1).mono fun y qy w H2 s2 r2=>⟨B,Y,hb.same (s1.trans s2),r.same (s1.trans s2),(Fi.bind qy|>.same (s1.trans s2)).mono fun z qz w3 H3 s3 r3=>?_⟩⟩;obtain⟨k,ek,qk⟩:=gc (Fi.bind qz);obtain⟨ov,g,ho⟩:=xu (Rd.same (bE (s2.trans s3)).h h) e (rr.same (bE (s2.trans s3))) (r2.same (bE s3)) ek;refine⟨ov,FV g,qk _ H3 ((s1.trans s2).trans s3) ?_⟩;rcases ho with⟨h1,rfl⟩|⟨t,w',h1,rfl,h3⟩
   ·rw[h1];exact r3
   ·rw[h1];exact h3
  ·exact qx.elim⟩
def Av(K:Frag)(w:World)(mg:Str->Option Value)(x:Str)(bt:List (Str×Tr)):Prop:=
 ∃a kvs,mg x=some (.ref a)/\B6 K w a kvs/\∀z,(valueAt kvs z=none/\bt.lookup z=none)\/∃u v t,valueAt kvs z=some u/\RelV v u/\bt.lookup z=some t/\∀H,Rep K H v t
def RS(bt:List (Str×Tr)):Tr->Rs Tr
 |.str z=>kS (bt.lookup z)
 |_=>.bad
variable {bt:List (Str×Tr)}
theorem V_(g:Av X.K X.w X.mg x bt)(ha:PE X a (tP X F))(hg:Gl X x:=by rfl) (hd:Db x:=by decide) (hs:MX a:=by exact fun _ _=>rfl):PE X (.Subscript (.Name x p) a pos) (tP X fun Y=>(F Y).bind (RS bt)):=by
 obtain⟨ad,kvs,hm,D,hz⟩:=g;refine(JD (Ac (v:=.ref ad) hg hm rfl hd) ha hs).weak fun Z H Q ⟨B,Y,hb,r,q⟩=>?_
 refine⟨B,Y,hb,r,q.bind.mono fun t qt v H1 s1 r1=>?_⟩;unfold RS at qt;split at qt
 ·rename_i z;obtain⟨t,et,k⟩:=gc qt;rcases hz z with⟨h1,h2⟩|⟨u,v,t',h1,h3,h2,h4⟩
  ·cases et.symm.trans h2
  ·cases et.symm.trans h2;exact⟨ad,z,kvs,u,v,rfl,r1.str_inv.1,D,h1,h3,k v H1 s1 (h4 _)⟩
 ·exact qt.elim
def Hq:List Tr->Rs (List Bool)
 |[]=>.ok []
 |.bl b::ts=>(Hq ts).bind fun zs=>.ok (b::zs)
 |_=>.bad
theorem FW{H:Vw}{H0:Hp}{k:List Bool->Prop}:∀{ts:List Tr} {vs:List V},bI K H vs ts->Fi X H0 (Hq ts) k->∃bs,k bs/\vs=bs.map V.bl
 |[],_,r,q=>by cases r;exact⟨[],q,rfl⟩
 |t::ts,_,r,q=>by
  cases r with
  |cons h r=>
   cases h with
   |bl b=>
    obtain⟨bs,k1,e⟩:=FW (k:=fun zs=>k (b::zs)) r (Fi.bind q);exact⟨b::bs,k1,by rw[e];rfl⟩
   |_=>exact fe q
def ND:List Tr->Rs Tr
 |[.lst ts]=>(Hq ts).bind fun bs=>.ok (.bl (bs.all id))
 |_=>.bad
theorem V'(hc:X.calm=true):lr X (.builtin "all") ND:=by
 intro U s Z H xs us Q I rv ⟨B,ts,hb,r,q⟩;unfold ND at q;split at q
 ·obtain⟨x,rfl,h⟩:=fM r;obtain⟨a,vs,rfl,hl,rr⟩:=h.lst_inv;obtain⟨bs,k,rfl⟩:=FW rr (Fi.bind q);exact JC hc U s Z H _ us Q I rv ⟨_,bs,rfl,.of (dX hl),k _ H (ba.refl H) (.bl _)⟩
 ·exact fe q
end
inductive Ei(K:Frag)(w:World):List DictEntry->List (Str×Value)->List (Str×Tr)->Prop
 |nil:Ei K w [] [] []
 |cons {z:Str} {t:Tok} {v:V} {u:Value} {tr:Tr} {es:List DictEntry} {kvs:List (Str×Value)} {bt:List (Str×Tr)}:RelV v u->(∀H,Rep K H v tr)->Ei K w es kvs bt->
   Ei K w (⟨PyData.keyHash w.params z,.str z t,u⟩::es) ((z,u)::kvs) ((z,tr)::bt)
variable {es:List DictEntry}{kvs:List (Str×Value)}{bt:List (Str×Tr)}
theorem Ei.keys (prog:Program)(h:Ei K w es kvs bt):∀e∈es,∃k,(PySem.strKind prog w).is k e.key=true/\e.hash=(PySem.strKind prog w).hash k:=by
 induction h with
 |nil=>intro e he;cases he
 |@cons z t v u tr es kvs bt _ _ _ ih=>
  intro e he;rcases bB.mp he with rfl|he
  ·exact⟨z,by simp[PySem.strKind,Value.isStrOf],rfl⟩
  ·exact ih e he
theorem Ei.pairs (prog:Program)(h:Ei K w es kvs bt):Pairs (PySem.strKind prog w) es kvs:=by
 induction h with
 |nil=>exact .nil
 |cons _ _ _ ih=>exact .cons (by simp[PySem.strKind,Value.isStrOf]) rfl ih
theorem Ei.at (h:Ei K w es kvs bt)(y:Str):(valueAt kvs y=none/\bt.lookup y=none)\/∃u v t,valueAt kvs y=some u/\RelV v u/\bt.lookup y=some t/\∀H,Rep K H v t:=by
 induction h with
 |nil=>exact .inl ⟨rfl,rfl⟩
 |@cons z t v u tr es kvs bt hr hp _ ih=>
  by_cases e:z=y
  ·subst e;exact .inr ⟨u,v,tr,by simp[valueAt],hr,by simp[List.lookup],hp⟩
  ·have e1:valueAt ((z,u)::kvs) y=valueAt kvs y:=by simp[valueAt,e]
   have e2:List.lookup y ((z,tr)::bt)=bt.lookup y:=by
    have:(y==z)=false:=iW.mpr fun k=>e k.symm;simp[List.lookup,this]
   rw[e1,e2];exact ih
theorem Ei.gd {ep:Nat}(h:Ei K w es kvs bt)(hm:mg x=some (.ref a))(hl:K.lookup a=some ⟨.type "dict",none,.dict es.toArray ep,#[]⟩) (hs:(a==sysModules)=false) (hn:(kvs.map (·.1)).Nodup):Av K w mg x bt:=
 ⟨a,kvs,hm,⟨hs,_,_,_,hl,⟨rfl,rfl,rfl⟩,rfl,fun prog=>⟨fun e he=>h.keys prog e (by simpa using he),h.pairs prog,hn⟩⟩,h.at⟩
inductive Ao where
 |lst (ts:List Tr)|bT (bt:List (Key×Tr))|ins (x:Str) (fs:List (Str×Tr))|u0 (bt:List (List Key×Tr))|DH (x:Str)
abbrev Ab:=List Ao
def rL(K:Frag)(B:eW)(H:Hp)(a:Addr):Ao->Prop
 |.lst ts=>B.hd a=true/\∃vs,H a=some (.lst vs)/\bI K (bV B H) vs ts
 |.bT bt=>B.hd a=true/\∃kvs,H a=some (.dK kvs)/\dQ K (bV B H) kvs bt
 |.u0 bt=>B.hd a=true/\∃kvs,H a=some (.dT kvs)/\kvs.map (·.1)=bt.map (·.1)/\bI K (bV B H) (kvs.map (·.2)) (bt.map (·.2))
 |.ins x fs=>B.hd a=true/\∃dx gZ,H a=some (.ins (clsAt K x) dx gZ)/\H dx=some (.own a)/\B.ix dx=none/\gZ.map (·.1)=fs.map (·.1)/\bI K (bV B H) (gZ.map (·.2)) (fs.map (·.2))
 |.DH x=>B.hd a=true/\∃oe:Obj,H a=some (.ext fun h=>h.get? a=some oe)/\oe.cls=.ref (clsAt K x)
structure HA(K:Frag)(B:eW)(A:Ab)(H:Hp):Prop where
 hb:HB B H
 ob:∀i o,A[i]?=some o->∃a,B.ix a=some i/\rL K B H a o
 inj:∀a b i,B.ix a=some i->B.ix b=some i->a=b
 lt:∀a i,B.ix a=some i->i<A.length
structure Grows(B:eW)(H:Hp)(B':eW)(H':Hp):Prop where
 jw:eL (bV B H) (bV B' H')
 kp:∀b o,B.ix b=none->H b=some o->H' b=some o
 hd:∀b,B.ix b=none->B.hd b=true->B'.hd b=true
 nw:∀b i,B'.ix b=some i->B.ix b=none->H b=none
section
variable {B' B1 B2:eW}{H' H2:Hp}{A:Ab}
theorem rL.same {o:Ao}(h:rL K B H a o)(s:ba H H'):rL K B H' a o:=by
 cases o with
 |lst ts=>obtain⟨h0,vs,h1,h2⟩:=h;exact⟨h0,vs,s _ _ h1,h2.same (bE s)⟩
 |bT bt=>obtain⟨h0,vs,h1,h2⟩:=h;exact⟨h0,vs,s _ _ h1,h2.same (bE s)⟩
 |u0 bt=>obtain⟨h0,vs,h1,h2,h3⟩:=h;exact⟨h0,vs,s _ _ h1,h2,h3.same (bE s)⟩
 |DH x=>obtain⟨h0,oe,h1,h2⟩:=h;exact⟨h0,oe,s _ _ h1,h2⟩
 |ins c fs=>obtain⟨h0,dx,gZ,h1,h2,h3,h4,h5⟩:=h;exact⟨h0,dx,gZ,s _ _ h1,s _ _ h2,h3,h4,h5.same (bE s)⟩
theorem rL.hd {o:Ao}(h:rL K B H a o):B.hd a=true:=by cases o<;>exact h.1
theorem rL.mem {o:Ao}(h:rL K B H a o):∃x,H a=some x/\(∀vs,x≠ .tup vs)/\∀ob u,x≠ .kR ob u:=by
 cases o with
 |lst ts=>obtain⟨h0,vs,h1,h2⟩:=h;exact⟨_,h1,(fun _ e=>by cases e),(fun _ _ e=>by cases e)⟩
 |bT bt=>obtain⟨h0,vs,h1,h2⟩:=h;exact⟨_,h1,(fun _ e=>by cases e),(fun _ _ e=>by cases e)⟩
 |u0 bt=>obtain⟨h0,vs,h1,h2⟩:=h;exact⟨_,h1,(fun _ e=>by cases e),(fun _ _ e=>by cases e)⟩
 |DH x=>obtain⟨h0,oe,h1,h2⟩:=h;exact⟨_,h1,(fun _ e=>by cases e),(fun _ _ e=>by cases e)⟩
 |ins c fs=>obtain⟨h0,dx,gZ,h1,h2⟩:=h;exact⟨_,h1,(fun _ e=>by cases e),(fun _ _ e=>by cases e)⟩
theorem HA.same (h:HA K B A H)(s:ba H H'):HA K B A H':=
 ⟨h.hb.same s,fun i o e=>by obtain⟨a,h1,h2⟩:=h.ob i o e;exact⟨a,h1,h2.same s⟩,h.inj,h.lt⟩
theorem HA.get (h:HA K B A H){i:Nat}{o:Ao}(e:B.ix a=some i)(q:A[i]?=some o):rL K B H a o:=by
 obtain⟨b,h1,h2⟩:=h.ob i o q;rw[h.inj a b i e h1];exact h2
theorem HA.ex (h:HA K B A H){i:Nat}(e:B.ix a=some i):∃o,A[i]?=some o/\rL K B H a o:=by
 have l:=h.lt a i e;exact⟨A[i],bQ l,h.get e (bQ l)⟩
theorem HA.free (h:HA K B A H){p:Addr}(hp:H p=none):B.ix p=none:=by
 cases e:B.ix p with
 |none=>rfl
 |some i=>
  obtain⟨o,_,q⟩:=h.ex e;obtain⟨x,e2,_⟩:=q.mem;rw[hp]at e2;cases e2
theorem Grows.of (s:ba H H'):Grows B H B H':=⟨bE s,fun b o _ e=>s b o e,fun _ _ e=>e,fun b i e n=>by rw[n]at e;cases e⟩
theorem Grows.refl:Grows B H B H:=.of (ba.refl H)
theorem Grows.trans (hb:HB B H)(a:Grows B H B1 ac)(b:Grows B1 ac B2 H2):Grows B H B2 H2:=by
 have key:∀c,B.ix c=none->(∃o,H c=some o)->B1.ix c=none:=fun c n ⟨o,e⟩=>by
  cases q:B1.ix c with
  |none=>rfl
  |some i=>have:=a.nw c i q n;rw[e]at this;cases this
 refine⟨a.jw.trans b.jw,fun c o n e=>b.kp c o (key c n ⟨o,e⟩) (a.kp c o n e),fun c n e=>?_,fun c i e n=>?_⟩
 ·exact b.hd c (key c n (hb c e)) (a.hd c n e)
 ·cases q:B1.ix c with
  |none=>
   have:=b.nw c i e q;cases q2:H c with
   |none=>rfl
   |some o=>rw[a.kp c o n q2]at this;cases this
  |some j=>exact a.nw c j q n
def pz(B:eW)(p:Addr)(i:Nat):eW:=⟨fun b=>B.hd b||b==p,fun b=>if b=p then some i else B.ix b⟩
theorem qi:(pz B a i).hd a=true:=by show(B.hd a||a==a)=true;rw[bX,Bool.or_true]
theorem hZ{p:Addr}:(pz B p i).ix p=some i:=aS rfl
theorem h8{b:Addr}(h:b≠a):(pz B a i).ix b=B.ix b:=aW h
theorem tT{b:Addr}(h:b≠a):(pz B a i).hd b=B.hd b:=by show(B.hd b||b==a)=_;rw[jT h,sI]
theorem JR{p:Addr}(hp:H p=none)(hx:B.ix p=none)(s:ba H H'):eL (bV B H) (bV (pz B p i) H'):=⟨fun b u e=>by
 have e1:=bD b u e;have gV:b≠p:=bM e1 hp;have hB:B.hd b=false:=by
  cases q:B.hd b with
  |false=>rfl
  |true=>
   have e2:(if B.hd b=true then none else H b)=some u:=e;rw[q,aS rfl]at e2;cases e2
 rw[fL (by rw[tT gV];exact hB)];exact s b u e1,fun b j e=>by
 have gV:b≠p:=fun z=>by rw[z]at e;rw[show(bV B H).ix p=B.ix p from rfl,hx]at e;cases e
 show(pz B p i).ix b=some j;rw[h8 gV];exact e⟩
theorem HA.push {p:Addr}{o:Ao}(h:HA K B A H)(hp:H p=none)(s:ba H H')(ho:rL K (pz B p A.length) H' p o):Grows B H (pz B p A.length) H'/\HA K (pz B p A.length) (A++[o]) H':=by
 have hx:=h.free hp;have jw:eL (bV B H) (bV (pz B p A.length) H'):=JR hp hx s;have up:∀{a:Addr} {u:Ao},a≠p->rL K B H a u->rL K (pz B p A.length) H' a u:=fun{a u} gV q=>by
  have e0:(pz B p A.length).hd a=true:=by rw[tT gV];exact q.hd
  cases u with
  |lst ts=>obtain⟨h0,vs,h1,h2⟩:=q;exact⟨e0,vs,s _ _ h1,h2.same jw⟩
  |bT bt=>obtain⟨h0,vs,h1,h2⟩:=q;exact⟨e0,vs,s _ _ h1,h2.same jw⟩
  |u0 bt=>obtain⟨h0,vs,h1,h2,h3⟩:=q;exact⟨e0,vs,s _ _ h1,h2,h3.same jw⟩
  |DH x=>obtain⟨h0,oe,h1,h2⟩:=q;exact⟨e0,oe,s _ _ h1,h2⟩
  |ins c fs=>
   obtain⟨h0,dx,gZ,h1,h2,h3,h4,h5⟩:=q;exact⟨e0,dx,gZ,s _ _ h1,s _ _ h2,by rw[h8 (bM h2 hp)];exact h3,h4,h5.same jw⟩
 refine⟨⟨jw,fun b u _ e=>s b u e,fun b _ e=>?_,fun b i e n=>?_⟩,⟨fun b e=>?_,fun i u e=>?_,fun a b i e1 e2=>?_,fun a i e=>?_⟩⟩
 ·show(B.hd b||b==p)=true;rw[e,Bool.true_or]
 ·by_cases q:b=p
  ·rw[q];exact hp
  ·rw[h8 q,n]at e;cases e
 ·by_cases q:b=p
  ·rw[q];obtain⟨x,e2,_⟩:=ho.mem;exact⟨x,e2⟩
  ·rw[tT q]at e;obtain⟨x,e2⟩:=h.hb b e;exact⟨x,s _ _ e2⟩
 ·by_cases q:i<A.length
  ·rw[og q]at e;obtain⟨a,e1,e2⟩:=h.ob i u e;have gV:a≠p:=fun z=>by rw[z,hx]at e1;cases e1
   exact⟨a,by rw[h8 gV];exact e1,up gV e2⟩
  ·rw[v_ (Nat.le_of_not_lt q)]at e;have hi:i - A.length=0:=by
    cases z:i - A.length with
    |zero=>rfl
    |succ k=>rw[z]at e;cases e
   rw[hi]at e;cases e;have:i=A.length:=by omega
   subst this;exact⟨p,hZ,ho⟩
 ·by_cases q1:a=p
  ·by_cases q2:b=p
   ·rw[q1,q2]
   ·rw[q1,hZ]at e1;cases e1;rw[h8 q2]at e2;exact absurd (h.lt b _ e2) (eC _)
  ·by_cases q2:b=p
   ·rw[q2,hZ]at e2;cases e2;rw[h8 q1]at e1;exact absurd (h.lt a _ e1) (eC _)
   ·rw[h8 q1]at e1;rw[h8 q2]at e2;exact h.inj a b i e1 e2
 ·rw[eP,List.length_singleton];by_cases q:a=p
  ·rw[q,hZ]at e;cases e;exact oG _
  ·rw[h8 q]at e;exact lh (h.lt a i e)
theorem i_{u:HO}(h:B.hd a=true):bV B (upd H a u)=bV B H:=by
 unfold bV;congr 1;funext b;by_cases q:b=a
 ·subst q;rw[aS h,aS h]
 ·rw[bb q]
theorem HA.write {o:Ao}{u:HO}(h:HA K B A H)(e:B.ix a=some i)(ho:rL K B (upd H a u) a o):Grows B H B (upd H a u)/\HA K B (A.set i o) (upd H a u):=by
 have hd:B.hd a=true:=ho.hd;have hv:bV B (upd H a u)=bV B H:=i_ hd;refine⟨⟨by rw[hv];exact eL.refl _,fun b x n q=>?_,fun _ _ q=>q,fun b j q n=>by rw[n]at q;cases q⟩,⟨fun b q=>?_,fun j x q=>?_,h.inj,fun b j q=>by rw[ky];exact h.lt b j q⟩⟩
 ·have gV:b≠a:=fun z=>by rw[z,e]at n;cases n
  rw[bb gV];exact q
 ·by_cases z:b=a
  ·subst z;exact⟨u,bG⟩
  ·rw[bb z];exact h.hb b q
 ·rcases fw q with⟨rfl,_,rfl⟩|⟨Am,q⟩
  ·exact⟨a,e,ho⟩
  ·obtain⟨b,e1,e2⟩:=h.ob j x q;have gV:b≠a:=fun z=>by rw[z,e]at e1;cases e1;exact Am rfl
   refine⟨b,e1,?_⟩;cases x with
   |lst ts=>obtain⟨h0,vs,h1,h2⟩:=e2;exact⟨h0,vs,by rw[bb gV];exact h1,by rw[hv];exact h2⟩
   |bT bt=>obtain⟨h0,vs,h1,h2⟩:=e2;exact⟨h0,vs,by rw[bb gV];exact h1,by rw[hv];exact h2⟩
   |u0 bt=>obtain⟨h0,vs,h1,h2,h3⟩:=e2;exact⟨h0,vs,by rw[bb gV];exact h1,h2,by rw[hv];exact h3⟩
   |DH x=>obtain⟨h0,oe,h1,h2⟩:=e2;exact⟨h0,oe,by rw[bb gV];exact h1,h2⟩
   |ins c fs=>
    obtain⟨h0,dx,gZ,h1,h2,h3,h4,h5⟩:=e2;have hdx:dx≠a:=fun z=>by rw[z,e]at h3;cases h3
    exact⟨h0,dx,gZ,by rw[bb gV];exact h1,by rw[bb hdx];exact h2,h3,h4,by rw[hv];exact h5⟩
end
mutual
def vt:Tr->Bool
 |.at _=>false
 |.tup ts=>jk ts
 |.lst ts=>jk ts
 |.bT bt=>FX bt
 |.u0 bt=>FY bt
 |.ob _ fs=>FZ fs
 |_=>true
def jk:List Tr->Bool
 |[]=>true
 |t::ts=>vt t&&jk ts
def FX:List (Key×Tr)->Bool
 |[]=>true
 |p::r=>Pu p&&FX r
def Pu:Key×Tr->Bool
 |(_,t)=>vt t
def FY:List (List Key×Tr)->Bool
 |[]=>true
 |p::r=>Pw p&&FY r
def Pw:List Key×Tr->Bool
 |(_,t)=>vt t
def FZ:List (Str×Tr)->Bool
 |[]=>true
 |p::r=>Px p&&FZ r
def Px:Str×Tr->Bool
 |(_,t)=>vt t
end
theorem zp:∀(bt:List (Key×Tr)),FX bt=jk (bt.map (·.2))
 |[]=>rfl
 |(k,t)::r=>by rw[FX,Pu,bH,jk,zp r]
theorem zq:∀(bt:List (List Key×Tr)),FY bt=jk (bt.map (·.2))
 |[]=>rfl
 |(k,t)::r=>by rw[FY,Pw,bH,jk,zq r]
theorem zr:∀(bt:List (Str×Tr)),FZ bt=jk (bt.map (·.2))
 |[]=>rfl
 |(k,t)::r=>by rw[FZ,Px,bH,jk,zr r]
mutual
def IK:Tr->Bool
 |.cu=>true
 |.bl _=>true
 |.int _=>true
 |.str _=>true
 |.ty _=>true
 |.at _=>true
 |.tup ts=>mB ts
 |_=>false
def mB:List Tr->Bool
 |[]=>true
 |t::ts=>IK t&&mB ts
end
def aU:Nat->Ab->Tr->Tr
 |0,_,t=>t
 |n+1,A,.at i=>match A[i]? with
  |some (.lst ts)=>.lst (ts.map (aU n A))
  |some (.bT bt)=>.bT (bt.map fun p=>(p.1,aU n A p.2))
  |some (.u0 bt)=>.u0 (bt.map fun p=>(p.1,aU n A p.2))
  |some (.ins c fs)=>.ob c (fs.map fun p=>(p.1,aU n A p.2))
  |some (.DH x)=>.zd x
  |none=>.at i
 |_+1,_,t=>t
def eW.un (B:eW):eW:=⟨fun b=>B.hd b&&(B.ix b).isNone,B.ix⟩
section
variable {B':eW}{A:Ab}
theorem Py:u3 B.un B:=⟨fun b e=>by
 have e':(B.hd b&&(B.ix b).isNone)=true:=e;rw[bP]at e';exact e'.1,fun _ _ e=>e⟩
theorem iF:eL (bV B H) (bV B.un H):=xj Py
theorem Ck(h:HB B H):HB B.un H:=fun b e=>h b (Py.hd b e)
theorem Cm(e:B.ix a=some i):(bV B.un H).H a=H a:=fL (by show(B.hd a&&(B.ix a).isNone)=false;rw[e];exact wJ _)
theorem pA{W W':Vw}{f:Tr->Tr}(h:∀{v t},Rep K W v t->Rep K W' v (f t)):∀{vs:List V} {ts:List Tr},bI K W vs ts->bI K W' vs (ts.map f)
 |[],_,r=>by cases r;exact .nil
 |_::_,_,r=>by cases r with|cons h1 r=>exact .cons (h h1) (pA h r)
theorem jl(ha:HA K B A H):∀(n:Nat) {v:V} {t:Tr},Rep K (bV B H) v t->Rep K (bV B.un H) v (aU n A t)
 |0,v,t,r=>by rw[aU];exact r.same iF
 |n+1,v,t,r=>by
  cases r with
  |@«at» a i h=>
   have e:B.ix a=some i:=h;obtain⟨o,q,ao⟩:=ha.ex e;rw[aU,q];cases o with
   |lst ts=>
    obtain⟨h0,vs,h1,h2⟩:=ao;exact .lst (by rw[Cm e];exact h1) (pA (fun r=>jl ha n r) h2)
   |bT bt=>
    obtain⟨h0,kvs,h1,h2⟩:=ao;refine .bT (.inl (by rw[Cm e];exact h1)) (by rw[h2.keys,cF];rfl) ?_
    have:=pA (fun r=>jl ha n r) h2.vals;rw[cF]at this⊢;exact this
   |DH x=>obtain⟨h0,oe,h1,h2⟩:=ao;exact .zd (by rw[Cm e];exact h1) h2
   |u0 bt=>
    obtain⟨h0,kvs,h1,h2,h3⟩:=ao;refine .u0 (by rw[Cm e];exact h1) (by rw[h2,cF];rfl) ?_
    have:=pA (fun r=>jl ha n r) h3;rw[cF]at this⊢;exact this
   |ins c fs=>
    obtain⟨h0,dx,gZ,h1,h2,h3,h4,h5⟩:=ao;refine .ob (by rw[Cm e];exact h1) (by rw[h4,cF];rfl) ?_
    have:=pA (fun r=>jl ha n r) h5;rw[cF]at this⊢;exact this
  |cu=>exact .cu
  |bl b=>exact .bl b
  |int i=>exact .int i
  |str z h=>exact .str z h
  |ty m=>exact .ty m
  |uZ h=>exact .uZ (iF.h.seq h)
  |tup h r=>exact .tup (iF.h.tup h) (r.same iF)
  |lst h r=>exact .lst (iF.h _ _ h) (r.same iF)
  |bT h e r=>exact .bT (h.same iF.h) e (r.same iF)
  |u0 h e r=>exact .u0 (iF.h _ _ h) e (r.same iF)
  |ob h e r=>exact .ob (iF.h _ _ h) e (r.same iF)
  |zd h c=>exact .zd (iF.h _ _ h) c
theorem RT(ha:HA K B A H){x:HO}(e:(bV B.un H).H a=some x)(hx:(∃vs,x=.tup vs)\/∃o u,x=.kR o u):(bV B H).H a=some x:=by
 have e1:=bD a x e;cases q:B.hd a with
 |false=>rw[fL q];exact e1
 |true=>
  cases z:B.ix a with
  |none=>
   have e2:(if B.un.hd a=true then none else H a)=some x:=e;rw[show B.un.hd a=(B.hd a&&(B.ix a).isNone)from rfl,q,z]at e2;cases e2
  |some i=>
   obtain⟨o,_,ao⟩:=ha.ex z;obtain⟨y,e3,n1,n2⟩:=ao.mem;rw[e1]at e3;cases e3;rcases hx with⟨vs,rfl⟩|⟨o,u,rfl⟩
   ·exact absurd rfl (n1 vs)
   ·exact absurd rfl (n2 o u)
structure lx(W W':Vw):Prop where
 h:∀a x,W.H a=some x->((∃vs,x=.tup vs)\/∃o u,x=.kR o u)->W'.H a=some x
 x:∀a i,W.ix a=some i->W'.ix a=some i
theorem lx.un (ha:HA K B A H):lx (bV B.un H) (bV B H):=⟨fun a x e hx=>RT ha e hx,fun _ _ e=>e⟩
theorem lx.trans {W W1 W2:Vw}(a:lx W W1)(b:lx W1 W2):lx W W2:=⟨fun c x e hx=>b.h c x (a.h c x e hx) hx,fun c i e=>b.x c i (a.x c i e)⟩
theorem lx.new {p:Addr}{x:HO}(hx:B.ix p=none)(hp:H p=some x)(n1:∀vs,x≠ .tup vs)(n2:∀o u,x≠ .kR o u):lx (bV B H) (bV (pz B p i) H):=⟨fun a y e hy=>by
 have e1:=bD a y e;have gV:a≠p:=fun z=>by
  rw[z,hp]at e1;cases e1;rcases hy with⟨vs,z⟩|⟨o,u,z⟩
  ·exact n1 vs z
  ·exact n2 o u z
 have hB:B.hd a=false:=by
  cases q:B.hd a with
  |false=>rfl
  |true=>
   have e2:(if B.hd a=true then none else H a)=some y:=e;rw[q,aS rfl]at e2;cases e2
 rw[fL (by rw[tT gV];exact hB)];exact e1,fun a j e=>by
 have gV:a≠p:=fun z=>by rw[z]at e;rw[show(bV B H).ix p=B.ix p from rfl,hx]at e;cases e
 show(pz B p i).ix a=some j;rw[h8 gV];exact e⟩
theorem F0{W W':Vw}(s:lx W W'){v:V}{t:Tr}(h:Rep K W v t):IK t=true->Rep K W' v t:=by
 refine Rep.rec (motive_1:=fun v t _=>IK t=true->Rep K W' v t) (motive_2:=fun vs ts _=>mB ts=true->bI K W' vs ts) ?_ ?_ ?_ ?_ ?_ ?_ ?_ ?_ ?_ ?_ ?_ ?_ ?_ ?_ ?_ h
 ·exact fun _=>.cu
 ·exact fun b _=>.bl b
 ·exact fun i _=>.int i
 ·exact fun z h _=>.str z h
 ·exact fun n _=>.ty n
 ·exact fun h f=>nomatch f
 ·intro a vs ts h _ ih f;refine .tup ?_ (ih f)
  rcases h with(h|⟨o,h⟩)|h
  ·exact .inl (.inl (s.h _ _ h (.inl ⟨_,rfl⟩)))
  ·exact .inl (.inr ⟨o,s.h _ _ h (.inr ⟨_,_,rfl⟩)⟩)
  ·exact .inr h
 ·exact fun h _ _ f=>nomatch f
 ·exact fun h _ _ _ f=>nomatch f
 ·exact fun h _=>.at (s.x _ _ h)
 ·exact fun h _ _ _ f=>nomatch f
 ·exact fun h _ _ _ f=>nomatch f
 ·exact fun h c f=>nomatch f
 ·exact fun _=>.nil
 ·intro v t vs ts _ _ ih1 ih2 f;rw[mB,bP]at f;exact .cons (ih1 f.1) (ih2 f.2)
theorem pB{W W':Vw}(s:lx W W'):∀{vs:List V} {ts:List Tr},bI K W vs ts->mB ts=true->bI K W' vs ts
 |[],_,r,_=>by cases r;exact .nil
 |_::_,_,r,f=>by
  cases r with
  |cons h r=>
   rw[mB,bP]at f;exact .cons (F0 s h f.1) (pB s r f.2)
theorem zt(ha:HA K B A H){v:V}{t:Tr}(h:Rep K (bV B.un H) v t)(f:IK t=true):Rep K (bV B H) v t:=F0 (.un ha) h f
theorem Rep.JS {W W':Vw}(s:ba W.H W'.H){v:V}{t:Tr}(h:Rep K W v t):vt t=true->Rep K W' v t:=by
 refine Rep.rec (motive_1:=fun v t _=>vt t=true->Rep K W' v t) (motive_2:=fun vs ts _=>jk ts=true->bI K W' vs ts) ?_ ?_ ?_ ?_ ?_ ?_ ?_ ?_ ?_ ?_ ?_ ?_ ?_ ?_ ?_ h
 ·exact fun _=>.cu
 ·exact fun b _=>.bl b
 ·exact fun i _=>.int i
 ·exact fun z h _=>.str z h
 ·exact fun n _=>.ty n
 ·exact fun h _=>.uZ (s.seq h)
 ·exact fun h _ ih f=>.tup (s.tup h) (ih f)
 ·exact fun h _ ih f=>.lst (s _ _ h) (ih f)
 ·intro a kvs bt h e _ ih f;refine .bT (Rd.same s h) e (ih ?_);rw[vt,zp]at f;exact f
 ·exact fun h f=>nomatch f
 ·intro a kvs bt h e _ ih f;refine .u0 (s _ _ h) e (ih ?_);rw[vt,zq]at f;exact f
 ·intro a c dx gZ fs h e _ ih f;refine .ob (s _ _ h) e (ih ?_);rw[vt,zr]at f;exact f
 ·exact fun h c _=>.zd (s _ _ h) c
 ·exact fun _=>.nil
 ·intro v t vs ts _ _ ih1 ih2 f;rw[jk,bP]at f;exact .cons (ih1 f.1) (ih2 f.2)
theorem bI.JS {W W':Vw}(s:ba W.H W'.H):∀{vs:List V} {ts:List Tr},bI K W vs ts->jk ts=true->bI K W' vs ts
 |[],_,r,_=>by cases r;exact .nil
 |_::_,_,r,f=>by
  cases r with
  |cons h r=>
   rw[jk,bP]at f;exact .cons (h.JS s f.1) (bI.JS s r f.2)
end
def Wa(A:Ab):Cell->Cell
 |.sh t=>.sh (aU 5 A t)
 |c=>c
def dc(A:Ab)(Y:bO):bO:=Y.map (Wa A)
theorem cB.NF {A:Ab}{Y:bO}(ha:HA K B A H)(n:fy Y)(h:cB K B H Z Y):cB K B.un H Z (dc A Y):=by
 have no:∀i ts,(dc A Y)[i]? ≠some (Cell.ow ts):=fun i ts e=>by
  unfold dc at e;rw[bW]at e;cases q:Y[i]? with
  |none=>rw[q]at e;cases e
  |some c=>
   rw[q]at e;cases c with
   |no=>cases e
   |sh t=>cases e
   |ow us=>exact n i us q
 refine⟨by unfold dc;rw[bj];exact h.len,fun i t e=>?_,fun i ts e=>absurd e (no i ts),fun i j ts us D _ e=>absurd e (no i ts)⟩;unfold dc at e;rw[bW]at e;cases q:Y[i]? with
 |none=>rw[q]at e;cases e
 |some c=>
  rw[q]at e;cases c with
  |no=>cases e
  |ow us=>exact absurd q (n i us)
  |sh u=>
   obtain⟨v,e1,r⟩:=h.sh i u q;have e2:aU 5 A u=t:=by
    have e3:=Option.some.inj e;exact(Cell.sh.inj e3)
   rw[<-e2];exact⟨v,e1,jl ha 5 r⟩
theorem cB.grow {B':eW}{H':Hp}{Y:bO}(h:cB K B H Z Y)(n:fy Y)(g:Grows B H B' H'):cB K B' H' Z Y:=
 ⟨h.len,fun i t e=>by obtain⟨v,e1,r⟩:=h.sh i t e;exact⟨v,e1,r.same g.jw⟩,fun i ts e=>absurd e (n i ts),fun i j ts us D _ e=>absurd e (n i ts)⟩
theorem cR.get {h:Heap}{o:HO}(x:cR P w H h a o):∃u,h.get? a=some u:=by
 cases o with
 |lst xs=>obtain⟨_,_,_,_,e⟩:=x;exact⟨_,e⟩
 |tup xs=>obtain⟨_,_,_,o,e,_⟩:=x;exact⟨o,e⟩
 |dK kvs=>obtain⟨_,_,_,_,o,_,_,e,_⟩:=x;exact⟨o,e⟩
 |dT kvs=>obtain⟨_,_,_,_,o,_,_,e,_⟩:=x;exact⟨o,e⟩
 |set S n=>obtain⟨o,_,_,_,e,_⟩:=x;exact⟨o,e⟩
 |ins C dx fs=>obtain⟨_,_,_,e,_⟩:=x;exact⟨_,e⟩
 |own y=>exact x
 |xd fs=>obtain⟨_,⟨_,_,_,e,_⟩,_⟩:=x;exact⟨_,e⟩
 |YG lo hi=>obtain⟨_,_,_,e⟩:=x;exact⟨_,e⟩
 |kR ob u=>obtain⟨e,_⟩:=x;exact⟨_,e⟩
 |O1 ps=>exact⟨_,(show h.get? a=some _ from x)⟩
 |met f y=>exact⟨_,(show h.get? a=some _ from x)⟩
 |ext φ=>obtain⟨_,e,_⟩:=x;exact e
structure Pz(h0:Heap)(H:Hp)(h:Heap)(a:Addr)(cls:Value):Prop where
 ob:∃oe vs a0,h.get? a=some oe/\oe.cls=cls/\oe.data=.fields vs/\vs[0]?=some a0/\
  (vs[1]?=some .none\/∃T oT ts,vs[1]?=some (.ref T)/\T≠a/\h0.get? T=none/\H T=none/\h.get? T=some oT/\oT.data=.fields ts/\ts[3]?=some .none)
 fr:H a=none
 nw:h0.get? a=none
def XS(X:Cx)(H:Hp)(cls e:Value)(s:Shared):Prop:=∃a U Z h0,e=.ref a/\Inv X U Z H s/\Pz h0 H s.heap a cls/\(∀b,h0.get? b=none->X.f9.heap.get? b=none)/\(∀p∈X.pn,∃o,h0.get? p.1=some o)/\∀b,s.heap.get? b=none->h0.get? b=none
def EX(X:Cx):XK:=fun cls _ H=>∀e s,XS X H cls e s->X.xe e s
def uF(P:Program)(w:World):BO:=fun outer H s E e s'=>∃a cls H',e=.ref a/\s'.os=s.os/\AllBare s'.gens/\Un (jG outer) [] H H' s.heap s'.heap/\rB P w H' s'.heap/\Pz s.heap H' s'.heap a cls/\E cls none H'
theorem Pz.Wb {h0 h1 h:Heap}{cls:Value}(u:Pz h1 H h a cls)(k:∀b,h1.get? b=none->h0.get? b=none):Pz h0 H h a cls:=by
 obtain⟨⟨oe,vs,a0,e1,e2,e3,e4,e5⟩,f,n⟩:=u;refine⟨⟨oe,vs,a0,e1,e2,e3,e4,?_⟩,f,k a n⟩;rcases e5 with e5|⟨T,oT,ts,q1,q2,q3,q4⟩
 ·exact .inl e5
 ·exact .inr ⟨T,oT,ts,q1,q2,k T q3,q4⟩
theorem Inv.Cn (I:Inv X U Z H s)(hx:X.ex=[]){b:Addr}(n:s.heap.get? b=none):X.f9.heap.get? b=none:=by
 cases q:X.f9.heap.get? b with
 |none=>rfl
 |some o=>
  obtain⟨o',e⟩:=I.base.there b o q (by rw[hx];simp);rw[n]at e;cases e
theorem mC(hx:X.ex=[]):Passes (uF X.prog X.w) X (EX X):=by
 intro U Z H s e s' I z;obtain⟨a,cls,H',rfl,os,bare,un,cP,F1,q⟩:=z;have ce:CE X.stack X.prog X.w H s (fun _ H2=>H2=H') .none s':=⟨.cu,H',os,bare,un,cP,rfl,rfl⟩;obtain⟨v,H2,I2,_,rfl⟩:=I.after ce;exact q (.ref a) s' ⟨a,U,Z,s.heap,rfl,I2,F1,fun b n=>I.Cn hx n,fun p hp=>⟨_,(I.pin p (jO _ hp)).1⟩,fun b n=>by
  cases z:s.heap.get? b with
  |none=>rfl
  |some o=>obtain⟨o',e⟩:=un.there b o z (by simp);rw[n]at e;cases e⟩
section
variable {base:Heap}{outer:List Env}{E:XK}
theorem JT{cls e:Value}{s':Shared}(x:XS (n5 (uF P w) P w K mg base ps av ax au af A outer s H E) ac cls e s')(q:E cls none ac):(n5 (uF P w) P w K mg base ps av ax au af A outer s H E).xe e s':=by
 obtain⟨a,U,Z,h00,rfl,I,aag,old,_,_⟩:=x;have F1:=aag.Wb (h0:=s.heap) old;obtain⟨⟨oe,vs,a0,he,Aa,hd,h0,h1⟩,fr,nw⟩:=F1
 let env:=envOfC av ax s.heap.objs.size au af
 have Ut:(A.deeper env).frames=some (env::outer):=I.ok.frames;have hk:s'.heap.FunFrames base (env::outer):=I.stack;have Uu:∀L∈jG (env::outer),ac L=none/\∃o,s'.heap.get? L=some o/\∀ws,o.data≠ .fields ws:=fun L hL=>⟨I.vJ L hL,(hk.mem hL).2⟩;have haf:a∉jG (env::outer):=fun m=>by
  obtain⟨_,o,e1,e2⟩:=Uu a m;rw[he]at e1;cases e1;exact e2 vs hd
 have fin:∀(hs:List Addr) (h':Heap),(∀b∈hs,ac b=none/\(b∈jG (env::outer)\/s.heap.get? b=none))->(∀b∈jG (env::outer),b∈hs)->a∈hs->(∀b∈hs,b∈jG (env::outer)\/b=a\/ac b=none)->
   Heap.LeftW (PySem.W.hideAll s'.heap hs) (env::outer) a cls a0 s'.heap h'->uF P w outer H s E (.ref a) {s' with heap:=h'}:=by
  intro hs h' hh Qf aa9 _ ⟨k1,k2,k3,k4⟩;have kp:∀b o,b∉hs->s'.heap.get? b=some o->h'.get? b=some o:=fun b o nb e=>k1 b o (lZ _ e nb);have old:∀b o,s.heap.get? b=some o->b∉jG outer->b∉hs:=fun b o e nf m=>by
   rcases(hh b m).2 with z|z
   ·unfold jG at z;rw[ou]at z;have z':b∈s.heap.objs.size::jG outer:=z;rcases bB.mp z' with z'|z'
    ·exact absurd (bp e) (by rw[z'];exact eC _)
    ·exact nf z'
   ·rw[e]at z;cases z
  have sl:∀b o,s'.heap.get? b=some o->b∈jG outer->∃sl,h'.get? b=some {o with slots:=sl}:=fun b o e m=>by
   obtain⟨_,o2,e2,nf⟩:=Uu b (by unfold jG at m⊢;rw[ou];exact b_ _ m);rw[e]at e2;cases e2;exact k4 b o e nf
  have pins:Un (jG outer) [] H ac s.heap s'.heap:=I.base;refine⟨a,cls,ac,rfl,I.os,I.bare,⟨fun b o e n nf nx=>?_,fun b o e n m nx=>?_,pins.free,fun b o e nx=>?_,pins.mn,pins.kT,pins.m6⟩,fun b o e=>?_,⟨?_,fr,nw⟩,q⟩
  ·exact kp b o (old b o e nf) (pins.keep b o e n nf nx)
  ·obtain⟨s1,e1⟩:=pins.slot b o e n m nx;obtain⟨s2,e2⟩:=sl b _ e1 m;exact⟨s2,e2⟩
  ·obtain⟨o1,e1⟩:=pins.there b o e nx;by_cases m:b∈jG outer
   ·obtain⟨s2,e2⟩:=sl b o1 e1 m;exact⟨_,e2⟩
   ·exact⟨o1,kp b o1 (old b o e m) e1⟩
  ·refine(I.cP b o e).o6 (fun c u hc z=>kp c u (fun m=>?_) z) (fun _ z=>z) fun _ _ z=>z;have n:=(hh c m).1;rcases hc with rfl|hc
   ·rw[n]at e;cases e
   ·rw[n]at hc;cases hc
  ·obtain⟨oe2,vs2,T,oT,ts,q1,⟨q2,q3⟩,q4,q5,q6,q7,q8,q9,q10⟩:=k3;refine⟨oe2,vs2,a0,q1,q2,q4,q3,.inr ⟨T,oT,ts,q5,q7,?_,?_,q8,q9,q10⟩⟩
   ·by_cases m:T∈hs
    ·rcases(hh T m).2 with z|z
     ·obtain⟨o3,e3,n3⟩:=(k2.mem z).2;rw[q8]at e3;cases e3;exact absurd q9 (n3 ts)
     ·exact z
    ·cases z:s.heap.get? T with
     |none=>rfl
     |some o=>
      obtain⟨o1,e1⟩:=pins.there T o z (by simp);rw[lZ _ e1 m]at q6;cases q6
   ·by_cases m:T∈hs
    ·exact(hh T m).1
    ·cases z:ac T with
     |none=>rfl
     |some o=>
      obtain⟨u,e1⟩:∃u,s'.heap.get? T=some u:=(I.cP T o z).get;rw[lZ _ e1 m]at q6;cases q6
 have kU:∀e∈(env::outer),∀b,e.frame=some b->b∈jG (env::outer):=fun e he b hb=>k_.mpr ⟨e,he,hb⟩;show wpAny (model P w) (A.deeper env) (leaving env (.ref a)) (fun _ QU=>uF P w outer H s E (.ref a) QU) _ s';rcases h1 with h1|⟨T,oT,ts,h1,hTa,hT0,Ml,hT,YY,h3⟩
 ·let hs:=a::jG (env::outer)
  refine wpAny_leaving_firstW (base:=PySem.W.hideAll s'.heap hs) Ut (oo hk fun e he b hb=>b_ _ (kU e he b hb)) rfl he (fun b o z=>l0 _ z) (kY _ (cp ..)) hd h1 h0 fun h' hL=>?_
  rw[Aa]at hL;refine fin hs h' (fun b m=>?_) (fun b m=>b_ _ m) (cp ..) (fun b m=>?_) hL
  ·rcases bB.mp m with rfl|m
   ·exact⟨fr,.inr nw⟩
   ·exact⟨(Uu b m).1,.inl m⟩
  ·rcases bB.mp m with rfl|m
   ·exact .inr (.inl rfl)
   ·exact .inl m
 ·let hs:=a::T::jG (env::outer)
  refine wpAny_leaving_nextW (base:=PySem.W.hideAll s'.heap hs) (cls:=cls) (a0:=a0) Ut (oo hk fun e he b hb=>b_ _ (b_ _ (kU e he b hb))) rfl
   ⟨oe,vs,T,oT,ts,he,⟨Aa,h0⟩,hd,h1,kY _ (b_ _ (cp ..)),hTa,hT,YY,h3⟩ (fun b o z=>l0 _ z) (kY _ (cp ..)) fun h' hL=>?_
  refine fin hs h' (fun b m=>?_) (fun b m=>b_ _ (b_ _ m)) (cp ..) (fun b m=>?_) hL
  ·rcases bB.mp m with rfl|m
   ·exact⟨fr,.inr nw⟩
   ·rcases bB.mp m with rfl|m
    ·exact⟨Ml,.inr hT0⟩
    ·exact⟨(Uu b m).1,.inl m⟩
  ·rcases bB.mp m with rfl|m
   ·exact .inr (.inl rfl)
   ·rcases bB.mp m with rfl|m
    ·exact .inr (.inr Ml)
    ·exact .inl m
end
inductive Rz(α:Type) where
 |bad|ok (a:α) (A:Ab)|exc (c:Tr) (A:Ab)
variable {aG:bO->Ab->Rz (List Tr)}{aH aI:bO->Ab->Rz Tr}{aJ:bO->Ab->Rz Out}
def Rz.bind {α β:Type}(r:Rz α)(f:α->Ab->Rz β):Rz β:=match r with
 |.ok a A=>f a A
 |.exc c A=>.exc c A
 |.bad=>.bad
def gA(xc:Tr->Ab->Prop){α:Type}(r:Rz α)(k:α->Ab->Prop):Prop:=match r with
 |.ok a A=>k a A
 |.exc c A=>xc c A
 |.bad=>False
section
variable {β:Type}{r:Rz ag}{k k':ag->Ab->Prop}{xc Up:Tr->Ab->Prop}
theorem gA.mono (h:gA xc r k)(w:∀a A,k a A->k' a A):gA xc r k':=by
 cases r with
 |ok a A=>exact w a A h
 |_=>exact h
theorem gA.imp (h:gA xc r k)(w:∀c A,xc c A->Up c A):gA Up r k:=by
 cases r with
 |ok a A=>exact h
 |exc c A=>exact w c A h
 |bad=>exact h
theorem gA.bind {f:ag->Ab->Rz β}{k:β->Ab->Prop}(h:gA xc (r.bind f) k):gA xc r fun a A=>gA xc (f a A) k:=by
 cases r with
 |_=>exact h
end
def gs{α:Type}(r:Rs α)(A:Ab):Rz α:=match r with
 |.ok a=>.ok a A
 |_=>.bad
theorem mD{X:Cx}{H:Hp}{xc:Tr->Ab->Prop}{r:Rs ag}{A:Ab}{k:ag->Ab->Prop}(q:gA xc (gs r A) k):Fi X H r fun a=>k a A:=by
 cases r with
 |ok a=>exact q
 |exc c=>exact fe q
 |bad=>exact q
def Wc(K:Frag):Tr->Value
 |.str x=>.ref (clsAt K x)
 |_=>.none
def XE(X:Cx)(B:eW)(H:Hp):Tr->Ab->Prop:=fun c A=>∀B' H',Grows B H B' H'->HA X.K B' A H'->EX X (Wc X.K c) none H'
theorem XE.grow {B':eW}{H':Hp}{c:Tr}{A:Ab}(hb:HB B H)(h:XE X B H c A)(g:Grows B H B' H'):XE X B' H' c A:=fun B2 H2 g2 ha=>h B2 H2 (g.trans hb g2) ha
inductive tE(X:Cx)(F:bO->Ab->Rz Tr)(Z:St)(H:Hp)(Q:VK):Prop
 |mk (B:eW) (A:Ab) (Y:bO):HA X.K B A H->cB X.K B H Z Y->fy Y->(gA (XE X B H) (F Y A) fun t A'=>∀v B' H',Grows B H B' H'->HA X.K B' A' H'->Rep X.K (bV B' H') v t->Q v H')->tE X F Z H Q
inductive PB(X:Cx)(F:bO->Ab->Rz Bool)(Z:St)(H:Hp)(Q:Bool->Hp->Prop):Prop
 |mk (B:eW) (A:Ab) (Y:bO):HA X.K B A H->cB X.K B H Z Y->fy Y->(gA (XE X B H) (F Y A) fun b A'=>∀B' H',Grows B H B' H'->HA X.K B' A' H'->Q b H')->PB X F Z H Q
inductive Mm(X:Cx)(F:bO->Ab->Rz (List Tr))(Z:St)(H:Hp)(Q:List V->Hp->Prop):Prop
 |mk (B:eW) (A:Ab) (Y:bO):HA X.K B A H->cB X.K B H Z Y->fy Y->(gA (XE X B H) (F Y A) fun ts A'=>∀vs B' H',Grows B H B' H'->HA X.K B' A' H'->bI X.K (bV B' H') vs ts->Q vs H')->Mm X F Z H Q
def RU(H H':Hp)(p:Addr):Prop:=H p=none/\∀o u,H' p≠some (.kR o u)
theorem RU.lst {H':Hp}{p:Addr}(h:H p=none)(r:Rep K (bV B H') (.ref p) (.lst ts)):RU H H' p:=by
 cases r with
 |lst e _=>exact⟨h,fun o u z=>by rw[bD _ _ e]at z;cases z⟩
theorem RU.upd {H1:Hp}{p:Addr}{x:HO}(h:H p=none)(hx:∀o u,x≠ .kR o u):RU H (L2.upd H1 p x) p:=⟨h,fun o u z=>by rw[bG]at z;cases z;exact hx _ _ rfl⟩
inductive tF(X:Cx)(F:bO->Rs Tr)(Z:St)(H:Hp)(Q:VK):Prop
 |mk (B:eW) (Y:bO):HB B H->cB X.K B H Z Y->(Fi X H (F Y) fun t=>∀v H',ba H H'->Rep X.K (bV B H') v t->(∀p,v=.ref p->RU H H' p)->Q v H')->tF X F Z H Q
def rW(r:Rs Tr)(A:Ab):Rz Tr:=match r with
 |.ok t=>if IK t=true then .ok t A else .bad
 |_=>.bad
def uG(r:Rs Tr)(A:Ab):Rz Tr:=match r with
 |.ok (.lst ts)=>if mB ts=true then .ok (.at A.length) (A++[.lst ts])else .bad
 |.ok (.bT bt)=>if mB (bt.map (·.2))=true then .ok (.at A.length) (A++[.bT bt])else .bad
 |.ok (.u0 bt)=>if mB (bt.map (·.2))=true then .ok (.at A.length) (A++[.u0 bt])else .bad
 |_=>.bad
theorem Co{Q:VK}(q:tE X (fun Y A=>gs (F Y) A) Z H Q):tP X F Z H Q:=by
 obtain⟨B,A,Y,ha,r,_,q⟩:=q;exact⟨B,Y,ha.hb,r,(mD q).mono fun t qt v H' s rv=>qt v B H' (.of s) (ha.same s) rv⟩
theorem RV(h:PE X e (tP X F)):PE X e (tE X fun Y A=>gs (F Y) A):=h.weak fun Z H Q q=>Co q
theorem RW(h:PE X e (tP X F)):PE X e (tE X fun Y A=>rW (F (dc A Y)) A):=
 h.weak fun Z H Q ⟨B,A,Y,ha,r,n,q⟩=>⟨B.un,dc A Y,Ck ha.hb,r.NF ha n,by
   have q:gA (XE X B H) (rW (F (dc A Y)) A) _:=q;cases e:F (dc A Y)with
   |bad=>rw[e]at q;exact q
   |exc c=>rw[e]at q;exact fe q
   |ok t=>
    rw[e]at q;intro v H' s rv;by_cases f:IK t=true
    ·have q':gA _ (if IK t=true then Rz.ok t A else .bad) _:=q;rw[aS f]at q';exact q' v B H' (.of s) (ha.same s) (zt (ha.same s) rv f)
    ·have q':gA _ (if IK t=true then Rz.ok t A else .bad) _:=q;rw[aW f]at q';exact fe q'⟩
theorem NG(h:PT X e (tQ X aE)):PT X e (PB X fun Y A=>gs (aE (dc A Y)) A):=
 h.weak fun Z H Q ⟨B,A,Y,ha,r,n,q⟩=>⟨B.un,dc A Y,Ck ha.hb,r.NF ha n,(mD q).mono fun t qt H' s=>qt B H' (.of s) (ha.same s)⟩
theorem g0{c:Prop}[Decidable c]{xc:Tr->Ab->Prop}{r:Rz ag}{k:ag->Ab->Prop}(h:gA xc (if c then r else .bad) k):c/\gA xc r k:=by
 by_cases q:c
 ·rw[aS q]at h;exact⟨q,h⟩
 ·rw[aW q]at h;exact fe h
theorem rM{Q:VK}(q:tE X (fun Y A=>uG (F (dc A Y)) A) Z H Q):tF X F Z H Q:=by
  obtain⟨B,A,Y,ha,r,n,q⟩:=q;refine⟨B.un,dc A Y,Ck ha.hb,r.NF ha n,?_⟩;have q:gA (XE X B H) (uG (F (dc A Y)) A) _:=q;cases e:F (dc A Y)with
  |bad=>rw[e]at q;exact q
  |exc c=>rw[e]at q;exact fe q
  |ok t=>
   rw[e]at q;intro v H' s rv fr;have jH:=ha.same s;cases rv with
   |@lst p vs ts h rr=>
    have hp:=(fr p rfl).1;obtain⟨f,q'⟩:=g0 q;have h1:H' p=some (.lst vs):=bD _ _ h;obtain⟨g,h2⟩:=ha.push (o:=.lst ts) hp s ⟨qi,vs,h1,pB ((lx.un jH).trans (.new (ha.free hp) h1 (fun _ z=>by cases z) fun _ _ z=>by cases z)) rr f⟩;exact q' _ _ H' g h2 (.at hZ)
   |@bT p kvs bt h ek rr=>
    have hp:=(fr p rfl).1;obtain⟨f,q'⟩:=g0 q;have h1:H' p=some (.dK kvs):=by
     rcases h.same bD with h|⟨o,h⟩
     ·exact h
     ·exact((fr p rfl).2 _ _ h).elim
    obtain⟨g,h2⟩:=ha.push (o:=.bT bt) hp s ⟨qi,kvs,h1,ek,pB ((lx.un jH).trans (.new (ha.free hp) h1 (fun _ z=>by cases z) fun _ _ z=>by cases z)) rr f⟩;exact q' _ _ H' g h2 (.at hZ)
   |@u0 p kvs bt h ek rr=>
    have hp:=(fr p rfl).1;obtain⟨f,q'⟩:=g0 q;have h1:H' p=some (.dT kvs):=bD _ _ h;obtain⟨g,h2⟩:=ha.push (o:=.u0 bt) hp s ⟨qi,kvs,h1,ek,pB ((lx.un jH).trans (.new (ha.free hp) h1 (fun _ z=>by cases z) fun _ _ z=>by cases z)) rr f⟩;exact q' _ _ H' g h2 (.at hZ)
   |_=>exact fe q
theorem Wd(h:PE X e (tF X F)):PE X e (tE X fun Y A=>uG (F (dc A Y)) A):=h.weak fun Z H Q q=>rM q
def u6(X:Cx)(D:Ends)(B0:eW)(H0:Hp):Out->Ab->Prop
 |.nx Y,A=>∀di B' H',Grows B0 H0 B' H'->HA X.K B' A H'->cB X.K B' H' di Y->fy Y->D.nx di H'
 |.ret t,A=>∀v B' H',Grows B0 H0 B' H'->HA X.K B' A H'->Rep X.K (bV B' H') v t->D.rt v H'
 |.bk Y,A=>∀di B' H',Grows B0 H0 B' H'->HA X.K B' A H'->cB X.K B' H' di Y->fy Y->D.bk di H'
 |.ct Y,A=>∀di B' H',Grows B0 H0 B' H'->HA X.K B' A H'->cB X.K B' H' di Y->fy Y->D.ct di H'
inductive tZ(X:Cx)(G:bO->Ab->Rz Out)(D:Ends)(Z:St)(H:Hp):Prop
 |mk (B0:eW) (H0:Hp) (B:eW) (A:Ab) (Y:bO):HB B0 H0->Grows B0 H0 B H->HA X.K B A H->cB X.K B H Z Y->fy Y->gA (XE X B0 H0) (G Y A) (u6 X D B0 H0)->tZ X G D Z H
section
variable {b c:Expr}{F:bO->Ab->Rz Tr}{G':bO->Ab->Rz Out}{P:bO->Ab->Rz Bool}
def Ej(r:Rz Out)(aJ:bO->Ab->Rz Out):Rz Out:=r.bind fun o A=>match o with
 |.nx Y=>aJ Y A
 |.ret t=>.ok (.ret t) A
 |.bk Y=>.ok (.bk Y) A
 |.ct Y=>.ok (.ct Y) A
theorem We:n_ X [] (tZ X fun Y A=>.ok (.nx Y) A):=Ff.weak fun D Z H ⟨B0,H0,B,A,Y,hb,g,ha,r,n,q⟩=>q Z B H g ha r n
theorem RX(h1:PS X ai (tZ X aJ))(h2:n_ X ah (tZ X G')):n_ X (ai::ah) (tZ X fun Y A=>Ej (aJ Y A) G'):=
 (BM h1 h2).weak fun D Z H ⟨B0,H0,B,A,Y,hb,g,ha,r,n,q⟩=>⟨B0,H0,B,A,Y,hb,g,ha,r,n,q.bind.mono fun o A1 qo=>by
  cases o with
  |nx g9=>exact fun di B' H' g' jH r' n'=>⟨B0,H0,B',A1,g9,hb,g',jH,r',n',qo⟩
  |ret t=>exact qo
  |bk g9=>exact qo
  |ct g9=>exact qo⟩
theorem Wf(h1:PS X ai (tZ X aJ)):n_ X [ai] (tZ X aJ):=Fg h1
theorem Wg:PE X e (tE X fun _ _=>.bad):=fun _ _ _ _ _ _ ⟨_,_,_,_,_,_,q⟩=>(show False from q).elim
theorem pC{B0:eW}{A:Ab}{Y:bO}{k:Tr->Ab->Prop}(hb:HB B0 ac)(g:Grows B0 ac B H)(ha:HA X.K B A H)(r:cB X.K B H Z Y)(n:fy Y)(q:gA (XE X B0 ac) (F Y A) k){Q:VK}
  (hq:∀t A' v B' H',k t A'->Grows B0 ac B' H'->HA X.K B' A' H'->cB X.K B' H' Z Y->Rep X.K (bV B' H') v t->Grows B H B' H'->Q v H'):tE X F Z H Q:=
 ⟨B,A,Y,ha,r,n,(q.imp fun c A' x=>x.grow hb g).mono fun t A' qp v B' H' g' jH rv=>hq t A' v B' H' qp (g.trans hb g') jH (r.grow n g') rv g'⟩
theorem RY{B0:eW}{A:Ab}{Y:bO}{k:Bool->Ab->Prop}(hb:HB B0 ac)(g:Grows B0 ac B H)(ha:HA X.K B A H)(r:cB X.K B H Z Y)(n:fy Y)(q:gA (XE X B0 ac) (P Y A) k){Q:Bool->Hp->Prop}
  (hq:∀t A' B' H',k t A'->Grows B0 ac B' H'->HA X.K B' A' H'->cB X.K B' H' Z Y->Q t H'):PB X P Z H Q:=
 ⟨B,A,Y,ha,r,n,(q.imp fun c A' x=>x.grow hb g).mono fun t A' qp B' H' g' jH=>hq t A' B' H' qp (g.trans hb g') jH (r.grow n g')⟩
def Aw(i:Nat)(r:Rz Tr)(Y:bO):Rz Out:=r.bind fun t A=>.ok (.nx (Y.set i (.sh t))) A
theorem Wh(he:PE X e (tE X F))(hN:X.N.Nodup:=by assumption) (hi:X.N[i]?=some x:=by rfl) (hx:Loc X.env.scope x:=by first|exact Or.inl rfl|exact Or.inr rfl) (hs:rJ e=false:=by rfl) (hf:yE X x:=by first|exact .inl rfl|exact .inr rfl|assumption):
  PS X (.Assign [.Name x p] e pos) (tZ X fun Y A=>Aw i (F Y A) Y):=
 (Ja hN hi hx he (xk hs) hf).weak fun D Z H ⟨B0,H0,B,A,Y,hb,g,ha,r,n,q⟩=>pC hb g ha r n q.bind fun t A' v B' H' qt g' jH r' rv _=>qt _ B' H' g' jH (r'.set i rv) (n.set i t)
def JU(r:Rz Tr):Rz Out:=r.bind fun t A=>.ok (.ret t) A
theorem Wi(he:PE X e (tE X F)):PS X (.Return (some e) pos) (tZ X fun Y A=>JU (F Y A)):=
 (IZ he).weak fun D Z H ⟨B0,H0,B,A,Y,hb,g,ha,r,n,q⟩=>pC hb g ha r n q.bind fun t A' v B' H' qt g' jH r' rv _=>qt v B' H' g' jH rv
theorem RZ:PS X (.Return none pos) (tZ X fun _ A=>.ok (.ret .cu) A):=
 MB.weak fun D Z H ⟨B0,H0,B,A,Y,hb,g,ha,r,n,q⟩=>q .cu B H g ha .cu
def qV(r:Rz Tr)(Y:bO):Rz Out:=r.bind fun _ A=>.ok (.nx Y) A
theorem R0(he:PE X e (tE X F))(hs:rJ e=false:=by rfl):PS X (.Expr e pos) (tZ X fun Y A=>qV (F Y A) Y):=
 (MA he (xk hs)).weak fun D Z H ⟨B0,H0,B,A,Y,hb,g,ha,r,n,q⟩=>pC hb g ha r n q.bind fun t A' v B' H' qt g' jH r' rv _=>qt _ B' H' g' jH r' n
def YZ(c:Rz Bool)(am b:Ab->Rz Out):Rz Out:=c.bind fun k A=>if k then am A else b A
theorem aah(hc:PT X c (PB X P))(h1:n_ X ah (tZ X aJ))(h2:n_ X aj (tZ X G')):PS X (.If c ah aj pos) (tZ X fun Y A=>YZ (P Y A) (aJ Y) (G' Y)):=
 (O6 hc h1 h2).weak fun D Z H ⟨B0,H0,B,A,Y,hb,g,ha,r,n,q⟩=>RY hb g ha r n q.bind fun k A' B' H' qk g' jH r'=>by
  cases k with
  |true=>exact Rg ⟨B0,H0,B',A',Y,hb,g',jH,r',n,qk⟩
  |false=>exact Rf ⟨B0,H0,B',A',Y,hb,g',jH,r',n,qk⟩
def JV(T:n6)(r:Rz Tr)(Y:bO):Rz Out:=r.bind fun t A=>(gs (T t Y) A).bind fun g9 A=>.ok (.nx g9) A
theorem JW{T:n6}{B0:eW}{A:Ab}{Y:bO}{v:V}{t:Tr}{k:bO->Ab->Prop}(hT:jx T)(hb:HB B0 ac)(g:Grows B0 ac B H)(ha:HA X.K B A H)(r:cB X.K B H Z Y)(n:fy Y)(rv:Rep X.K (bV B H) v t){xc:Tr->Ab->Prop}(q:gA xc (gs (T t Y) A) k){Q:St->Hp->Prop}
  (hq:∀g9 di H',k g9 A->Grows B0 ac B H'->HA X.K B A H'->cB X.K B H' di g9->fy g9->ba H H'->Q di H'):tG X T v Z H Q:=by
 refine⟨B,Y,t,ha.hb,r,rv,?_⟩;cases e:T t Y with
 |ok g9=>rw[e]at q;exact fun di H' s r'=>hq g9 di H' q (g.trans hb (.of s)) (ha.same s) r' (hT t Y g9 n e) s
 |exc c=>rw[e]at q;exact fe q
 |bad=>rw[e]at q;exact q
theorem Wj{T:n6}(hg:PG X tg (tG X T))(hT:jx T)(he:PE X e (tE X F))(hs:swapsWithSole [tg] e pos.line X.env=pure false:=by rfl) (hw:swappedStores [tg] e X.env=pure none:=by rfl)
  (h1:(assignEach [tg] X.env).map (·.2)=[assign tg X.env]:=by rfl):PS X (.Assign [tg] e pos) (tZ X fun Y A=>JV T (F Y A) Y):=
 (I_ he hg hs hw h1).weak fun D Z H ⟨B0,H0,B,A,Y,hb,g,ha,r,n,q⟩=>pC hb g ha r n q.bind fun t A' v B' H' qt g' jH r' rv _=>
  JW hT hb g' jH r' n rv (gA.bind qt) fun g_ vK H2 q2 g2 pD r2 n2 _=>q2 vK B' H2 g2 pD r2 n2
def rN(T:n6)(aJ:bO->Ab->Rz Out):List Tr->bO->Ab->Rz Out
 |[],Y,A=>.ok (.nx Y) A
 |t::ts,Y,A=>(gs (T t Y) A).bind fun qS A=>(aJ qS A).bind fun o A=>match o with
  |.nx g_=>rN T aJ ts g_ A
  |.ct g_=>rN T aJ ts g_ A
  |.bk g_=>.ok (.nx g_) A
  |.ret t=>.ok (.ret t) A
def F2(T:n6)(aJ:bO->Ab->Rz Out)(l:Rz (List Tr))(Y:bO):Rz Out:=l.bind fun ts A=>rN T aJ ts Y A
theorem Wk{T:n6}(hi:PI X tg am (tI X L))(hg:PG X tg (tG X T))(hT:jx T)(hb:n_ X ah (tZ X aJ))(hp:PassesOwn (model X.prog X.w) X.A X.env X.xe:=by first|exact oU|exact wK) (hc:X.calm=true:=by rfl)
  (hs:isSet am=false:=by rfl):PS X (.For tg am ah [] pos) (tZ X fun Y A=>F2 T aJ (gs (L Y) A) Y):=
 (DP hp hc hi hg hb (f' hs)).weak fun D Z H ⟨B0,H0,B,A,Y,BA,g,ha,r,n,q⟩=>⟨B,Y,ha.hb,r,(mD (gA.bind q)).mono fun ts qt J H1 s1 gt=>by
  have g1:Grows B0 H0 B H1:=g.trans BA (.of s1);have Ax:HB B H1:=ha.hb.same s1;refine⟨fun i m di H'=>m=ts.length - i/\i<=ts.length/\∃B' A' g9,Grows B H1 B' H'/\HA X.K B' A' H'/\cB X.K B' H' di g9/\fy g9/\gA (XE X B0 H0) (rN T aJ (ts.drop i) g9 A') (u6 X D B0 H0),⟨_,rfl,dU _,B,A,Y,.refl,ha.same s1,r.same s1,n,qt⟩,?_⟩
  rintro i m di H' ⟨rfl,hi,B',A',g9,g',jH,r',n',q'⟩
  by_cases f_:i<ts.length
  ·rw[oh f_]at q';refine .inr ⟨gt.go i B' H' f_ g'.jw jH.hb,fun vK H2=>∃B2 A2 g_,Grows B H1 B2 H2/\HA X.K B2 A2 H2/\cB X.K B2 H2 vK g_/\fy g_/\gA (XE X B0 H0) (rN T aJ (ts.drop (i+1)) g_ A2) (u6 X D B0 H0),
    fun vK H2 x=>⟨ts.length - (i+1),by omega,rfl,f_,x⟩,fun x H2 hx=>?_⟩
   obtain⟨s2,t,et,rt⟩:=gt.Fj i B' H' x H2 f_ g'.jw jH.hb hx;have RC:ts[i]=t:=by rw[bQ f_]at et;exact Option.some.inj et
   rw[RC]at q';have g2:Grows B H1 B' H2:=g'.trans Ax (.of s2);refine JW hT Ax g2 (jH.same s2) (r'.same s2) n' rt (gA.bind q') fun qS MF H3 q1 g3 F3 r3 n3 _=>?_
   refine⟨B,H1,B',A',qS,Ax,g3,F3,r3,n3,((gA.bind q1).imp fun c A'' x=>x.grow BA g1).mono fun o A4 qo=>?_⟩;cases o with
   |nx g_=>exact fun JX B4 H4 g4 Ek r4 n4=>⟨B4,A4,g_,g4,Ek,r4,n4,qo⟩
   |ct g_=>exact fun JX B4 H4 g4 Ek r4 n4=>⟨B4,A4,g_,g4,Ek,r4,n4,qo⟩
   |bk g_=>exact fun JX B4 H4 g4 Ek r4 n4=>qo JX B4 H4 (g1.trans BA g4) Ek r4 n4
   |ret t=>exact fun v B4 H4 g4 Ek r4=>qo v B4 H4 (g1.trans BA g4) Ek r4
  ·have e:i=ts.length:=by omega
   subst e;rw[oK]at q';exact .inl ⟨gt.stop B' H' g'.jw,q' di B' H' (g1.trans BA g') jH r' n'⟩⟩
end
section
variable {a:Expr}
def F4(r:Rz Tr)(l:Ab->Rz (List Tr)):Rz (List Tr):=r.bind fun x A=>(l A).bind fun xs A=>.ok (x::xs) A
theorem JY:PA X [] (Mm X fun _ A=>.ok [] A):=rE.weak fun Z H Q ⟨B,A,Y,ha,r,n,q⟩=>q [] B H .refl ha .nil
theorem F5(h1:PE X a (tE X aH))(hr:PA X az (Mm X aG))(hs:isStar a=false:=by rfl):PA X (a::az) (Mm X fun Y A=>F4 (aH Y A) (aG Y)):=
 (lp h1 hr (bF _ _ hs)).weak fun Z H Q ⟨B,A,Y,ha,r,n,q⟩=>⟨B,A,Y,ha,r,n,q.bind.mono fun x A1 qx v B1 H1 g1 mU r1=>⟨B1,A1,Y,mU,r.grow n g1,n,((gA.bind qx).imp fun c A' x=>x.grow ha.hb g1).mono fun xs A2 qs vs B2 H2 g2 pD r2=>qs _ B2 H2 (g1.trans ha.hb g2) pD (.cons (r1.same g2.jw) r2)⟩⟩
def WrZ(X:Cx)(r:V->List V->Hp->VK->Prop)(h:Nat->List Tr->Ab->Rz Tr):Prop:=
 ∀(B:eW) (A:Ab) (H:Hp) (a:Addr) (i:Nat) (xs:List V) (ts:List Tr) (Q:VK),HA X.K B A H->B.ix a=some i->bI X.K (bV B H) xs ts->
  gA (XE X B H) (h i ts A) (fun t A'=>∀v B' H',Grows B H B' H'->HA X.K B' A' H'->Rep X.K (bV B' H') v t->Q v H')->r (.ref a) xs H Q
def Wl(A:Ab)(i:Nat):Bool:=match A[i]? with
 |some (.lst _)=>true
 |_=>false
theorem R3{A:Ab}(ha:HA K B A H)(e:B.ix au=some i)(h:Wl A i=true):∃xs,H au=some (.lst xs):=by
 obtain⟨o,eo,ao⟩:=ha.ex e;unfold Wl at h;rw[eo]at h;cases o with
 |lst ts=>obtain⟨_,vs,h1,_⟩:=ao;exact⟨vs,h1⟩
 |_=>cases h
def mtL(h:Nat->List Tr->Ab->Rz Tr)(r:Rz Tr)(l:Ab->Rz (List Tr)):Rz Tr:=r.bind fun t A=>match t with
 |.at i=>if Wl A i=true then(l A).bind fun ts A=>h i ts A else .bad
 |_=>.bad
variable {r:V->List V->Hp->VK->Prop}{h:Nat->List Tr->Ab->Rz Tr}
theorem Wm(slot:Slot "list" av ay)(MS:typeOf (.builtin ay)=pure (.type "method_descriptor"))(hm:ZU X ay r)(hz:WrZ X r h)(ho:PE X o (tE X aH))(ha:PA X (e::az) (Mm X aG))(pa:PlainAttrs "list":=by exact r6)
  (o_:isCall o=false:=by rfl) (cz:bq (e::az)=true:=by rfl) (hn:(e::az).length<30:=by decide) (fJ:(b8.endLine==p.line)=true:=by rfl):
  PE X (.Call (.Attribute o av b8) (e::az) [] p) (tE X fun Y A=>mtL h (aH Y A) (aG Y)):=
 (Fq pa slot MS hm ho ha (gb o_) (by rw[jj cz,iY (show(e::az).length+([]:List Keyword).length+(if([]:List Keyword).isEmpty then 0 else 1)<30 from hn)];rfl) fJ (bF _ _ (bc cz).1) (cL (bc cz).2)).weak fun Z H Q ⟨B,A,Y,ha,r,n,q⟩=>⟨B,A,Y,ha,r,n,q.bind.mono fun t A1 qt v B1 H1 g1 mU rv=>by
  split at qt
  ·rename_i i;obtain⟨a,rfl,qP⟩:=rv.m9;obtain⟨hl,q2⟩:=g0 qt;obtain⟨xs,hxs⟩:=R3 mU qP hl;exact⟨.inl ⟨rfl,xs,ll.of hxs⟩,B1,A1,Y,mU,r.grow n g1,n,((gA.bind q2).imp fun c A' x=>x.grow ha.hb g1).mono fun ts A2 qs vs B2 H2 g2 pD rs=>hz B2 A2 H2 a i vs ts Q pD (g2.jw.x _ _ qP) rs ((qs.imp fun c A' x=>x.grow ha.hb (g1.trans ha.hb g2)).mono fun t A3 qt v B3 H3 g3 F3 r3=>qt v B3 H3 ((g1.trans ha.hb g2).trans ha.hb g3) F3 r3)⟩
  ·exact qt.elim⟩
def R4(i:Nat):List Tr->Ab->Rz Tr
 |[t],A=>match A[i]? with
  |some (.lst ts)=>if ts.length<e_ then .ok .cu (A.set i (.lst (ts++[t])))else .bad
  |_=>.bad
 |_,_=>.bad
theorem uH:WrZ X Fs R4:=by
 intro B A H a i xs ts Q ha qP rs q;unfold R4 at q;split at q
 ·obtain⟨y,rfl,r1⟩:=fM rs;split at q
  ·rename_i eo;obtain⟨hz,q⟩:=g0 q;obtain⟨hd,vs,h1,h2⟩:=ha.get qP eo;obtain⟨g,h3⟩:=ha.write (o:=.lst (_++[_])) (u:=.lst (vs++[y])) qP ⟨hd,_,bG,by rw[i_ hd];exact h2.append (.cons r1 .nil)⟩;exact⟨a,vs,y,rfl,rfl,h1,by rw[h2.length,<-iE];exact hz,q .cu B _ g h3 .cu⟩
  ·exact q.elim
 ·exact q.elim
end
def xB(r:Rz Out):Rs Tr:=match r with
 |.ok (.nx _) _=>.ok .cu
 |.ok (.ret t) A=>if vt (aU 3 A t)=true then .ok (aU 3 A t)else .bad
 |_=>.bad
theorem xC{n:Nat}:fy (startT n ts):=fun i us e=>by
 rcases qe e with q|⟨u,_,q⟩<;>cases q
theorem yF.okZ {base:Heap}{qual:Str}{st:Stmt}{f:Addr}{fd:FuncData}{N:List Str}{k:Nat}(Fn:yF K x qual st f fd)(S:gO N ps (bC st))(len:∀ts t,h ts=.ok t->ts.length=ps.length)
  (kE:∀(fH:Value) (A:Around) (outer:List Env) (s:Shared) (H:Hp) (E:XK),cV k (A.deeper (envOfC qual (bC st) s.heap.objs.size f fH))->
   ∃G,n_ (n5 lX P w K mg base N qual (bC st) f fH A outer s H E).IH (fF st) (tZ (n5 lX P w K mg base N qual (bC st) f fH A outer s H E).IH G)/\∀ts t,h ts=.ok t->jk ts=true/\xB (G (startT N.length ts) [])=.ok t):d5 P w K mg base lX (k+1) f fd ps (spT K h):=by
 refine Fn.ok S (fun vs H Q E q=>?_) (fun fH A outer s H vs Q E hr q=>?_)
 ·obtain⟨B,ts,hb,r,t,e,_⟩:=q;rw[r.length];exact len ts t e
 ·obtain⟨B,ts,hb,r,t,e,q⟩:=q;obtain⟨G,hG,hE⟩:=kE fH A outer s H E hr;obtain⟨na,e1⟩:=hE ts t e
  let B0:eW:=⟨B.hd,fun _=>none⟩
  have BA:HB B0 H:=hb;have ha0:HA K B0 [] H:=⟨BA,fun i o z=>by simp at z,(fun a b i z=>by cases(show(none:Option Nat)=some i from z)),(fun a i z=>by cases(show(none:Option Nat)=some i from z))⟩;have r0:bI K (bV B0 H) vs ts:=bI.JS (W:=bV B H) (W':=bV B0 H) (fun _ _ e=>e) r na;have sm:∀{B':eW} {H':Hp},Grows B0 H B' H'->ba H H':=fun g b o z=>g.kp b o rfl z;refine⟨_,hG,B0,H,B0,[],startT N.length ts,BA,.refl,ha0,cB.start r0,xC,?_⟩;cases eo:G (startT N.length ts) []with
  |ok o A1=>
   rw[eo]at e1;cases o with
   |nx Y=>cases e1;exact fun di B' H' g ha r' n'=>q .cu H' (sm g) .cu
   |ret u=>
    have e2:(if vt (aU 3 A1 u)=true then Rs.ok (aU 3 A1 u)else .bad)=.ok t:=e1;by_cases z:vt (aU 3 A1 u)=true
    ·rw[aS z]at e2;cases e2;intro v B' H' g ha r';refine q v H' (sm g) (Rep.JS (fun b o z=>?_) (jl ha 3 r') z);have z1:=bD b o z;cases hB:B.hd b with
     |false=>rw[fL hB];exact z1
     |true=>
      have h2:B'.hd b=true:=g.hd b rfl hB;have h3:B'.ix b=none:=by
       cases h4:B'.ix b with
       |none=>rfl
       |some i=>have h5:=g.nw b i h4 rfl;obtain⟨o2,h6⟩:=hb b hB;rw[h5]at h6;cases h6
      have z2:(if B'.un.hd b=true then none else H' b)=some o:=z;rw[show B'.un.hd b=(B'.hd b&&(B'.ix b).isNone)from rfl,h2,h3]at z2;cases z2
    ·rw[aW z]at e2;cases e2
   |_=>cases e1
  |_=>rw[eo]at e1;cases e1
def Cp(n m:Nat)(G:bO->Ab->Rz Out)(ts:List Tr):Rs Tr:=if ts.length=n/\jk ts=true then xB (G (startT m ts) [])else .bad
theorem JZ{n:Nat}(h:Cp n i aJ ts=.ok aB):ts.length=n:=by
 unfold Cp at h;split at h
 ·rename_i z;exact z.1
 ·cases h
theorem NH{m:Nat}{t:Tr}(h:Cp i m aJ ts=.ok t):jk ts=true/\xB (aJ (startT m ts) [])=.ok t:=by
 unfold Cp at h;split at h
 ·rename_i z;exact⟨z.2,h⟩
 ·cases h
section
theorem Wn(h:PA X az (B7 X L)):PE X (.List az pos) (tF X fun Y=>yN (L Y)):=
 (Jk h).weak fun Z H Q ⟨B,Y,hb,r,q⟩=>⟨B,Y,hb,r,q.bind.mono fun ts qt vs H1 s1 r1=>by
  by_cases hz:ts.length<=e_
  ·rw[aS hz]at qt;refine⟨by rw[r1.length,<-iE];exact hz,fun p hp=>qt (.ref p) _ (s1.Al (s1.free hp)) (.lst ((hb.same s1).new hp) (r1.same (bE (ba.upd hp)))) fun p' e=>by cases e;exact .upd (s1.free hp) (fun _ _ z=>by cases z)⟩
  ·rw[aW hz]at qt;exact qt.elim⟩
theorem R5:PE X (.Dict [] [] pos) (tF X fun _=>.ok (.bT [])):=
 Jt.weak fun Z H Q ⟨B,Y,hb,r,q⟩ p hp=>q (.ref p) _ (ba.upd hp) (.bT (.inl (hb.new hp)) rfl .nil) fun p' e=>by cases e;exact .upd hp (fun _ _ z=>by cases z)
variable {scope:Scope}{N':List Str}{ix:List (Option Nat)}{elt c5:Expr}{ifs:List Expr}{T:n6}{W:bO->Rs (List Tr)}
theorem zu{Q:VK}(hT:jx T)(q:tF X (fun Y=>u4 ix T aE F (W Y) Y) Z H Q):Uo (tI X W) ix (Pm X.K T) (Pl X.K aE) (Pk X.K F) Z H Q:=by
 obtain⟨B,Y,hb,r,q⟩:=q;refine⟨B,Y,hb,r,q.bind.mono fun ts qt J H1 s1 gt D hD=>?_⟩;by_cases hz:ts.length<=e_
 ·rw[aS hz]at qt;exact vN hT (vM ix Y) (hb.same s1) gt hz ((r.same s1).comp ix (kF hD)) hD (Fi.bind qt) fun ys H' k s' rp=>k _ H' (s1.trans s') rp fun p e=>by cases e;exact .lst (s1.free hD) rp
 ·rw[aW hz]at qt;exact qt.elim
theorem aai(Lk:gz X N' ix scope)(hi:PI X tg c5 (tI X W))(kU:Nf X scope N' tg elt ifs T aE F)(hT:jx T)(hc:X.calm=true:=by rfl) (hs:isSet c5=false:=by rfl):
  PE X (.ListComp elt [⟨tg,c5,ifs,0⟩] scope pos) (tF X fun Y=>u4 ix T aE F (W Y) Y):=
 (JB Lk hc hi kU.Us (f' hs)).weak fun Z H Q q=>zu hT q
theorem NI(Lk:gz X N' ix scope)(hit:PI X tg c5 (tI X W))(kU:Nf X scope N' tg elt ifs T aE F)(hT:jx T)(hN:X.N.Nodup:=by assumption) (hc:X.calm=true:=by rfl) (hi:X.N[i]?=some x:=by rfl) (hx:Loc X.env.scope x:=by first|exact Or.inl rfl|exact Or.inr rfl)
  (Ha:swapsWith (.ListComp elt [⟨tg,c5,ifs,0⟩] scope pos) (some (.Name x p)) b8.line X.env=pure true:=by rfl) (hs:isSet c5=false:=by rfl) (hf:yE X x:=by first|exact .inl rfl|exact .inr rfl|assumption):
  PS X (.Assign [.Name x p] (.ListComp elt [⟨tg,c5,ifs,0⟩] scope pos) b8) (tZ X fun Y A'=>Aw i (uG (u4 ix T aE F (W (dc A' Y)) (dc A' Y)) A') Y):=
 (xh Lk hc hN hi hx hit kU.Us Ha (f' hs) hf).weak fun D Z H ⟨B0,H0,B,A',Y,hb,g,ha,r,n,q⟩=>zu hT (rM (F:=fun Y=>u4 ix T aE F (W Y) Y) (pC (F:=fun Y A'=>uG (u4 ix T aE F (W (dc A' Y)) (dc A' Y)) A') hb g ha r n q.bind fun t A2 v B' H' qt g' jH r' rv _=>qt _ B' H' g' jH (r'.set i rv) (n.set i t)))
inductive rF(X:Cx)(h:List Tr->Rs Tr)(xs:List V)(H:Hp)(Q:VK):Prop
 |mk (B:eW) (ts:List Tr):HB B H->bI X.K (bV B H) xs ts->(Fi X H (h ts) fun t=>∀v H',ba H H'->Rep X.K (bV B H') v t->(∀p,v=.ref p->RU H H' p)->Q v H')->rF X h xs H Q
theorem J0(hc:gn X (.type ay) (rF X h))(hm:X.mg x=none)(ha:PA X (e::az) (B7 X L))(hv:bootBuiltins x=some (.type ay):=by rfl) (hg:Gl X x:=by rfl) (hn:x≠"__name__":=by decide) (fq:Db x:=by decide)
  (cz:bq (e::az)=true:=by rfl):PE X (.Call (.Name x p) (e::az) [] pos) (tF X fun Y=>dv h (L Y)):=
 (uB hc hg hm hv ha hn fq (bF _ _ (bc cz).1) (cL (bc cz).2)).weak fun Z H Q ⟨B,Y,hb,r,q⟩=>⟨B,Y,hb,r,q.bind.mono fun ts qt vs H1 s1 r1=>⟨B,ts,hb.same s1,r1,(qt.same s1).mono fun t qt v H2 s2 r2 fr=>qt v H2 (s1.trans s2) r2 fun p e=>⟨s1.free (fr p e).1,(fr p e).2⟩⟩⟩
theorem NJ:gn X (.type "list") (rF X Pn):=by
 intro U s Z H xs us Q I rv ⟨B,ts,hb,r,q⟩;unfold Pn at q;split at q
 ·obtain⟨x,e,r1⟩:=fM r;obtain⟨o,vs,rfl,h,rr⟩:=r1.dI;exact sY U s Z H _ us Q I rv ⟨_,_,e,.inr h.up,fun p hp=>q _ _ (ba.upd hp) (.yP hb hp rr) fun p' e=>by cases e;exact .upd hp (fun _ _ z=>by cases z)⟩
 ·obtain⟨x,e,r1⟩:=fM r;obtain⟨o,vs,rfl,h,rr⟩:=r1.lst_inv;exact sY U s Z H _ us Q I rv ⟨_,_,e,.inl (.of (dX h)),fun p hp=>q _ _ (ba.upd hp) (.yP hb hp rr) fun p' e=>by cases e;exact .upd hp (fun _ _ z=>by cases z)⟩
 ·exact q.elim
end
section
variable {H1 H':Hp}{o:Obj}{kvs:List (Key×V)}
theorem Inv.frozen (I:Inv X U Z H s)(ha:H a=some (.dK kvs))(ho:s.heap.get? a=some o):Inv X U Z (upd H a (.kR o (.dK kvs))) s:=by
 have ne:∀{b:Addr} {u:HO},H b=some u->u≠ .dK kvs->b≠a:=fun{b u} e d z=>by subst z;rw[ha]at e;cases e;exact d rfl
 have nn:∀{b:Addr},H b=none->b≠a:=fun{b} e z=>by subst z;rw[ha]at e;cases e
 refine⟨I.ok,I.os,I.bare,⟨I.base.keep,I.base.slot,fun b ob e n hx=>?_,I.base.there,fun b xs e=>?_,fun b ob u e=>?_,fun b ps e=>?_⟩,I.loc,I.cell,?_,fun x c e=>?_,fun p hp=>?_,fun b u e=>?_,I.len⟩
 ·have q:=I.base.free b ob e n hx;rw[bb (nn q)];exact q
 ·have q:=I.base.mn b xs e;rw[bb (ne q (fun z=>by cases z))];exact q
 ·have q:=I.base.kT b ob u e;rw[bb (ne q (fun z=>by cases z))];exact q
 ·obtain⟨m,q⟩:=I.base.m6 b ps e;exact⟨m,by rw[bb (ne q (fun z=>by cases z))];exact q⟩
 ·rw[bb (nn I.free)];exact I.free
 ·rw[bb (nn (I.fI x c e))];exact I.fI x c e
 ·obtain⟨p1,p2,p3⟩:=I.pin p hp;exact⟨p1,by rw[bb (nn p2)];exact p2,p3⟩
 ·have ow:∀c d,H c=some (.own d)->upd H a (.kR o (.dK kvs)) c=some (.own d):=fun c d q=>by rw[bb (ne q (fun z=>by cases z))];exact q
  have tu:∀c xs,H c=some (.tup xs)->upd H a (.kR o (.dK kvs)) c=some (.tup xs):=fun c d q=>by rw[bb (ne q (fun z=>by cases z))];exact q
  by_cases z:b=a
  ·subst z;rw[bG]at e;cases e;exact⟨ho,(I.cP b _ ha).o6 (fun _ _ _ q=>q) (fun c q=>ow c b q) tu⟩
  ·rw[bb z]at e;exact(I.cP b u e).o6 (fun _ _ _ q=>q) (fun c q=>ow c b q) tu
theorem Inv.R6 (I:Inv X U Z H s)(ha:H a=some (.kR o (.dK kvs)))(h0:∀o' u,X.BK a≠some (.kR o' u)):Inv X U Z (upd H a (.dK kvs)) s:=by
 have ne:∀{b:Addr} {u:HO},H b=some u->u≠ .kR o (.dK kvs)->b≠a:=fun{b u} e d z=>by subst z;rw[ha]at e;cases e;exact d rfl
 have nn:∀{b:Addr},H b=none->b≠a:=fun{b} e z=>by subst z;rw[ha]at e;cases e
 refine⟨I.ok,I.os,I.bare,⟨I.base.keep,I.base.slot,fun b ob e n hx=>?_,I.base.there,fun b xs e=>?_,fun b ob u e=>?_,fun b ps e=>?_⟩,I.loc,I.cell,?_,fun x c e=>?_,fun p hp=>?_,fun b u e=>?_,I.len⟩
 ·have q:=I.base.free b ob e n hx;rw[bb (nn q)];exact q
 ·have q:=I.base.mn b xs e;rw[bb (ne q (fun z=>by cases z))];exact q
 ·have q:=I.base.kT b ob u e;rw[bb (fun z=>by subst z;exact h0 _ _ e)];exact q
 ·obtain⟨m,q⟩:=I.base.m6 b ps e;exact⟨m,by rw[bb (ne q (fun z=>by cases z))];exact q⟩
 ·rw[bb (nn I.free)];exact I.free
 ·rw[bb (nn (I.fI x c e))];exact I.fI x c e
 ·obtain⟨p1,p2,p3⟩:=I.pin p hp;exact⟨p1,by rw[bb (nn p2)];exact p2,p3⟩
 ·have ow:∀c d,H c=some (.own d)->upd H a (.dK kvs) c=some (.own d):=fun c d q=>by rw[bb (ne q (fun z=>by cases z))];exact q
  have tu:∀c xs,H c=some (.tup xs)->upd H a (.dK kvs) c=some (.tup xs):=fun c d q=>by rw[bb (ne q (fun z=>by cases z))];exact q
  by_cases z:b=a
  ·subst z;rw[bG]at e;cases e;exact(I.cP b _ ha).2.o6 (fun _ _ _ q=>q) (fun c q=>ow c b q) tu
  ·rw[bb z]at e;exact(I.cP b u e).o6 (fun _ _ _ q=>q) (fun c q=>ow c b q) tu
structure zv(H H':Hp)(a:Addr)(u u':HO)(kvs:List (Key×V)):Prop where
 fr:H a=some u
 to:H'=upd H a u'
 ok:(u=.dK kvs/\∃o,u'=.kR o (.dK kvs))\/(u'=.dK kvs/\∃o,u=.kR o (.dK kvs))
variable {u u':HO}
theorem zv.tU (w:zv H H' a u u' kvs){b:Addr}{x:HO}(e:H b=some x)(h1:∀k,x≠ .dK k)(h2:∀o k,x≠ .kR o (.dK k)):H' b=some x:=by
 rw[w.to,bb ?_]
 ·exact e
 ·intro z;subst z;rw[w.fr]at e;cases e;rcases w.ok with⟨e1,_⟩|⟨_,o,e1⟩
  ·exact h1 _ e1
  ·exact h2 _ _ e1
theorem lL{x:HO}(e:(bV B H).H a=some x)(h:H a=some x->H' a=some x):(bV B H').H a=some x:=by
 have e':(if B.hd a=true then none else H a)=some x:=e;show(if B.hd a=true then none else H' a)=some x;split at e'
 ·cases e'
 ·rename_i n;rw[aW n];exact h e'
theorem zv.seq (w:zv H H' a u u' kvs){b:Addr}{xs:List V}(h:ll K (bV B H).H b xs):ll K (bV B H').H b xs:=by
 rcases h with(h|⟨o,h⟩)|h
 ·exact .inl (.inl (lL h fun e=>w.tU e (fun _ z=>by cases z) fun _ _ z=>by cases z))
 ·exact .inl (.inr ⟨o,lL h fun e=>w.tU e (fun _ z=>by cases z) fun _ _ z=>by cases z⟩)
 ·exact .inr h
theorem zv.tup (w:zv H H' a u u' kvs){b:Addr}{xs:List V}(h:i7 K (bV B H).H b xs):i7 K (bV B H').H b xs:=by
 rcases h with(h|⟨o,h⟩)|h
 ·exact .inl (.inl (lL h fun e=>w.tU e (fun _ z=>by cases z) fun _ _ z=>by cases z))
 ·exact .inl (.inr ⟨o,lL h fun e=>w.tU e (fun _ z=>by cases z) fun _ _ z=>by cases z⟩)
 ·exact .inr h
theorem zv.bT (w:zv H H' a u u' kvs){b:Addr}{ks:List (Key×V)}(h:Rd (bV B H).H b (.dK ks)):Rd (bV B H').H b (.dK ks):=by
 by_cases z:b=a
 ·subst z;have hb:B.hd b=false:=by
   cases q:B.hd b with
   |false=>rfl
   |true=>
    have n:(bV B H).H b=none:=by show(if B.hd b=true then none else H b)=none;rw[aS q]
    rcases h with h|⟨o,h⟩<;>(rw[n]at h;cases h)
  have h':Rd H b (.dK ks):=by unfold Rd at h⊢;rw[fL hb]at h;exact h
  have ek:ks=kvs:=by
   rcases h' with h|⟨o,h⟩<;>rw[w.fr]at h<;>rcases w.ok with⟨e1,_⟩|⟨_,o',e1⟩<;>rw[e1]at h<;>cases h<;>rfl
  subst ek;unfold Rd;rw[fL hb,w.to,bG];rcases w.ok with⟨_,o',e1⟩|⟨e1,_⟩
  ·rw[e1];exact .inr ⟨o',rfl⟩
  ·rw[e1];exact .inl rfl
 ·have hn:(bV B H').H b=(bV B H).H b:=by
   show(if B.hd b=true then none else H' b)=(if B.hd b=true then none else H b);rw[w.to,bb z]
  unfold Rd;rw[hn];exact h
theorem zv.rep (w:zv H H' a u u' kvs){v:V}{t:Tr}(h:Rep K (bV B H) v t):Rep K (bV B H') v t:=by
 refine Rep.rec (motive_1:=fun v t _=>Rep K (bV B H') v t) (motive_2:=fun vs ts _=>bI K (bV B H') vs ts) ?_ ?_ ?_ ?_ ?_ ?_ ?_ ?_ ?_ ?_ ?_ ?_ ?_ ?_ ?_ h
 ·exact .cu
 ·exact fun b=>.bl b
 ·exact fun i=>.int i
 ·exact fun z h=>.str z h
 ·exact fun n=>.ty n
 ·exact fun h=>.uZ (w.seq h)
 ·exact fun h _ r=>.tup (w.tup h) r
 ·exact fun h _ r=>.lst (lL h fun e=>w.tU e (fun _ z=>by cases z) fun _ _ z=>by cases z) r
 ·exact fun h e _ r=>.bT (w.bT h) e r
 ·exact fun h=>.at h
 ·exact fun h e _ r=>.u0 (lL h fun e=>w.tU e (fun _ z=>by cases z) fun _ _ z=>by cases z) e r
 ·exact fun h e _ r=>.ob (lL h fun e=>w.tU e (fun _ z=>by cases z) fun _ _ z=>by cases z) e r
 ·exact fun h c=>.zd (lL h fun e=>w.tU e (fun _ z=>by cases z) fun _ _ z=>by cases z) c
 ·exact .nil
 ·exact fun _ _ h r=>.cons h r
theorem zv.Wo (w:zv H H' a u u' kvs):∀{vs:List V} {ts:List Tr},bI K (bV B H) vs ts->bI K (bV B H') vs ts
 |[],_,h=>by cases h;exact .nil
 |_::_,_,h=>by cases h with|cons h r=>exact .cons (w.rep h) (zv.Wo w r)
theorem zv.Hr {Y:bO}(w:zv H H' a u u' kvs)(h:cB K B H Z Y):cB K B H' Z Y:=
 ⟨h.len,fun i t e=>by obtain⟨v,e1,r⟩:=h.sh i t e;exact⟨v,e1,w.rep r⟩,
   fun i ts e=>by obtain⟨D,ys,e1,e2,e3,r⟩:=h.ow i ts e;exact⟨D,ys,e1,e2,w.tU e3 (fun _ z=>by cases z) (fun _ _ z=>by cases z),w.Wo r⟩,h.ap⟩
theorem zv.hb (w:zv H H' a u u' kvs)(h:HB B H):HB B H':=fun b e=>by
 obtain⟨o,q⟩:=h b e;by_cases z:b=a
 ·subst z;rw[w.to];exact⟨_,bG⟩
 ·exact⟨o,by rw[w.to,bb z];exact q⟩
def Hs(X:Cx)(B:eW)(H H':Hp):Prop:=ba H H'\/∃H1 a o kvs,ba H H1/\B.hd a=false/\H1 a=some (.dK kvs)/\H'=upd H1 a (.kR o (.dK kvs))/\∀o u,X.BK a≠some (.kR o u)
def kG(X:Cx)(H:Hp)(k:Hp->Prop):Prop:=k H\/∃a o kvs,H a=some (.kR o (.dK kvs))/\(∀o u,X.BK a≠some (.kR o u))/\k (upd H a (.dK kvs))
theorem kG.inv {k:Hp->Prop}(q:kG X H k)(I:Inv X U Z H s):∃H',Inv X U Z H' s/\k H':=by
 rcases q with q|⟨a,o,kvs,e,h0,q⟩
 ·exact⟨H,I,q⟩
 ·exact⟨_,I.R6 e h0,q⟩
theorem PE.Uv {t:TE}(h:PE X e t):PE X e (fun Z H Q=>t Z H fun v H'=>kG X H' (Q v)):=fun U s Z H Q I q=>
 d7 (h U s Z H _ I q) fun u s' ⟨v,H',I',r,z⟩=>by
  obtain⟨H2,I2,q2⟩:=z.inv I';exact⟨v,H2,I2,r,q2⟩
def Ends.Uv (X:Cx)(D:Ends):Ends:=⟨fun Z H=>kG X H (D.nx Z),fun v H=>kG X H (D.rt v),fun Z H=>kG X H (D.bk Z),fun Z H=>kG X H (D.ct Z)⟩
theorem PS.Uv {st:Stmt}{t:TS}(h:PS X st t):PS X st (fun D Z H=>t (D.Uv X) Z H):=fun U s Z H D I q=>
 d7 (h U s Z H _ I q) fun f s' z=>by
  cases f with
  |next=>obtain⟨di,H',I',z⟩:=z;obtain⟨H2,I2,q2⟩:=kG.inv z I';exact⟨di,H2,I2,q2⟩
  |brk=>obtain⟨di,H',I',z⟩:=z;obtain⟨H2,I2,q2⟩:=kG.inv z I';exact⟨di,H2,I2,q2⟩
  |cont=>obtain⟨di,H',I',z⟩:=z;obtain⟨H2,I2,q2⟩:=kG.inv z I';exact⟨di,H2,I2,q2⟩
  |ret u=>obtain⟨v,di,H',I',r,z⟩:=z;obtain⟨H2,I2,q2⟩:=kG.inv z I';exact⟨v,di,H2,I2,r,q2⟩
theorem Hs.Hr {Y:bO}(h:Hs X B H H')(r:cB K B H Z Y):cB K B H' Z Y:=by
 rcases h with s|⟨H1,a,o,kvs,s,hv,ha,rfl,h0⟩
 ·exact r.same s
 ·exact zv.Hr (u:=.dK kvs) ⟨ha,rfl,.inl ⟨rfl,o,rfl⟩⟩ (r.same s)
theorem Hs.hb (h:Hs X B H H')(r:HB B H):HB B H':=by
 rcases h with s|⟨H1,a,o,kvs,s,hv,ha,rfl,h0⟩
 ·exact r.same s
 ·exact zv.hb (u:=.dK kvs) ⟨ha,rfl,.inl ⟨rfl,o,rfl⟩⟩ (r.same s)
theorem Hs.free {p:Addr}(h:Hs X B H H')(e:H' p=none):H p=none:=by
 rcases h with s|⟨H1,a,o,kvs,s,hv,ha,rfl,h0⟩
 ·exact s.free e
 ·refine s.free ?_
  by_cases z:p=a
  ·subst z;rw[bG]at e;cases e
  ·rw[bb z]at e;exact e
theorem Hs.back {H2:Hp}{B2:eW}{C:eW}(h:Hs X B H H')(si:dZ C B H' B2 H2):∃Hu,dZ C B H B2 Hu/\(∀{K:Frag} {B3:eW} {v:V} {t:Tr},Rep K (bV B3 H2) v t->Rep K (bV B3 Hu) v t)/\(∀{K:Frag} {Z:St} {Y:bO},cB K B2 H2 Z Y->cB K B2 Hu Z Y)/\∀k:Hp->Prop,k Hu->kG X H2 k:=by
 rcases h with s|⟨H1,a,o,kvs,s,hv,ha,rfl,h0⟩
 ·exact⟨H2,⟨fun b o c e=>si.kp b o c (s _ _ e),(bE s).trans si.jw,si.sub,si.hb⟩,fun r=>r,fun r=>r,fun k q=>.inl q⟩
 ·have e1:(bV B (upd H1 a (.kR o (.dK kvs)))).H a=some (.kR o (.dK kvs)):=by rw[fL hv];exact bG
  have e2:=si.jw.h _ _ e1;have e3:H2 a=some (.kR o (.dK kvs)):=bD _ _ e2;have w:zv H2 (upd H2 a (.dK kvs)) a (.kR o (.dK kvs)) (.dK kvs) kvs:=⟨e3,rfl,.inr ⟨rfl,o,rfl⟩⟩;have hv2:B2.hd a=false:=by
   cases q:B2.hd a with
   |false=>rfl
   |true=>
    have n:(bV B2 H2).H a=none:=by show(if B2.hd a=true then none else H2 a)=none;rw[aS q]
    rw[n]at e2;cases e2
  refine⟨upd H2 a (.dK kvs),⟨fun b ob c e=>?_,⟨fun b ob e=>?_,fun b i e=>?_⟩,si.sub,w.hb si.hb⟩,fun r=>w.rep r,fun r=>w.Hr r,fun k q=>.inr ⟨a,o,kvs,e3,h0,q⟩⟩
  ·have q:=s _ _ e;by_cases z:b=a
   ·subst z;rw[ha]at q;cases q;exact bG
   ·rw[bb z];exact si.kp b ob c (by rw[bb z];exact q)
  ·by_cases z:b=a
   ·subst z;have q:=s _ _ (bD _ _ e);rw[ha]at q;cases q;rw[fL hv2];exact bG
   ·have q:(bV B (upd H1 a (.kR o (.dK kvs)))).H b=some ob:=lL e fun e=>by rw[bb z];exact s _ _ e
    exact lL (si.jw.h _ _ q) fun e=>by rw[bb z];exact e
  ·exact si.jw.x b i e
theorem Hs.PC {H2:Hp}(h:Hs X B H H')(hb:HB B H)(s2:ba H' H2):∃Hu,ba H Hu/\(∀{K:Frag} {B3:eW} {v:V} {t:Tr},Rep K (bV B3 H2) v t->Rep K (bV B3 Hu) v t)/\∀k:Hp->Prop,k Hu->kG X H2 k:=by
 obtain⟨Hu,si,r,_,k⟩:=h.back (C:=B) (B2:=B) (H2:=H2) ⟨fun b o _ e=>s2 _ _ e,bE s2,.refl,(h.hb hb).same s2⟩;exact⟨Hu,si.same,r,k⟩
end
def Itd(a:Addr)(o:Obj)(kvs:List (Key×V)):It:=
 ⟨fun i H=>H a=some (.kR o (.dK kvs))/\i<kvs.length,fun i H x H'=>H'=H/\∃k v,kvs[i]?=some (k,v)/\x=kV k,fun i H=>H a=some (.kR o (.dK kvs))/\kvs.length<=i⟩
theorem Ay{kvs:List (Key×V)}{vs:List (Key×Value)}(r:KV kvs vs){k:Key}{v:V}(e:kvs[i]?=some (k,v)):∃u,vs[i]?=some (k,u):=by
 have r':Paired _ kvs vs:=r
 clear r
 induction r' generalizing i with
 |nil=>simp at e
 |cons h t ih=>
  cases i with
  |zero=>
   simp at e;subst e;rename_i q _ _;obtain⟨qk,qu⟩:=q;cases h.1;exact⟨qu,rfl⟩
  |succ j=>exact ih (by simpa using e)
theorem rO{kvs:List (ag×V)}{vs:List (ag×Value)}(r:KV kvs vs):kvs.length=vs.length:=by
 have r':Paired _ kvs vs:=r
 clear r
 induction r' with
 |nil=>rfl
 |cons h t ih=>rw[dg,dg,ih]
theorem Ht(a it:Addr)(o:Obj)(kvs:List (Key×V))(es:Array DictEntry)(ep:Nat)(hd:o.data=.dict es ep):Turn P w K tg (Itd a o kvs) [it] it (fun i h=>h.IsKeyIter it a i kvs.length ep) where
 mem:=by simp
 obj:=fun i h st b hb=>by
  have e:b=it:=by simpa using hb
  subst e;obtain⟨o,e,c,d⟩:=st;exact⟨o,e,fun v z=>by rw[d]at z;cases z⟩
 keep:=fun i h h' st k=>by
  obtain⟨o,e,c⟩:=st;exact⟨o,k it (by simp) o e,c⟩
 item:=by
  intro X hP hw hK hc i U s Z H E I hf st ⟨hg,hi⟩;subst hP hw hK;obtain⟨ho,hz,hs,vs,rv,o',z_,IU,h1,h2,h3,h4⟩:=(show cR X.prog X.w H s.heap a (.kR o (.dK kvs))from I.cP a _ hg);rw[ho]at h1;cases h1;rw[hd]at h3;cases h3;obtain⟨f0,f1,f2,f3,f4,f5⟩:=hf it (by simp);have hl:=rO rv;have ex:kvs[i]?=some (kvs[i].1,kvs[i].2):=by simp[hi]
  obtain⟨u,hu⟩:=Ay rv ex;rw[hl]at st;refine wpAny_pyNext_dict_item (knd:=bY X.prog X.w) st ⟨o,es,ho,h2,hd,h4⟩ hu fun key h' hk wU sb=>?_
  have I1:Inv X U Z H {s with heap:=h'}:=I.turned (t':=s.toks) (fun b o hb e=>(sb.2 b hb).trans e) f0 f1 f3 f4 f5;obtain⟨oi,e,c,d⟩:=id wU;refine⟨key,rfl,y3 (s:={s with heap:=h'}) e c d (by decide) ⟨kV kvs[i].1,H,I1,?_,⟨rfl,_,_,ex,rfl⟩,by rw[hl];exact wU,fun b hb=>(hf b hb).1⟩⟩;rcases dD hk with⟨j,t,e1,e2⟩|⟨y,t,e1,e2⟩
  ·rw[e1,e2];exact⟨t,rfl⟩
  ·rw[e1,e2];exact⟨t,rfl⟩
 done:=by
  intro X hP hw hK hc i U s Z H E I hf st ⟨hg,hi⟩;subst hP hw hK;obtain⟨ho,hz,hs,vs,rv,o',z_,IU,h1,h2,h3,h4⟩:=(show cR X.prog X.w H s.heap a (.kR o (.dK kvs))from I.cP a _ hg);rw[ho]at h1;cases h1;rw[hd]at h3;cases h3;obtain⟨f0,f1,f2,f3,f4,f5⟩:=hf it (by simp);have hl:=rO rv;rw[hl]at st;exact wpAny_pyNext_dict_end (knd:=bY X.prog X.w) (I.ok.hd hc) st ⟨o,es,ho,h2,hd,h4⟩ (List.getElem?_eq_none (by rw[<-hl];exact hi)) fun h' eb=>⟨rfl,I.turned (t':=s.toks) (fun b o hb e=>eb b o hb e) f0 f1 f3 f4 f5⟩
 self:=fun _ _ _ _ _ st h=>wpAny_pyIter_keyiter st h
def zw:Key->Tr
 |.inl i=>.int i
 |.inr z=>.str z
def keyOk:Key->Bool
 |.inl _=>true
 |.inr z=>decide (z.length<=cS)
theorem zx{W:Vw}{k:Key}(h:keyOk k=true):Rep K W (kV k) (zw k):=by
 cases k with
 |inl i=>exact .int i
 |inr z=>exact .str z (ee h)
def Cq(bt:List (Key×Tr)):Rs (List Tr):=if bt.all (fun p=>keyOk p.1)=true then .ok (bt.map fun p=>zw p.1)else .bad
def J4(r:Rs Tr):Rs (List Tr):=r.bind fun t=>match t with
 |.bT bt=>Cq bt
 |_=>.bad
inductive tJ(X:Cx)(W:bO->Rs (List Tr))(Z:St)(H:Hp)(R:It->Hp->Prop):Prop
 |mk (B:eW) (Y:bO):HB B H->cB X.K B H Z Y->(Fi X H (W Y) fun ts=>∀J H',Hs X B H H'->lu X.K B J H' ts->R J H')->tJ X W Z H R
theorem El{o:Obj}{kvs:List (Key×V)}(h:(bV B H).H a=some (.kR o (.dK kvs)))(e:kvs.map (·.1)=aF.map (·.1))(hk:aF.all (fun p=>keyOk p.1)=true):lu K B (Itd a o kvs) H (aF.map fun p=>zw p.1):=by
 have hl:kvs.length=aF.length:=by have q:=cQ List.length e;rw[bj,bj]at q;exact q
 refine⟨fun i B' H' hi s hb=>⟨bD _ _ (s.h _ _ h),by rw[bj]at hi;rw[hl];exact hi⟩,fun i B' H' x Mj hi s hb ⟨eh,k,v,ek,ex⟩=>?_,fun B' H' s=>⟨bD _ _ (s.h _ _ h),by rw[bj,hl];exact bu _⟩⟩;subst eh ex;have e1:(kvs.map (·.1))[i]?=some k:=by rw[bW,ek];rfl
 rw[e,bW]at e1;cases e2:aF[i]? with
 |none=>rw[e2]at e1;cases e1
 |some p=>
  rw[e2]at e1;have e3:p.1=k:=Option.some.inj e1;refine⟨ba.refl _,zw k,by rw[bW,e2,<-e3];rfl,zx ?_⟩;rw[<-e3];exact dm.mp hk p (dS e2)
section
theorem Wq(hl:PE X am (tP X F)):PI X tg am (tJ X fun Y=>J4 (F Y)):=by
 intro U s Z H R I ⟨B,Y,hb,r,q⟩;refine d7 (hl U s Z H (fun x H1=>∃(a:Addr) (kvs:List (Key×V)) (bt:List (Key×Tr)),x=.ref a/\ba H H1/\Rd (bV B H1).H a (.dK kvs)/\kvs.map (·.1)=bt.map (·.1)/\bt.all (fun p=>keyOk p.1)=true/\∀J H',Hs X B H H'->lu X.K B J H' (bt.map fun p=>zw p.1)->R J H') I ⟨B,Y,hb,r,q.bind.mono fun t qt v H1 s1 r1=>?_⟩) fun v s1 ⟨x,H1,I1,r1,a,kvs,bt,ex,sm,rd,ek,hk,k⟩=>?_
 ·skip
  split at qt
  ·obtain⟨a,kvs,e0,h,e,rr⟩:=r1.m8;obtain⟨z,q1⟩:=gq qt;exact⟨a,kvs,_,e0,s1,h,e,z,q1⟩
  ·exact qt.elim
 ·subst ex;cases r1;have rd1:Rd H1 a (.dK kvs):=rd.same bD;have hv:B.hd a=false:=by
   cases z:B.hd a with
   |false=>rfl
   |true=>
    have n:(bV B H1).H a=none:=by show(if B.hd a=true then none else H1 a)=none;rw[aS z]
    rcases rd with h|⟨o,h⟩<;>(rw[n]at h;cases h)
  obtain⟨hz,hs,vs,rv,o,es,ep,h1,h2,h3,h4⟩:=(show cR X.prog X.w H1 s1.heap a (.dK kvs)from rd1.ok I1.cP);refine wpAny_pyIter_dict (knd:=bY X.prog X.w) hs ⟨o,es,h1,h2,h3,h4⟩ ?_
  have fin:∀{H2:Hp},Inv X U Z H2 s1->H2 a=some (.kR o (.dK kvs))->Hs X B H H2->YL X U Z tg R (.ref s1.heap.objs.size) {s1 with heap:=s1.heap.push {cls:=.type "dict_keyiterator",data:=.fields #[.ref a,.int 0 0,.int vs.length 0,.int ep 0]}}:=fun{H2} I2 e2 tf=>
   ⟨s1.heap.objs.size,[s1.heap.objs.size],_,Itd a o kvs,H2,rfl,I2.kept (t':=s1.toks) fun b o e=>bL _ e,Ht a _ o kvs es ep h3,⟨_,cf _ rfl,rfl,by rw[rO rv];rfl⟩,fun b hb=>by
    have e:b=s1.heap.objs.size:=by simpa using hb
    subst e;exact I2.wR (bu _) (I2.cP.fresh (bu _)),k _ H2 tf (El (by rw[fL hv];exact e2) ek hk)⟩
  rcases rd1 with e1|⟨o',e1⟩
  ·refine fin (I1.frozen e1 h1) bG (.inr ⟨H1,a,o,kvs,sm,hv,e1,rfl,fun o' u e0=>?_⟩);have q:=I1.base.kT a o' u e0;rw[e1]at q;cases q
  ·have eo:o'=o:=by
    have q:=(show cR X.prog X.w H1 s1.heap a (.kR o' (.dK kvs))from I1.cP a _ e1).1;rw[h1]at q;cases q;rfl
   subst eo;exact fin I1 e1 (.inl sm)
variable {a b:Expr}{es:List Expr}{A:bO->Rs Bool}{scope:Scope}{N':List Str}{ix:List (Option Nat)}{elt c5:Expr}{ifs:List Expr}{T:n6}{W:bO->Rs (List Tr)}
theorem Hv{Q:VK}(hT:jx T)(q:tP X (fun Y=>u4 ix T A F (W Y) Y) Z H Q):Uo (tJ X W) ix (Pm X.K T) (Pl X.K A) (Pk X.K F) Z H (fun v H'=>kG X H' (Q v)):=by
 obtain⟨B,Y,hb,r,q⟩:=q;refine⟨B,Y,hb,r,q.bind.mono fun ts qt J H1 tf gt D hD=>?_⟩;by_cases hz:ts.length<=e_
 ·rw[aS hz]at qt;exact vN hT (vM ix Y) (tf.hb hb) gt hz ((tf.Hr r).comp ix (kF hD)) hD (Fi.bind qt) fun ys H' k s' rp=>by
   obtain⟨Hu,su,ru,ku⟩:=tf.PC hb s';exact ku _ (k _ Hu su (ru rp))
 ·rw[aW hz]at qt;exact qt.elim
theorem Wr(Lk:gz X N' ix scope)(hi:PI X tg c5 (tJ X W))(kU:Nf X scope N' tg elt ifs T A F)(hT:jx T)(hc:X.calm=true:=by rfl) (hs:isSet c5=false:=by rfl):
  PE X (.ListComp elt [⟨tg,c5,ifs,0⟩] scope pos) (tP X fun Y=>u4 ix T A F (W Y) Y):=
 (JB Lk hc hi kU.Us (f' hs)).Uv.weak fun Z H Q q=>Hv hT q
theorem R7{G:bO->Rs Out}(hi:PI X tg c5 (tJ X W))(hg:PG X tg (tG X T))(hb:n_ X ah (tS X G))(hp:PassesOwn (model X.prog X.w) X.A X.env X.xe:=by exact oU) (hc:X.calm=true:=by rfl)
  (hs:isSet c5=false:=by rfl):PS X (.For tg c5 ah [] pos) (tS X fun Y=>FG T G (W Y) Y):=
 (DP hp hc hi hg hb (f' hs)).Uv.weak fun D Z H ⟨C,B0,H0,B,Y,si,r,q⟩=>⟨B,Y,si.hb,r,(q.bind.here si).mono fun ts qt J H1 tf gt=>by
  have si0:dZ B B H1 B H1:=dZ.refl (tf.hb si.hb) .refl;have fin:∀{c:Tr},xS X C B0 H0 c->False:=fun{c} xc=>xc B H si;have qt:=qd.imp (Up:=fun _=>False) qt fun c xc=>(fin xc).elim;refine⟨fun i m di H'=>m=ts.length - i/\i<=ts.length/\∃B' g9,dZ C B H1 B' H'/\cB X.K B' H' di g9/\qd (fun _=>False) (yO T G (ts.drop i) g9) (D8 X D C B0 H0),⟨_,rfl,dU _,B,Y,dZ.refl (tf.hb si.hb) si.sub,tf.Hr r,qt⟩,?_⟩
  rintro i m di H' ⟨rfl,hi,B',g9,Na,r',q'⟩
  by_cases f_:i<ts.length
  ·rw[oh f_]at q';refine .inr ⟨gt.go i B' H' f_ Na.jw Na.hb,fun vK H2=>∃B2 g_,dZ C B H1 B2 H2/\cB X.K B2 H2 vK g_/\qd (fun _=>False) (yO T G (ts.drop (i+1)) g_) (D8 X D C B0 H0),
    fun vK H2 ⟨B2,g_,x1,x2,x3⟩=>⟨ts.length - (i+1),by omega,rfl,f_,B2,g_,x1,x2,x3⟩,fun x H2 hx=>?_⟩
   obtain⟨s2,t,et,rt⟩:=gt.Fj i B' H' x H2 f_ Na.jw Na.hb hx;have RC:ts[i]=t:=by rw[bQ f_]at et;exact Option.some.inj et
   rw[RC]at q';have si2:=Na.go s2;have qq:qd (fun _=>False) (T t g9) _:=qd.bind q';refine⟨B',g9,t,si2.hb,r'.same s2,rt,(qd.imp qq fun c z=>z.elim).mono fun qS q1 MF H3 s3 r3=>?_⟩;have Uw:=si2.go s3;refine⟨C,B',H3,B',qS,dZ.refl Uw.hb Uw.sub,r3,((qd.bind q1).imp fun c z=>z.elim).mono fun o qo=>?_⟩;cases o with
   |nx g_=>exact fun JX B4 H4 R8 r4=>⟨B4,g_,Uw.trans R8,r4,qo⟩
   |ct g_=>exact fun JX B4 H4 R8 r4=>⟨B4,g_,Uw.trans R8,r4,qo⟩
   |bk g_=>
    intro JX B4 H4 R8 r4;obtain⟨Hu,su,ru,rs,ku⟩:=tf.back (Uw.trans R8);exact ku _ (qo JX B4 Hu (si.trans su) (rs r4))
   |ret t=>
    intro v B4 H4 R8 r4;obtain⟨Hu,su,ru,rs,ku⟩:=tf.back (Uw.trans R8);exact ku _ (qo v B4 Hu (si.trans su) (ru r4))
  ·have e:i=ts.length:=by omega
   subst e;rw[oK]at q';obtain⟨Hu,su,ru,rs,ku⟩:=tf.back Na;exact .inl ⟨gt.stop B' H' Na.jw,ku _ (q' di B' Hu (si.trans su) (rs r'))⟩⟩
end
theorem rP{α:Type}:∀(l:List α) (i:Nat) (hi:i<l.length),(l[i]::l.eraseIdx i).Perm l
 |x::r,0,_=>List.Perm.refl _
 |x::r,i+1,hi=>by
  have ih:=rP r i (by simpa using hi);have Y0:i<r.length:=by simpa using hi
  show(r[i]::x::r.eraseIdx i).Perm (x::r);exact(List.Perm.swap _ _ _).trans (ih.cons x)
theorem Em{M:Model}{src:Source}{n:Nat}{Q:Nat->Shared->Prop}(hn:n≠0)(h:∀i,i<n->∀d,Q i {s with drawn:=d}):wpAny M A (choose src n) Q E s:=fun Γ p _=>by
 unfold choose;rw[Sem.wp];refine⟨hn,?_⟩;rw[Sem.wp];exact h _ (Nat.mod_lt _ (Nat.pos_of_ne_zero hn)) _
theorem qW{M:Model}{α:Type}:∀(n:Nat) (xs:List α) (s:Shared) (Q:List α->Shared->Prop),xs.length=n->(∀ys d,ys.Perm xs->Q ys {s with drawn:=d})->wpAny M A (drawOrder n xs) Q E s
 |0,xs,s,Q,hl,h=>by
  cases xs with
  |nil=>exact a_ (h [] s.drawn (List.Perm.refl _))
  |cons _ _=>cases hl
 |n+1,[],s,Q,hl,h=>by cases hl
 |n+1,x::r,s,Q,hl,h=>by
  unfold drawOrder;refine aP (Em (by simp) fun i hi d=>?_);have hx:(x::r)[i]?=some (x::r)[i]:=bQ hi
  rw[hx];dsimp only;refine aP (qW n _ _ _ (by rw[BF hi];simpa using hl) fun ys d' hp=>?_);refine a_ (h _ d' ?_);exact(hp.cons _).trans (rP _ i hi)
abbrev BB(w:World):Bool:=w.params.followText "set-order"
def ent(w:World)(p:Str×Tok):Int×Value:=(hashStr w p.1,.str p.1 p.2)
def kW(w:World)(h:Heap)(a:Addr)(ss:List Str):Prop:=
 ∃(o:Obj) (es:Array (Int×Value)) (ep:Nat) (t:SetTable) (l:List (Str×Tok)),h.get? a=some o/\o.ExactSet/\o.data=.set es ep t/\es.toList=l.map (ent w)/\(l.map (·.1)).Perm ss/\ss.Nodup/\es.size<scanBound/\
  t.fits es.size=true/\(BB w=true\/t.led=true)/\(es.size≠0->t.plain=false)
theorem Hw{l:List (Str×Tok)}:ElemsOf (PySem.strKind P w) (l.map (ent w)):=fun e he=>by
 obtain⟨p,_,rfl⟩:=cA.mp he;exact⟨⟨p.1,by simp[PySem.strKind,ent,Value.isStrOf],rfl⟩,rfl⟩
theorem kW.typeIs {ss:List Str}(h:kW w s.heap a ss):s.TypeIs (.ref a) "set":=by
 obtain⟨o,_,_,_,_,ho,hx,_⟩:=h;exact⟨o,ho,hx.1⟩
theorem yR(t:SetTable)(n:Nat):(t.orStandIn n).led=t.led:=by
 unfold SetTable.orStandIn;split<;>rfl
theorem NK(t:SetTable)(j:Nat):(t.put j).1.led=t.led:=by
 unfold SetTable.put
 rfl
theorem En(t:SetTable)(es:Array (Int×Value))(h:Int)(x:Value):(layNew t es h x).2.1.led=t.led:=by
 unfold layNew;split
 ·dsimp only;rw[yR,NK]
 ·rfl
theorem Eo{t t':SetTable}{hs:Array Int}{o:Array Nat}(h:t.relaid hs i=some (t',o)):t'.led=t.led/\t'.plain=t.plain:=by
 unfold SetTable.relaid SetTable.laid at h;simp only[bind,Option.bind]at h;split at h
 ·cases h
 ·cases h;exact⟨rfl,rfl⟩
theorem Az(t:SetTable)(es:Array (Int×Value))(n:Nat):(relayAll t es n).2.1.led=t.led/\(t.plain=false->(relayAll t es n).2.1.plain=false):=by
 unfold relayAll;split
 ·rename_i t' o e;have q:=Eo e;dsimp only;split
  ·exact⟨q.1,fun z=>q.2.trans z⟩
  ·exact⟨rfl,fun _=>rfl⟩
 ·exact⟨rfl,fun _=>rfl⟩
theorem zy(x:Str)(p:Str×Tok):(PySem.strKind P w).is x (ent w p).2=decide (x=p.1):=by
 have h:(PySem.strKind P w).is p.1 (ent w p).2=true:=by simp[PySem.strKind,ent,Value.isStrOf]
 exact KeyKind.is_eq_decide h x
theorem xD{h:Heap}{o:Obj}{es:Array (Int×Value)}{t:SetTable}(ho:h.get? a=some o)(hex:o.ExactSet)(hd:o.data=.set es i t){z_:Array (Int×Value)}{t':SetTable}{l':List (Str×Tok)}{BC:List Str}
  (he:z_.toList=l'.map (ent w)) (hp:(l'.map (·.1)).Perm BC) (hn:BC.Nodup) (hb:z_.size<scanBound) (hf:t'.fits z_.size=true) (hl:BB w=true\/t'.led=true) (nZ:z_.size≠0->t'.plain=false):
  (h.update a (Obj.putSet z_ t')).get? a=some {o with data:=.set z_ (i+1) t'}/\kW w (h.update a (Obj.putSet z_ t')) a BC:=by
 have hg:(h.update a (Obj.putSet z_ t')).get? a=some {o with data:=.set z_ (i+1) t'}:=by
  have q:=sf (Obj.putSet z_ t') ho (by rw[putSet_of z_ t' hd];rfl);rw[putSet_of z_ t' hd]at q;exact q
 exact⟨hg,_,z_,i+1,t',l',hg,hex,rfl,he,hp,hn,hb,hf,hl,nZ⟩
theorem Hx{l:List (Str×Tok)}{u:Tok}{es:List (Int×Value)}(hp:es.Perm (l.map (ent w)++[(hashStr w x,.str x u)])):∃l':List (Str×Tok),es=l'.map (ent w)/\l'.Perm (l++[(x,u)]):=by
 have e:l.map (ent w)++[(hashStr w x,Value.str x u)]=(l++[(x,u)]).map (ent w):=by rw[jU];rfl
 rw[e]at hp;have back:∀(z7:List (Str×Tok)) (es:List (Int×Value)),es.Perm (z7.map (ent w))->∃l':List (Str×Tok),es=l'.map (ent w)/\l'.Perm z7:=by
  intro z7 es hp
  let f:Int×Value->Str×Tok:=fun e=>match e.2 with
   |.str y t=>(y,t)
   |_=>(x,u)
  have fe:∀p,f (ent w p)=p:=fun p=>rfl;have h1:∀e∈es,ent w (f e)=e:=fun e he=>by
   obtain⟨p,_,rfl⟩:=cA.mp (hp.mem_iff.mp he);rw[fe]
  refine⟨es.map f,?_,?_⟩
  ·rw[cF]
   conv=>lhs;rw[<-kB es]
   exact gH fun e he=>(h1 e he).symm
  ·have h2:=hp.map f;rw[cF]at h2;have h3:List.map (f∘ent w) z7=z7:=by
    conv=>rhs;rw[<-kB z7]
    exact gH fun p _=>fe p
   rw[h3]at h2;exact h2
 exact back _ _ hp
theorem xE{l:List (Str×Tok)}{es:List (Int×Value)}(hp:es.Perm (l.map (ent w))):∃l':List (Str×Tok),es=l'.map (ent w)/\l'.Perm l:=by
 let f:Int×Value->Str×Tok:=fun e=>match e.2 with
  |.str y t=>(y,t)
  |_=>(Str.empty,0)
 have fe:∀p,f (ent w p)=p:=fun p=>rfl;have h1:∀e∈es,ent w (f e)=e:=fun e he=>by
  obtain⟨p,_,rfl⟩:=cA.mp (hp.mem_iff.mp he);rw[fe]
 refine⟨es.map f,?_,?_⟩
 ·rw[cF]
  conv=>lhs;rw[<-kB es]
  exact gH fun e he=>(h1 e he).symm
 ·have h2:=hp.map f;rw[cF]at h2;have h3:List.map (f∘ent w) l=l:=by
   conv=>rhs;rw[<-kB l]
   exact gH fun p _=>fe p
  rw[h3]at h2;exact h2
theorem Cr{g:Bool->Sem Unit}(hg:∀(b:Bool) (cZ:Shared) (Q':Unit->Shared->Prop),Q' () cZ->wpAny (model P w) A (g b) Q' E cZ){o:Obj}{es:Array (Int×Value)}{t:SetTable}
  (ho:s.heap.get? a=some o) (hex:o.ExactSet) (hd:o.data=.set es i t) {vv:Array (Int×Value)} {t2:SetTable} {l1:List (Str×Tok)}
  (he1:vv.toList=l1.map (ent w)) (hp1:(l1.map (·.1)).Perm ps) (hn1:ps.Nodup) (Ax:vv.size<scanBound) (hf2:t2.fits vv.size=true) (Mu:BB w=true\/t2.led=true) (Ws:t2.plain=false) {Cs:Bool} {R:Option Bool->Shared->Prop}
  (h:∀h',Heap.SameBut a s.heap h'->kW w h' a ps->R (some true) {s with heap:=h'}):
  wpAny (model P w) A (do
    storeSet a vv t2
    if(!Cs&&t2.tooFull)=true then do
       g (relayAll t2 vv (SetTable.grown vv.size)).2.2
       storeSet a (relayAll t2 vv (SetTable.grown vv.size)).1 (relayAll t2 vv (SetTable.grown vv.size)).2.1
       pure (some true)
     else pure (some true)) R E s:=by
 refine aP (wpAny_storeSet_of ho hd ?_ (wL Ax));obtain⟨PD,Wt⟩:=xD (w:=w) ho hex hd he1 hp1 hn1 Ax hf2 Mu fun _=>Ws;have sb1:=oC s.heap a (Obj.putSet vv t2);split
 ·have hp:=relayAll_perm t2 vv (SetTable.grown vv.size);have Ut:=relayAll_fits t2 vv (SetTable.grown vv.size);have Y1:=Az t2 vv (SetTable.grown vv.size);generalize relayAll t2 vv (SetTable.grown vv.size)=Rl at hp Ut Y1⊢;obtain⟨es2,t3,aa4⟩:=Rl;dsimp only at hp Ut Y1⊢;rw[he1]at hp;obtain⟨l2,e2,p2⟩:=xE hp;have hsz:es2.size=vv.size:=by
   have q:=hp.length_eq;rw[<-he1,fU,fU]at q;exact q
  have NL:es2.size<scanBound:=by rw[hsz];exact Ax
  refine aP (hg _ _ _ ?_);refine aP (wpAny_storeSet_of PD rfl ?_ (wL NL));obtain⟨_,hS2⟩:=xD (w:=w) (h:=s.heap.update a (Obj.putSet vv t2)) PD hex rfl e2 ((p2.map _).trans hp1) hn1 NL Ut (Mu.imp id fun z=>Y1.1.trans z) fun _=>Y1.2 Ws;exact a_ (h _ (sb1.trans (oC _ a _)) hS2)
 ·exact a_ (h _ sb1 Wt)
def gv(ss:List Str)(x:Str):List Str:=if x∈ss then ss else ss++[x]
theorem aaj{ss:List Str}{u:Tok}{Q:Bool->Shared->Prop}(hS:kW w s.heap a ss)(Ct:ss.length+1<scanBound)
  (h:∀b h',Heap.SameBut a s.heap h'->kW w h' a (gv ss x)->Q b {s with heap:=h'}):wpAny (model P w) A (setAddHashed a (.str x u) (hashStr w x)) Q E s:=by
 obtain⟨o,es,ep,t,l,ho,hex,hd,he,hp,hn,hb,hf,hl,nZ⟩:=id hS;have hel:ElemsOf (PySem.strKind P w) es.toList:=by rw[he];exact Hw
 have b9:es.size=ss.length:=by
  have q:=cQ List.length he;rw[fU,bj]at q;have q2:=hp.length_eq;rw[bj]at q2;omega
 have Jf:(PySem.strKind P w).is x (.str x u)=true:=by simp[PySem.strKind,Value.isStrOf]
 unfold setAddHashed setAddHashedIn;refine fi (aP (ko ho hd hf ?_));dsimp only;rw[byScan_of (knd:=PySem.strKind P w) rfl hb hel];simp only[↓reduceIte];unfold setAddByScan;refine aP ?_
 refine aP (fo ?_);refine aP (wpAny_setScan_of (knd:=PySem.strKind P w) Jf ho hd hf hel ?_);have Hy:x∈ss↔∃e∈es.toList,(PySem.strKind P w).is x e.2=true:=by
  rw[he,<-hp.mem_iff];constructor
  ·intro m;obtain⟨p,PH,rfl⟩:=cA.mp m;exact⟨ent w p,fV PH,by rw[zy];simp⟩
  ·rintro ⟨e,he',hx⟩
   obtain⟨p,PH,rfl⟩:=cA.mp he';rw[zy,hU]at hx;rw[hx];exact fV PH
 cases hr:List.findIdx? (fun e=>(PySem.strKind P w).is x e.2) es.toList with
 |some j=>
  dsimp only;obtain⟨hj,hpj,_⟩:=BD.mp hr;have hx:x∈ss:=Hy.mpr ⟨es.toList[j],kr hj,hpj⟩;refine a_ (a_ ?_);have q:=h false s.heap (Heap.SameBut.refl a s.heap) (by unfold gv;rw[aS hx];exact hS);exact q
 |none=>
  dsimp only;have hx:¬x∈ss:=fun m=>by
   obtain⟨e,he',q⟩:=Hy.mp m;have z:=List.findIdx?_eq_none_iff.mp hr e he';rw[q]at z;cases z
  have hgw:∀(b:Bool) {cZ:Shared} {Q':Unit->Shared->Prop},Q' () cZ->wpAny (model P w) A (match b with|true=>rule "set.scan.the-table-gave-way"|false=>pure ()) Q' E cZ:=
   fun b cZ Q' hq=>by cases b<;>first|exact a_ hq|exact fo hq
  have xF:=layNew_perm t es (hashStr w x) (.str x u);have F6:=layNew_fits t es (hashStr w x) (.str x u);have Hz:=En t es (hashStr w x) (.str x u);generalize layNew t es (hashStr w x) (.str x u)=L at xF F6 Hz⊢;obtain⟨vv,t1,Cs,aba⟩:=L;dsimp only at xF F6 Hz⊢;rw[Array.toList_push,he]at xF;obtain⟨l1,e1,p1⟩:=Hx xF;have hsz:vv.size=es.size+1:=by
   have q:=xF.length_eq;rw[eP,<-he,fU,fU]at q;simpa using q
  have Ax:vv.size<scanBound:=by omega
  have MV:(l1.map (·.1)).Perm (ss++[x]):=by
   have q:=p1.map (·.1);rw[jU]at q;exact q.trans (hp.append_right _)
  have QK:(ss++[x]).Nodup:=by
   rw[wy];refine⟨hn,by simp,fun y hy z hz e=>?_⟩;rw[cX]at hz;subst hz e;exact hx hy
  have Wu:∀h',Heap.SameBut a s.heap h'->kW w h' a (ss++[x])->Q true {s with heap:=h'}:=fun h' sb J5=>h true h' sb (by unfold gv;rw[aW hx];exact J5);refine aP (hgw _ ?_);split
  ·refine aP ?_
   rw[hashByValue_scannable 8 (x:=.str x u) rfl];refine a_ ?_
   refine Cr ?_ ho hex hd e1 MV QK Ax ?_ ?_ ?_ ?_
   ·intro b cZ Q' hq;cases b<;>first|exact a_ hq|exact fo hq
   ·exact SetTable.fits_plain_off F6
   ·exact hl.imp id fun z=>Hz.trans z
   ·rfl
   ·intro h' sb J5;exact a_ (Wu h' sb J5)
  ·rename_i aak;refine aP (a_ ?_);simp only[↓reduceIte];refine Cr ?_ ho hex hd e1 MV QK Ax F6 ?_ ?_ ?_
   ·intro b cZ Q' hq;cases b<;>first|exact a_ hq|exact fo hq
   ·exact hl.imp id fun z=>Hz.trans z
   ·simpa using aak
   ·intro h' sb J5;exact a_ (Wu h' sb J5)
theorem dJ:Slot "set_iterator" "__next__" "set_iterator.__next__":=.of (owner:="set_iterator") (n:="__next__")
 (by rw[typeLookup_type,wo];kernel_rfl) (by decide+kernel) (by decide+kernel) (by decide+kernel) (by first|exact .inl (by decide+kernel)|exact .inr (by decide+kernel))
 (by rw[isSubtype_type];kernel_rfl)
theorem mE:entryFor table "set_iterator.__next__"=some Builtin.«set_iterator.__next__»:=entryFor_of_tree (by kernel_rfl)
theorem u7:Manifest.owners.lookup (String.ofList ['r', 'o', 't', 'a', 'r', 'e', 't', 'i', '_', 't', 'e', 's'].reverse)=some Manifest.sig_set_iterator:=by kernel_rfl
theorem nO(a:Value):argsOk "set_iterator.__next__" ⟨[a],[]⟩:=by
 unfold argsOk;rw[signature?_of (id:="set_iterator.__next__") (n:=['_', '_', 't', 'x', 'e', 'n', '_', '_']) (o:=['r', 'o', 't', 'a', 'r', 'e', 't', 'i', '_', 't', 'e', 's']) (by kernel_rfl) u7];kernel_rfl
theorem nP:Slot "set_iterator" "__iter__" "set_iterator.__iter__":=.of (owner:="set_iterator") (n:="__iter__")
 (by rw[typeLookup_type,wo];kernel_rfl) (by decide+kernel) (by decide+kernel) (by decide+kernel) (by first|exact .inl (by decide+kernel)|exact .inr (by decide+kernel))
 (by rw[isSubtype_type];kernel_rfl)
theorem vx:entryFor table "set.__iter__"=some Builtin.«frozenset.__iter__»:=entryFor_alias (id':="frozenset.__iter__") (by kernel_rfl) rfl (by decide+kernel) (by kernel_rfl)
def tV(F:Value)(i:Nat)(a:Addr)(n ep:Nat):Obj:={cls:=.type "set_iterator",dict:=none,data:=.fields #[F,rawInt i,.ref a,rawInt n,rawInt ep],slots:=#[]}
section
variable {o:Obj}{es:Array (Int×Value)}{ep:Nat}{t:SetTable}
theorem lM{Q:Array (Int×Value)->Shared->Prop}(ho:s.heap.get? a=some o)(hd:o.data=.set es ep t)(hf:t.fits es.size=true)(h:Q es s):wpAny (model P w) A (setEntries a) Q E s:=by
 unfold setEntries;exact aP (ko ho hd hf (a_ h))
theorem xG{R:ag->Shared->Prop}(hh:A.handled=none)
  (h:∀h' (x:Addr),Shared.TypeIs {s with heap:=h'} (.ref x) "StopIteration"->(∀b o,s.heap.get? b=some o->h'.get? b=some o)->E (.ref x) {s with heap:=h'}):
  wpAny (model P w) A.in1 (newExc (.type "StopIteration") []) (fun x s'=>wpAny (model P w) A.in1 (raiseNew x:Sem ag) R E s') E s:=by
 simp only[newExc,newTuple];refine aP (km ?_ (by size_fits));refine aP (m:=firstArgMember _ _) (wpAny_of_eq (a:=Value.none) (by first|rfl|(simp only[firstArgMember];rfl)) ?_);refine km ?_ (by size_fits)
 simp only[raiseNew];refine aP (wpAny_handled ?_)
 first|rw[show A.in1.handled=none from hh]|rw[hh]
 refine aP (a_ (wpAny_throw ?_));exact h _ _ ⟨_,cf _ rfl,rfl⟩ fun b o e=>bL _ (bL _ e)
theorem AA{slot:Nat}{r:Option (Value×Nat)}(hh:A.handled=none)(hit:s.heap.get? au=some (tV (rawInt slot) i a es.size ep))(ho:s.heap.get? a=some o)(hd:o.data=.set es ep t)(hf:t.fits es.size=true)
  (hn:∀(B:Around) (E':Value->Shared->Prop) (Q':Option (Value×Nat)->Shared->Prop),Q' r s->wpAny (model P w) B (setNext a slot i ep) Q' E' s)
  (h1:∀x nx,r=some (x,nx)->∀h',h'.get? au=some (tV (rawInt nx) (i+1) a es.size ep)->Heap.SameBut au s.heap h'->aK (some x) {s with heap:=h'})
  (h2:r=none->∀h',Heap.ExtBut au s.heap h'->aK none {s with heap:=h'}):wpAny (model P w) A (pyNext (.ref au)) aK E s:=by
 have hT:s.TypeIs (.ref au) "set_iterator":=⟨_,hit,rfl⟩;unfold pyNext;refine aP (sM (p8 (name:=Str.ofString "__next__") hT dJ (gJ dJ hT mE ?_ (nO _))));unfold Builtin.«set_iterator.__next__»;refine aP (m:=slotArgs "__next__" 0 _) (a_ ?_);refine aP (wpAny_fieldsOf hit rfl ?_);dsimp only;refine aP (lM ho hd hf ?_);rw[aW (by simp)];show wpAny _ _ (setNext a (slot:Int).toNat (i:Int).toNat (ep:Int).toNat>>=_) _ _ s;rw[lj,lj,lj];refine aP (hn _ _ _ ?_);cases r with
 |none=>
  dsimp only;refine aP (wpAny_setField hit rfl (by show 2<5;decide) ?_);refine aP (xG hh fun h' x hx hk=>?_);refine aP (oR (T:="StopIteration") (b:=true) hx isSubtype_stop ?_);exact a_ (h2 rfl _ fun b o hb e=>hk b o ((oC s.heap au _).extBut b o hb e))
 |some p=>
  obtain⟨x,nx⟩:=p;dsimp only;refine aP (iX hit (by show 0<5;decide) fun fK J7 pE=>?_);refine aP (iX (s:={s with heap:=fK}) J7 (by show 1<5;decide) fun ph Wv uI=>?_);exact a_ ⟨_,rfl,a_ (h1 x nx rfl ph Wv (pE.trans uI))⟩
end
theorem uJ:entryFor table "set_iterator.__iter__"=some Builtin.«dict_keyiterator.__iter__»:=entryFor_alias (id':="dict_keyiterator.__iter__") (by kernel_rfl) rfl (by decide+kernel) (by kernel_rfl)
theorem vy(a:Value):argsOk "set_iterator.__iter__" ⟨[a],[]⟩:=by
 unfold argsOk;rw[signature?_of (id:="set_iterator.__iter__") (n:=['_', '_', 'r', 'e', 't', 'i', '_', '_']) (o:=['r', 'o', 't', 'a', 'r', 'e', 't', 'i', '_', 't', 'e', 's']) (by kernel_rfl) u7];kernel_rfl
theorem F7{α:Type}(next:Nat->Nat):∀(fuel k:Nat) (left:List α) (out:Array α),left.length=fuel->(pickOrder.go next fuel k left out).toList.Perm (out.toList++left)
 |0,k,left,out,h=>by
  rw[List.eq_nil_of_length_eq_zero h];simp[pickOrder.go]
 |fuel+1,k,left,out,h=>by
  have hi:next k % left.length<left.length:=Nat.mod_lt _ (by omega)
  unfold pickOrder.go;rw[bQ hi];dsimp only;refine(F7 next fuel (k+1) _ _ (by rw[BF hi];omega)).trans ?_
  rw[Array.toList_push,wx];exact(rP left _ hi).append_left _
theorem HC(next:Nat->Nat)(xs:Array ag):(pickOrder next xs).toList.Perm xs.toList:=by
 have h:=F7 next xs.size 0 xs.toList #[] (by simp)
 unfold pickOrder;simpa using h
theorem R9:SetTable.below #[] 0=0:=rfl
theorem R_(j:Nat):SetTable.below #[j] 0=0:=by
 unfold SetTable.below;simp[SetTable.below.go]
theorem R'(j:Nat):SetTable.below #[j] (j+1)=1:=by
 unfold SetTable.below;simp[SetTable.below.go]
section
variable {o:Obj}{es:Array (Int×Value)}{ep:Nat}{t:SetTable}
theorem AB{n e:Nat}(hit:s.heap.get? au=some (tV af i a n e))(h:Q (.ref au) s):wpAny (model P w) A (pyIter (.ref au)) Q E s:=by
 have hT:s.TypeIs (.ref au) "set_iterator":=⟨_,hit,rfl⟩;refine wpAny_pyIter_slot hT nP (gJ nP hT uJ ?_ (vy _));show wpAny _ _ (ret (.ref au)) _ _ s;exact a_ ⟨_,rfl,"set_iterator",_,hT,dJ.lookup,h⟩
theorem J8{tp:Addr}{m:Nat}{ot:Obj}(hh:A.handled=none)(hit:s.heap.get? au=some (tV (.ref tp) i a es.size ep))(ho:s.heap.get? a=some o)(hd:o.data=.set es ep t)(hf:t.fits es.size=true)
  (htp:s.heap.get? tp=some ot) (Y2:ot.data=.seq ak m)
  (h1:∀(p:Nat) (e:Int×Value),ak[i]?=some (rawInt p)->es[p]?=some e->∀h',h'.get? au=some (tV (.ref tp) (i+1) a es.size ep)->Heap.SameBut au s.heap h'->aK (some e.2) {s with heap:=h'})
  (h2:ak[i]?=none->∀h',Heap.ExtBut au s.heap h'->aK none {s with heap:=h'})
  (nZ:∀v,ak[i]?=some v->∃(p:Nat) (e:Int×Value),v=rawInt p/\es[p]?=some e):wpAny (model P w) A (pyNext (.ref au)) aK E s:=by
 have hT:s.TypeIs (.ref au) "set_iterator":=⟨_,hit,rfl⟩;unfold pyNext;refine aP (sM (p8 (name:=Str.ofString "__next__") hT dJ (gJ dJ hT mE ?_ (nO _))));unfold Builtin.«set_iterator.__next__»;refine aP (m:=slotArgs "__next__" 0 _) (a_ ?_);refine aP (wpAny_fieldsOf hit rfl ?_);dsimp only;refine aP (lM ho hd hf ?_);rw[aW (by simp)];show wpAny _ _ (seqItems? (.ref tp)>>=_) _ _ s;refine aP (gL htp Y2 ?_);dsimp only;rw[lj];cases hv:ak[i]? with
 |none=>
  dsimp only;refine aP (iX hit (by show 0<5;decide) fun fK J7 pE=>?_);refine aP (iX (s:={s with heap:=fK}) J7 (by show 2<5;decide) fun ph Wv uI=>?_);refine aP (xG hh fun h' x hx hk=>?_);refine aP (oR (T:="StopIteration") (b:=true) hx isSubtype_stop ?_);exact a_ (h2 hv _ fun b o hb e=>hk b o (uI.extBut b o hb (pE.extBut b o hb e)))
 |some v=>
  obtain⟨p,e,rfl,he⟩:=nZ v hv;show wpAny _ _ (setNextDrawn a (p:Int).toNat (ep:Int).toNat>>=_) _ _ s;rw[lj,lj];refine aP ?_
  unfold setNextDrawn;refine aP (ko ho hd hf ?_);dsimp only;rw[aW (by simp),he];dsimp only;refine a_ ?_
  refine aP (iX hit (by show 1<5;decide) fun fK J7 pE=>?_);exact a_ ⟨_,rfl,a_ (h1 p e hv he fK J7 pE)⟩
theorem qj{Q:Bool->Shared->Prop}(h:Q (BB w) s):wpAny (model P w) A setsByText Q E s:=by
 unfold setsByText;exact aP (wpAny_askSetting (a_ h))
theorem zz{slot:Nat}{Q:Option (Value×Nat)->Shared->Prop}(hb:BB w=true)(ho:s.heap.get? a=some o)(hd:o.data=.set es ep t)(hf:t.fits es.size=true)
  (h:Q (((pickOrder (w.params.setOrder a ep) es)[i]?).map fun e=>(e.2,slot)) s):wpAny (model P w) A (setNext a slot i ep) Q E s:=by
 unfold setNext;refine aP (ko ho hd hf ?_);dsimp only;refine aP (qj ?_);rw[hb,aS rfl];simp only[sq,cW,cx];refine aP ?_
 unfold setWalk;refine aP (ko ho hd hf ?_);dsimp only;refine aP (qj ?_);rw[hb,aS rfl];refine aP (wpAny_askSetting ?_);exact a_ (a_ h)
theorem Cu{slot:Nat}{Q:Option (Value×Nat)->Shared->Prop}(hb:BB w=false)(hl:t.led=true)(hz:es.size<=1)(ho:s.heap.get? a=some o)(hd:o.data=.set es ep t)(hf:t.fits es.size=true)
  (h:Q (match es[SetTable.below t.place slot]?,t.place[SetTable.below t.place slot]? with
   |some (_,x),some j=>some (x,j+1)
   |_,_=>none) s):wpAny (model P w) A (setNext a slot i ep) Q E s:=by
 unfold setNext;refine aP (ko ho hd hf ?_);dsimp only;refine aP (qj ?_);rw[hb];simp only[cW,cx];refine me (fun Ed=>absurd (show(!t.plain&&decide (es.size>1))=true from Ed) ?_) (fun _=>?_)
 ·rw[fh (p:=es.size>1) (by omega),wJ];exact fD
 ·refine aP (m:=(if(!t.led&&!es.isEmpty)=true then unsupported "set:maker-not-led"else pure ())) ?_
  rw[hl,aW (by simp)];exact a_ (a_ h)
end
theorem one_place{xs:Array Nat}(h:xs.size=1):∃j,xs=#[j]:=by
 obtain⟨l⟩:=xs
 match l,h with
 |[j],_=>exact⟨j,rfl⟩
def Ep(p:Str×Tok):Value:=.str p.1 p.2
def strAt(l:List (Str×Tok))(i:Nat)(v:Value):Prop:=(l[i]?).map Ep=some v
section
variable {o:Obj}{es:Array (Int×Value)}{ep:Nat}{t:SetTable}
theorem vP{l:List (Str×Tok)}(he:es.toList=l.map (ent w))(p:Nat):es[p]?=(l[p]?).map (ent w):=by
 rw[<-mZ,he,bW]
theorem HD(hb:BB w=true)(hd:o.data=.set es ep t)(hf:t.fits es.size=true){l:List (Str×Tok)}(he:(pickOrder (w.params.setOrder a ep) es).toList=l.map (ent w))(hl:l.length=es.size)(gV:au≠a)(A':Around)(hh:A'.handled=none):
  Walks P w A' au [au,a] [au] l.length (strAt l) (fun i h=>h.get? au=some (tV (rawInt 0) i a es.size ep)/\h.get? a=some o) where
 sub:=fun b hb=>by simp at hb;simp[hb]
 frame:=fun i h h' st k=>⟨k au (by simp) _ st.1,k a (by simp) _ st.2⟩
 item:=fun i s Q E hi st hQ=>by
  have e1:(pickOrder (w.params.setOrder a ep) es)[i]?=(l[i]?).map (ent w):=by rw[<-mZ,he,bW]
  rw[bQ hi]at e1;refine AA (slot:=0) (r:=some ((ent w l[i]).2,0)) hh st.1 st.2 hd hf (fun B E' Q' q=>zz hb st.2 hd hf (by rw[e1];exact q)) (fun x nx e h' g sb=>?_) fun e=>nomatch e;cases e;exact hQ _ h' s.toks (by unfold strAt;rw[bQ hi];rfl) ⟨g,(sb.2 a (Ne.symm gV)).trans st.2⟩ fun b o hb e=>sb.extBut b o (fun z=>hb (by simp[z])) e
 done:=fun s Q E st hQ=>by
  have e1:(pickOrder (w.params.setOrder a ep) es)[l.length]?=none:=by
   rw[<-mZ,he,bW,iV.mpr (bu _)];rfl
  refine AA (slot:=0) (r:=none) hh st.1 st.2 hd hf (fun B E' Q' q=>zz hb st.2 hd hf (by rw[e1];exact q)) (fun x nx e=>nomatch e) fun _ h' eb=>?_
  exact hQ h' s.toks fun b o hb e=>eb b o (fun z=>hb (by simp[z])) e
 self:=fun i s Q E st hQ=>AB st.1 hQ
theorem J9(hb:BB w=false)(hl:t.led=true)(hz:es.size<=1)(hd:o.data=.set es ep t)(hf:t.fits es.size=true){l:List (Str×Tok)}(he:es.toList=l.map (ent w))(gV:au≠a)(A':Around)(hh:A'.handled=none):
  Walks P w A' au [au,a] [au] l.length (strAt l) (fun i h=>h.get? au=some (tV (rawInt (if i=0 then(0:Nat)else t.place.getD 0 0+1:Nat)) i a es.size ep)/\h.get? a=some o) where
 sub:=fun b hb=>by simp at hb;simp[hb]
 frame:=fun i h h' st k=>⟨k au (by simp) _ st.1,k a (by simp) _ st.2⟩
 item:=fun i s Q E hi st hQ=>by
  have b9:l.length=es.size:=by have q:=cQ List.length he;rw[fU,bj]at q;exact q.symm
  have hi0:i=0:=by omega
  subst hi0;have Sa:t.place.size=es.size:=by
   simp only[SetTable.fits,bP,eV]at hf;exact hf.1
  obtain⟨j,hj⟩:∃j,t.place=#[j]:=by
   exact one_place (by omega)
  have e0:es[0]?=some (ent w l[0]):=by rw[vP he,bQ hi];rfl
  refine AA (slot:=0) (r:=some ((ent w l[0]).2,j+1)) hh st.1 st.2 hd hf (fun B E' Q' q=>Cu hb hl hz st.2 hd hf (by rw[hj,R_,e0];exact q)) (fun x nx e h' g sb=>?_) fun e=>nomatch e;cases e;refine hQ _ h' s.toks (by unfold strAt;rw[bQ hi];rfl) ⟨?_,(sb.2 a (Ne.symm gV)).trans st.2⟩ fun b o hb e=>sb.extBut b o (fun z=>hb (by simp[z])) e;rw[hj];exact g
 done:=fun s Q E st hQ=>by
  have b9:l.length=es.size:=by have q:=cQ List.length he;rw[fU,bj]at q;exact q.symm
  have Sa:t.place.size=es.size:=by
   simp only[SetTable.fits,bP,eV]at hf;exact hf.1
  have fin:∀slot:Nat,s.heap.get? au=some (tV (rawInt slot) l.length a es.size ep)->es[SetTable.below t.place slot]?=none->wpAny (model P w) A' (pyNext (.ref au)) Q E s:=fun slot hit e1=>by
   refine AA (slot:=slot) (r:=none) hh hit st.2 hd hf (fun B E' Q' q=>Cu hb hl hz st.2 hd hf (by rw[e1];exact q)) (fun x nx e=>nomatch e) fun _ h' eb=>?_
   exact hQ h' s.toks fun b o hb e=>eb b o (fun z=>hb (by simp[z])) e
  by_cases h0:l.length=0
  ·have hp0:t.place=#[]:=Array.eq_empty_of_size_eq_zero (by omega);refine fin 0 ?_ ?_
   ·have q:=st.1;rw[aS h0]at q;exact q
   ·rw[hp0,R9,vP he,iV.mpr (by omega)];rfl
  ·obtain⟨j,hj⟩:∃j,t.place=#[j]:=by
    exact one_place (by omega)
   refine fin (j+1) ?_ ?_
   ·have q:=st.1;rw[aW h0,hj]at q;exact q
   ·rw[hj,R',vP he,iV.mpr (by omega)];rfl
 self:=fun i s Q E st hQ=>AB st.1 hQ
theorem Er{tp:Addr}{ot:Obj}{ps:List Nat}{m:Nat}(hd:o.data=.set es ep t)(hf:t.fits es.size=true)(Y2:ot.data=.seq (ps.map fun i=>rawInt (i:Nat)).toArray m){l l':List (Str×Tok)}(he:es.toList=l.map (ent w))(hl':∀i:Nat,l'[i]?=(ps[i]?).bind fun p=>l[p]?)(Sa:∀p∈ps,p<l.length)
  (b9:l'.length=ps.length) (gV:au≠a) (hnt:au≠tp) (A':Around) (hh:A'.handled=none):
  Walks P w A' au [au,a,tp] [au] l'.length (strAt l') (fun i h=>h.get? au=some (tV (.ref tp) i a es.size ep)/\h.get? a=some o/\h.get? tp=some ot) where
 sub:=fun b hb=>by simp at hb;simp[hb]
 frame:=fun i h h' st k=>⟨k au (by simp) _ st.1,k a (by simp) _ st.2.1,k tp (by simp) _ st.2.2⟩
 item:=fun i s Q E hi st hQ=>by
  have hip:i<ps.length:=by omega
  have nZ:(ps.map fun i=>rawInt (i:Nat)).toArray[i]?=some (rawInt (ps[i]:Nat)):=by simp[hip]
  have hp:ps[i]<l.length:=Sa _ (kr hip);have e1:es[ps[i]]?=some (ent w l[ps[i]]):=by rw[vP he,bQ hp];rfl
  have e2:l'[i]?=some l[ps[i]]:=by rw[hl',bQ hip];exact bQ hp
  refine J8 hh st.1 st.2.1 hd hf st.2.2 Y2 (fun p e h1 h2 h' g sb=>?_) (fun z=>by rw[nZ]at z;cases z) (fun v hv=>?_)
  ·rw[nZ]at h1;have hpp:((ps[i]:Nat):Int)=(p:Int):=by
    have q:=Option.some.inj h1;injection q
   have aal:ps[i]=p:=by omega
   subst aal;rw[e1]at h2;cases h2;exact hQ _ h' s.toks (by unfold strAt;rw[e2];rfl) ⟨g,(sb.2 a (Ne.symm gV)).trans st.2.1,(sb.2 tp (Ne.symm hnt)).trans st.2.2⟩ fun b o hb e=>sb.extBut b o (fun z=>hb (by simp[z])) e
  ·rw[nZ]at hv;cases hv;exact⟨_,_,rfl,e1⟩
 done:=fun s Q E st hQ=>by
  have nZ:(ps.map fun i=>rawInt (i:Nat)).toArray[l'.length]?=none:=by simp[b9]
  refine J8 hh st.1 st.2.1 hd hf st.2.2 Y2 (fun p e h1=>by rw[nZ]at h1;cases h1) (fun _ h' eb=>?_) (fun v hv=>by rw[nZ]at hv;cases hv);exact hQ h' s.toks fun b o hb e=>eb b o (fun z=>hb (by simp[z])) e
 self:=fun i s Q E st hQ=>AB st.1 hQ
theorem HE{ss:List Str}(hS:kW w s.heap a ss)
  (hQ:∀(h':Heap) (d:Drawn) (au:Addr) (fp:List Addr) (St:Nat->Heap->Prop) (l:List (Str×Tok)),(l.map (·.1)).Perm ss->(∀b o,s.heap.get? b=some o->h'.get? b=some o)->s.heap.objs.size<=au->(∀b∈fp,b=a\/s.heap.objs.size<=b)->
   (∀A':Around,A'.handled=none->Walks P w A' au fp [au] l.length (strAt l) St)->St 0 h'->Q (.ref au) {s with heap:=h',drawn:=d}):wpAny (model P w) A (pyIter (.ref a)) Q E s:=by
 obtain⟨o,es,ep,t,l,ho,hex,hd,he,hp,hn,hb,hf,hl,nZ⟩:=id hS;have f_:a<s.heap.objs.size:=bp ho;have b9:l.length=es.size:=by have q:=cQ List.length he;rw[fU,bj]at q;exact q.symm
 refine wpAny_pyIter_slot hS.typeIs PySem.F.slot_set_iter (gJ PySem.F.slot_set_iter hS.typeIs vx ?_ (PySem.F.args_set_iter_1 _));unfold Builtin.«frozenset.__iter__»;refine aP (m:=Builtin.Frozenset.slot0 "__iter__" _) (a_ ?_);refine aP ?_
 unfold Builtin.Frozenset.sizeOf;refine aP (lM ho hd hf (a_ ?_));refine aP ?_
 unfold setDrawn;refine aP (ko ho hd hf ?_);dsimp only;refine aP (qj (a_ ?_));refine me (fun hdr=>?_) (fun hdr=>?_)
 ·
  refine aP (qW _ _ _ _ (sx ..) fun ps d Sa=>?_);have hz:((ps.map fun(i:Nat)=>rawInt i)).length<=sizeLine:=by
   rw[bj,Sa.length_eq,sx];exact wL hb
  refine aP (wpAny_newTuple (hsz:=hz) ?_);have PD:(s.heap.push {cls:=.type "tuple",data:=.seq (ps.map fun(i:Nat)=>rawInt i).toArray}).get? a=some o:=bL _ ho;have Rk:(s.heap.push {cls:=.type "tuple",data:=.seq (ps.map fun(i:Nat)=>rawInt i).toArray}).objs.size=s.heap.objs.size+1:=jg ..;refine aP (wpAny_setEpoch_of PD hd hf ?_);refine aP (km ?_);refine a_ ⟨_,rfl,"set_iterator",_,⟨_,cf _ rfl,rfl⟩,dJ.lookup,?_⟩;have Ww:∀p∈ps,p<l.length:=fun p hm=>by
   have q:=sG.mp (Sa.mem_iff.mp hm);omega
  have xF:(ps.map fun p=>l.getD p (Str.empty,0)).Perm l:=by
   have q:=Sa.map fun p=>l.getD p (Str.empty,0);have e:(List.range es.size).map (fun p=>l.getD p (Str.empty,0))=l:=by
    rw[<-b9];refine List.ext_getElem (by simp) fun i h1 h2=>?_
    simp[h2]
   rw[e]at q;exact q
  refine hQ _ d _ [_,a,s.heap.objs.size] _ (ps.map fun p=>l.getD p (Str.empty,0)) ((xF.map _).trans hp) (fun b o e=>bL _ (bL _ e)) (by rw[Rk];exact oZ _) (fun b hm=>?_)
   (fun A' hA=>Er (ot:={cls:=.type "tuple",data:=.seq (ps.map fun(i:Nat)=>rawInt i).toArray}) (ps:=ps) hd hf rfl he (fun i=>?_) Ww (bj ..) ?_ ?_ A' hA)
   ⟨cf _ rfl,bL _ PD,bL _ (cf _ rfl)⟩
  ·simp only[bB,cI,cJ]at hm;rcases hm with rfl|rfl|rfl
   ·right;rw[Rk];exact oZ _
   ·left;rfl
   ·right;exact bu _
  ·rw[bW];cases e:ps[i]? with
   |none=>rfl
   |some p=>
    have nZ:=Ww p (dS e);show some (l.getD p (Str.empty,0))=l[p]?
    rw[d_,bQ nZ];rfl
  ·rw[Rk];exact dB (lh f_)
  ·rw[Rk];exact l_ _
 ·refine aP (a_ ?_);refine aP (wpAny_setEpoch_of ho hd hf ?_);refine aP (km ?_);refine a_ ⟨_,rfl,"set_iterator",_,⟨_,cf _ rfl,rfl⟩,dJ.lookup,?_⟩;have yS:∀b∈[s.heap.objs.size,a],b=a\/s.heap.objs.size<=b:=fun b hm=>by
   simp only[bB,cI,cJ]at hm;rcases hm with rfl|rfl
   ·exact .inr (bu _)
   ·exact .inl rfl
  have gV:s.heap.objs.size≠a:=dB f_;cases Y3:BB w with
  |true=>
   have hpp:=HC (w.params.setOrder a ep) es;rw[he]at hpp;obtain⟨l2,e2,p2⟩:=xE hpp;exact hQ _ s.drawn _ [_,a] _ l2 ((p2.map _).trans hp) (fun b o e=>bL _ e) (bu _) yS (fun A' hA=>HD Y3 hd hf e2 (p2.length_eq.trans b9) gV A' hA) ⟨cf _ rfl,bL _ ho⟩
  |false=>
   have Y4:es.size<=1:=by
    by_cases hz:es.size<=1
    ·exact hz
    ·exfalso;refine hdr ?_
     show(!BB w&&(!t.plain&&decide (es.size>1)))=true;rw[Y3,nZ (by omega),iY (by omega)]
     rfl
   have Hz:t.led=true:=hl.resolve_left (by rw[Y3];exact fD);exact hQ _ s.drawn _ [_,a] _ l hp (fun b o e=>bL _ e) (bu _) yS (fun A' hA=>J9 Y3 Hz Y4 hd hf he gV A' hA) ⟨cf _ rfl,bL _ ho⟩
end
def eB(ss xs:List Str):List Str:=xs.foldl gv ss
theorem xH(ss:List Str)(x:Str):(gv ss x).length<=ss.length+1:=by
 unfold gv;split
 ·omega
 ·simp
section
variable {prog:Program}{I:Addr}{fp:List Addr}{n:Nat}{P:Nat->Value->Prop}{St:Nat->Heap->Prop}
theorem kW.keep {h h':Heap}{ss:List Str}(x:kW w h a ss)(k:∀o,h.get? a=some o->h'.get? a=some o):kW w h' a ss:=by
 obtain⟨o,es,ep,t,l,ho,r⟩:=x;exact⟨o,es,ep,t,l,k o ho,r⟩
theorem J_(W:Walks prog w A.in1 I fp [I] n P St)(Y5:au∉fp)(val:Nat->Str)(NM:∀i v,P i v->∃t,v=Value.str (val i) t)(hb:n+1<scanBound):
  ∀(k i:Nat) (s:Shared) (ss:List Str),n - i=k->i<=n->St i s.heap->kW w s.heap au ss->ss.length<=i->
   (∀h' tk,(∀b o,b≠au->b≠I->s.heap.get? b=some o->h'.get? b=some o)->kW w h' au (eB ss ((List.range' i k).map val))->aw (.ok (.ret .none)) {s with heap:=h',toks:=tk})->
   codeAny (model prog w) A (.builtin "set.update.loop" ⟨[.ref au,.ref I],[]⟩) aw s:=by
 have hIf:I∈fp:=W.sub I (by simp);have Mn:au≠I:=fun e=>Y5 (e▸hIf);intro k
 induction k with
 |zero=>
  intro i s ss hk hi cz hS _ hR;have kU:i=n:=by omega
  subst kU;refine fE F.entry_set_update_loop ?_
  rw[gG wB _];show wpAny _ A.in1 (pyNext (.ref I)>>=_) _ _ s;refine aP (W.done s _ _ cz fun h' tk kk=>?_);show wpAny _ A.in1 (ret Value.none) _ _ _;exact a_ (hR h' tk (fun b o _ h2 e=>kk b o (by simpa using h2) e) (hS.keep fun o e=>kk au o (by simpa using Mn) e))
 |succ k ih=>
  intro i s ss hk hi cz hS hl hR;have f_:i<n:=by omega
  refine fE F.entry_set_update_loop ?_
  rw[gG wB _];show wpAny _ A.in1 (pyNext (.ref I)>>=_) _ _ s;refine aP (W.item i s _ _ f_ cz fun v h1 tk1 hP J' kk=>?_);obtain⟨u,rfl⟩:=NM i v hP;have Wt:kW w h1 au ss:=hS.keep fun o e=>kk au o (by simpa using Mn) e;show wpAny _ A.in1 (holding [Value.str (val i) u] (setAdd au (.str (val i) u))>>=_) _ _ _;refine aP (fi ?_);unfold setAdd;refine fi ?_
  refine aP ((PySem.strKind prog w).pyHash (k:=val i) (by simp[PySem.strKind,Value.isStrOf]) ?_);refine aaj (s:={s with heap:=h1,toks:=tk1+1}) Wt (by omega) fun b h2 sb hS2=>?_
  have hk2:∀b o,b≠au->h1.get? b=some o->h2.get? b=some o:=fun b o hb e=>(sb.2 b hb).trans e;refine a_ ⟨gM wB _,ih (i+1) _ (gv ss (val i)) (by omega) f_ (W.frame _ _ _ J' fun b hb o e=>hk2 b o (fun z=>Y5 (z▸hb)) e) hS2 (by have:=xH ss (val i);omega) fun h' tk kk' J5=>?_⟩;exact hR h' tk (fun b o Ax NL e=>kk' b o Ax NL (hk2 b o Ax (kk b o (by simpa using NL) e))) J5
end
section
section
variable {prog:Program}
theorem _root_.PySem.Ka (a:Value){Q₁:Value->Shared->Prop}
  (h:Q₁ (.ref s.heap.objs.size) {s with heap:=s.heap.push {cls:=.type "set",dict:=none,data:=.set #[] 0 (.fresh 0 0 (!L2.BB w))}}):
  codeAny (model prog w) A (.call (.builtin "set.__new__") ⟨[.type "set",a],[]⟩) (wants Q₁ E) s:=by
 refine codeAny_of_tree ?_
 show wpAny _ A.in1 (do checkBuiltinCall "set.__new__" ⟨[.type "set",a],[]⟩;again (.builtin "set.__new__" ⟨[.type "set",a],[]⟩)) _ _ s;refine aP (wpAny_of_eq (F.newCall_set_1 a) (a_ ⟨gM F.plain_set_new _,fE F.entry_set_new ?_⟩));rw[gG F.plain_set_new _];unfold Builtin.«set.__new__» Builtin.Frozenset.newClass;have Qf:=sub_set_self;obtain⟨hp,g,d,tk,os⟩:=s;dsimp only
 wp_walk
 refine wpAny_askSetting (a_ ?_);dsimp only;simp only[newObj];refine aP (wpAny_alloc (a_ ?_));exact a_ h
set_option maxHeartbeats 3200000 in
theorem _root_.PySem.Kb {l:Addr}{a8:Array Value}{val:Nat->Str}(hh:A.handled=none)(hl:s.heap.IsList l a8)(hv:∀(i:Nat) (v:Value),a8[i]?=some v->∃t,v=.str (val i) t)(hb:a8.size+1<scanBound)
  (h:∀(h':Heap) (tk:Nat),L2.kW w h' s.heap.objs.size (L2.eB [] ((List.range' 0 a8.size).map val))->(∀b o,b<s.heap.objs.size->s.heap.get? b=some o->h'.get? b=some o)->Q (.ref s.heap.objs.size) {s with heap:=h',toks:=tk}):
  wpAny (model prog w) A (call (.type "set") [.ref l]) Q E s:=by
 obtain⟨c,tl,abb⟩:=ji.mro;have aa5:=ji.made;have Qf:=ji.sub;refine o5 (codeAny_of_tree ?_);show wpAny _ _ (callAny (.type "set") _) _ _ _;refine a_ ⟨Code.quiet_builtin _ (by decide+kernel),fE F.entry_type_call ?_⟩;rw[Around.under_plain (weight_type_call_type "set" [.ref l] []) rfl];have h1:=ji.notType;have h2:=ji.canCreate;have hct:=F.typeCall_set_1 (.ref l)
 repeat(any_goals (first|assumption|wp_step))
 refine hW (Ka (.ref l) (E:=E) (Q₁:=fun obj cZ=>obj=.ref s.heap.objs.size/\cZ={s with heap:=s.heap.push {cls:=.type "set",dict:=none,data:=.set #[] 0 (.fresh 0 0 (!L2.BB w))}}) ⟨rfl,rfl⟩) fun r cZ hr=>?_
 cases r with
 |error e=>exact hr
 |ok fl=>
  cases fl with
  |ret obj=>
   obtain⟨rfl,rfl⟩:=hr;generalize NN:({cls:=.type "set",dict:=none,data:=.set #[] 0 (.fresh 0 0 (!L2.BB w))}:Obj)=ob;have hS:(s.heap.push ob).get? s.heap.objs.size=some ob:=cf _ (by rw[<-NN];rfl);have hT:Shared.TypeIs {s with heap:=s.heap.push ob} (.ref s.heap.objs.size) "set":=⟨_,hS,by rw[<-NN]⟩;have hli:=ji.init.lookup;have hbi:=ji.init.bind (.ref s.heap.objs.size)
   repeat(any_goals (first|assumption|wp_step))
   refine hW (wz (R:=wants (fun r sT=>r=.none/\∃h' tk,sT={s with heap:=h',toks:=tk}/\L2.kW w h' s.heap.objs.size (L2.eB [] ((List.range' 0 a8.size).map val))/\
     (∀b o,b<s.heap.objs.size->s.heap.get? b=some o->h'.get? b=some o)) E) ji.init.plain F.entry_set_init (check_set_init_1 hT ?_)) fun aam sT Kc=>?_
   ·obtain⟨ol,PK,Fy,nl,Ux⟩:=hl;obtain⟨abc,Wx,aa6,Sb⟩:=ol;simp only at Fy Ux;subst Fy;subst Ux;have aan:(s.heap.push ob).get? l=some {cls:=.type "list",dict:=Wx,data:=.seq a8 nl,slots:=Sb}:=bL _ PK;have abd:=F.sub_list_set;have abe:=F.sub_list_frozenset;have gV:(Value.type "list"==Value.type "dict")=false:=by decide
    have IG:(s.heap.push ob).IsList l a8:=⟨_,aan,rfl,nl,rfl⟩;subst NN;unfold Builtin.«set.__init__» noKeywords Builtin.Frozenset.updateFrom;generalize hPI:pyIter=PI
    wp_walk
    subst hPI;refine kn IG ?_
    refine aP (wpAny_runValue ?_);have hlS:l<s.heap.objs.size:=bp PK;have hh3:A.in1.in1.in1.handled=none:=by simp[hh]
    generalize hsz:(s.heap.push {cls:=.type "set",dict:=none,data:=.set #[] 0 (.fresh 0 0 (!L2.BB w))}).objs.size=I at*;have Sd:I=s.heap.objs.size+1:=by rw[<-hsz,jg]
    have aao:l≠I:=by rw[Sd];exact bS (lh hlS)
    have Y5:s.heap.objs.size∉[I,l]:=by
     simp only[bB,cI,cJ,not_or];exact⟨by rw[Sd];exact bS (oG _),dB hlS⟩
    refine L2.J_ (Walks.list hh3 I l aao a8) Y5 val hv hb (a8.size - 0) 0 _ [] (by omega) (dU _) ⟨⟨_,by rw[<-hsz];exact cf _ rfl,rfl,rfl⟩,IG.push _⟩ ?hS0 (dU _) ?hR
    case hS0=>
     refine⟨_,#[],0,.fresh 0 0 (!L2.BB w),[],bL _ hS,⟨rfl,rfl,rfl⟩,rfl,rfl,List.Perm.refl _,List.nodup_nil,by show 0<scanBound;decide,rfl,?_,fun z=>absurd rfl z⟩;show L2.BB w=true\/(!L2.BB w)=true;cases L2.BB w<;>simp
    case hR=>
     intro h' tk hk J5;show wpAny _ _ _ _ _ _;refine a_ ?_
     show wpAny _ _ (ret Value.none) _ _ _;refine a_ ⟨rfl,h',tk,rfl,J5,fun b o hb e=>?_⟩;exact hk b o (bS hb) (by rw[Sd];exact bS (lh hb)) (bL _ (bL _ e))
   ·cases aam with
    |error e=>exact Kc
    |ok Wy=>
     cases Wy with
     |ret r=>
      obtain⟨rfl,h',tk,rfl,J5,NO⟩:=Kc
      repeat(any_goals (first|assumption|wp_step))
      exact h _ _ J5 NO
     |_=>exact Kc.elim
  |_=>exact hr.elim
end
end
open PySem.Calls
section
variable {prog:Program}{ss:List Str}
theorem Kd{Q:Bool->Shared->Prop}(hT:s.TypeIs (.ref a) "set")(h:Q false s):wpAny (model prog w) A (Builtin.List.listLengthHint (.ref a)) Q E s:=by
 unfold Builtin.List.listLengthHint;refine aP (wpAny_specialOf hT PySem.F.slot_set_len.lookup ?_);generalize bV:("set.__len__":String)=id0
 wp_delta
 rw[show splitId id0=some ("set","__len__")from by subst bV;decide+kernel];subst bV;refine aP (oR (T:="set") (b:=true) hT (by rw[isSubtype_type];kernel_rfl) ?_);refine me (fun Ed=>absurd Ed (by decide)) (fun _=>?_);refine me (fun _=>?_) (fun Ed=>absurd (by decide+kernel) Ed);exact aP (sN hT (a_ h))
theorem Cv{R:Result->Shared->Prop}(hh:A.handled=none)(hS:kW w s.heap a ss)(L:Addr)(hLa:L≠a)(res:Value)(hL:s.heap.get? L=some {cls:=.type "list",data:=.seq #[] 0})
  (hR:∀h' tk d jX c' l,(l.map (·.1)).Perm ss->(∀b o,b≠L->s.heap.get? b=some o->h'.get? b=some o)->h'.get? L=some {cls:=.type "list",dict:=none,data:=.seq jX c',slots:=#[]}->ItemsOf (strAt l) jX l.length->
   R (.ok (.ret res)) {s with heap:=h',toks:=tk,drawn:=d}) (hn:ss.length<=sizeLine):
  wpAny (model prog w) A.in1 (Builtin.List.listExtendWith (.ref L) (.ref a) res) (fun fin s'=>match fin with|.done f=>R (.ok f) s'|.again c'=>c'.quiet=true/\codeAny (model prog w) A c' R s') (fun e s'=>R (.error e) s') s:=by
 have Wz:L<s.heap.objs.size:=bp hL;unfold Builtin.List.listExtendWith;refine aP (sN (T:="set") hS.typeIs ?_);have h1:Builtin.List.listSameRef (.ref L) (.ref a)=false:=by simp[Builtin.List.listSameRef,hLa]
 have h2:(Value.type "set"==Value.type "list")=false:=by decide
 have h3:(Value.type "set"==Value.type "tuple")=false:=by decide
 simp only[h1,h2,h3,sI,cW,cx];refine aP (HE hS fun fK d I fp St l hp hk hI yS W st=>?_);have b9:l.length=ss.length:=by have q:=hp.length_eq;rw[bj]at q;exact q
 have Wt:Shared.TypeIs {s with heap:=fK,drawn:=d} (.ref a) "set":=by
  obtain⟨o,ho,hc⟩:=hS.typeIs;exact⟨o,hk _ _ ho,hc⟩
 have hLf:L∉fp:=fun m=>by
  rcases yS L m with e|e
  ·exact hLa e
  ·exact absurd (cU Wz e) (eC _)
 have hLI:L≠I:=bS (cU Wz hI);have UL:=hk _ _ hL;have key:∀(h:Heap) (c₁ tk:Nat),St 0 h->(∀b o,b≠L->s.heap.get? b=some o->h.get? b=some o)->h.get? L=some {cls:=.type "list",data:=.seq #[] c₁}->
   codeAny (model prog w) A (.builtin "list.extend.loop" ⟨[.ref L,.ref I,res],[]⟩) R {s with heap:=h,toks:=tk,drawn:=d}:=by
  intro h c₁ tk cz hkk WA;refine codeAny_extend_loopS (W A.in1 hh).toS (by omega) L hLf res l.length 0 _ #[] c₁ rfl (dU _) cz WA (ItemsOf.nil _) fun s' jX c' hm Cw rQ=>?_
  rw[Moved.eq_with hm];refine hR s'.heap s'.toks d jX c' l hp (fun b o hb e=>hm.heap b o (fun Hy=>?_) (hkk b o hb e)) Cw rQ;rcases bB.mp Hy with e'|Hy
  ·exact hb e'
  ·exact absurd (cU (bp e) hI) (by rw[cX.mp Hy];exact eC _)
 refine aP (fi (Kd Wt ?_));refine me (fun _=>?_) (fun _=>a_ ⟨gM PySem.F.plain_extend_loop _,key _ 0 _ st (fun b o _ e=>hk b o e) UL⟩);refine aP (fo ?_);refine aP ?_
 show wpAny _ _ (updateSeq L (·.push .none)>>=fun _=>updateSeq L (·.pop)) _ _ _;refine aP (oV UL rfl ?_);have PL:=sf (Obj.mapSeq (·.push Value.none)) UL rfl;refine oV (hz:=by seq_fits) PL rfl ?_
 have WB:=sf (Obj.mapSeq (·.pop)) PL rfl;refine a_ ⟨gM PySem.F.plain_extend_loop _,key _ _ _ ?_ (fun b o hb e=>?_) WB⟩
 ·refine(W A.in1 hh).frame 0 _ _ st fun b hb o e=>?_
  have hbL:b≠L:=fun z=>hLf (z▸hb);exact(mY _ _ (Ne.symm hbL)).trans ((mY _ _ (Ne.symm hbL)).trans e)
 ·exact(mY _ _ (Ne.symm hb)).trans ((mY _ _ (Ne.symm hb)).trans (hk b o e))
theorem AD{R:List Value->Shared->Prop}(hh:A.handled=none)(hS:kW w s.heap a ss)(hn:ss.length<=sizeLine)
  (h:∀(h':Heap) (tk:Nat) (d:Drawn) (l:List (Str×Tok)),(l.map (·.1)).Perm ss->(∀b o,s.heap.get? b=some o->h'.get? b=some o)->s.heap.objs.size<=h'.objs.size->R (l.map Ep) {s with heap:=h',toks:=tk,drawn:=d}):wpAny (model prog w) A (collect (.ref a)) R E s:=by
 have f_:a<s.heap.objs.size:=by obtain⟨o,ho,_⟩:=hS.typeIs;exact bp ho
 have a8:∀(l:List (Str×Tok)) (acc:Array Value),ItemsOf (strAt l) acc l.length->acc.toList=l.map Ep:=fun l acc hi=>by
  refine oE fun i=>?_
  rw[bW,mZ];cases e:acc[i]? with
  |none=>
   have h1:acc.size<=i:=Array.getElem?_eq_none_iff.mp e;rw[hi.1]at h1;rw[iV.mpr h1];rfl
  |some v=>exact(hi.2 i v e).symm
 unfold collect;refine aP (wpAny_runValue (fE entry_proto_collect' ?_));rw[gG BE _];show wpAny _ A.in1 (newList []>>=fun l=>again (.builtin "list.__iadd__" ⟨[l,.ref a],[]⟩)) _ _ s;refine aP (km ?_);refine a_ ⟨gM r8 _,fE entry_list_iadd' ?_⟩;rw[gG r8 _];have hL:(s.heap.push {cls:=.type "list",data:=.seq ([]:List Value).toArray}).get? s.heap.objs.size=some {cls:=.type "list",data:=.seq #[]}:=cf _ rfl;show wpAny _ A.in1 (Builtin.List.listExtendWith (.ref s.heap.objs.size) (.ref a) (.ref s.heap.objs.size)) _ _ _;have key:=Cv (prog:=prog) (A:=A) (s:={s with heap:=s.heap.push {cls:=.type "list",data:=.seq ([]:List Value).toArray}}) (ss:=ss)
  (R:=fun(q:Result) (s':Shared)=>∃(h':Heap) (tk:Nat) (d:Drawn) (jX:Array Value) (c':Nat) (l:List (Str×Tok)),q=.ok (.ret (.ref s.heap.objs.size))/\s'={s with heap:=h',toks:=tk,drawn:=d}/\
   (l.map (·.1)).Perm ss/\(∀b o,s.heap.get? b=some o->h'.get? b=some o)/\h'.get? s.heap.objs.size=some {cls:=.type "list",dict:=none,data:=.seq jX c',slots:=#[]}/\ItemsOf (strAt l) jX l.length)
  hh (hS.keep fun o e=>bL _ e) s.heap.objs.size (dB f_) (.ref s.heap.objs.size) hL
  (fun h' tk d jX c' l hp hk Cw rQ=>⟨h',tk,d,jX,c',l,rfl,rfl,hp,fun b o e=>hk b o (bS (bp e)) (bL _ e),Cw,rQ⟩) hn
 refine dW key (fun fin s' x=>?_) fun e s' x=>?_
 ·cases fin with
  |done f=>
   obtain⟨h',tk,d,jX,c',l,e,rfl,hp,hk,Cw,rQ⟩:=x;cases e;show wpAny _ A (load s.heap.objs.size>>=_) _ _ _;refine aP (o4 Cw ?_);refine a_ ?_
   rw[a8 l jX rQ];exact h h' tk d l hp hk (dA (bp Cw))
  |again c₁=>
   refine⟨x.1,hW x.2 fun q sT y=>?_⟩;obtain⟨h',tk,d,jX,c',l,rfl,rfl,hp,hk,Cw,rQ⟩:=y;show wpAny _ A (load s.heap.objs.size>>=_) _ _ _;refine aP (o4 Cw ?_);refine a_ ?_
   rw[a8 l jX rQ];exact h h' tk d l hp hk (dA (bp Cw))
 ·obtain⟨_,_,_,_,_,_,e',_⟩:=x;cases e'
theorem xI:∀l:List (Str×Tok),StrsAre (l.map Ep) (l.map (·.1))
 |[]=>.nil
 |p::r=>.cons p.1 p.2 (xI r)
theorem Cy(hh:A.handled=none)(hS:kW w s.heap a ss)(Es:ss.length<64)
  (h:∀h' tk d D out n BC,(∀b o,s.heap.get? b=some o->h'.get? b=some o)->s.heap.objs.size<=D->h'.get? D=some {cls:=.type "list",data:=.seq out n}->StrsAre out.toList BC->BC.Perm ss->sortedS BC=true->
   Q (.ref D) {s with heap:=h',toks:=tk,drawn:=d}):wpAny (model prog w) A (call (.builtin "sorted") [.ref a]) Q E s:=by
 have hz:ss.length<=sizeLine:=by rw[dH];omega
 refine call_function_entry kind_sorted plain_sorted entry_sorted (args_sorted1 _) ?_
 unfold Builtin.«sorted»;refine aP (m:=checkCount "sorted" 1 1 _) (a_ ?_);refine aP (AD (A:=A.in1) hh hS hz fun fK tk d l hp hk hle=>?_);have b9:l.length=ss.length:=by have q:=hp.length_eq;rw[bj]at q;exact q
 refine aP (oY ?_ (by show(l.map Ep).length<=_;rw[bj];omega));have Se:=xI l;have Fd:(fK.push (seqObj "list" (l.map Ep).toArray 0)).get? fK.objs.size=some (seqObj "list" (l.map Ep).toArray 0):=cf _ rfl;refine aP (fi (gJ slot_list_sort ⟨_,Fd,rfl⟩ entry_list_sort
  (list_sort_treeK strKind_oneLt Fd Se.keysOf (fun aap aaq c9 e=>keyKind_strs (by rw[<-e];exact Se)) (by rw[bj];omega) fun wU a1 a2=>⟨_,rfl,?_⟩) (args_list_sort _)))
 refine a_ ⟨_,rfl,?_⟩;obtain⟨BC,q1,q2,q3⟩:=sorted_out_str Se a1 a2;obtain⟨e,he⟩:=sortedHeap_at (out:=(arrOf wU).map (·.2)) Fd;refine h _ tk d fK.objs.size ((arrOf wU).map (·.2)) e BC (fun b o q=>?_) hle he q1 (q2.trans hp) q3;have hb:=hk b o q;have f_:=bp hb;rw[sortedHeap_old (bS f_) (by rw[jg];exact lh f_)];exact bL _ hb
end
def Cz(a b:Str):Bool:=!decide (b.cps.toList<a.cps.toList)
theorem vQ:Cz x av=true↔x.cps.toList<=av.cps.toList:=by
 unfold Cz;rw[oF,wd];exact Iff.rfl
theorem zA{c:Str}(h1:Cz x av=true)(h2:Cz av c=true):Cz x c=true:=by
 rw[vQ]at*;exact List.le_trans h1 h2
theorem HF(a b:Str):(Cz a b||Cz b a)=true:=by
 rw[Bool.or_eq_true,vQ,vQ];exact List.le_total _ _
theorem Ke{b:Str}(h1:Cz x b=true)(h2:Cz b x=true):x=b:=by
 rw[vQ]at*;exact ext_toList (List.le_antisymm h1 h2)
def cT(ss:List Str):List Str:=ss.mergeSort Cz
theorem d8(ss:List Str):(cT ss).Perm ss:=List.mergeSort_perm ss _
theorem rR(ss:List Str):(cT ss).Pairwise (fun a b=>Cz a b=true):=List.pairwise_mergeSort (le:=Cz) (fun a b c h1 h2=>zA h1 h2) HF ss
theorem u9:∀(p:Str) (l:List Str),risingS p l=true->(p::l).Pairwise (fun a b=>Cz a b=true)
 |p,[],_=>List.pairwise_singleton _ _
 |p,x::r,h=>by
  have h':(!ltCps x.cps.toList p.cps.toList&&risingS x r)=true:=h;rw[bP,ltCps_eq]at h';have ih:=u9 x r h'.2;have hp:Cz p x=true:=h'.1;refine List.pairwise_cons.mpr ⟨fun y hy=>?_,ih⟩;rcases bB.mp hy with rfl|hy
  ·exact hp
  ·exact zA hp (List.rel_of_pairwise_cons ih hy)
theorem CA:∀l:List Str,sortedS l=true->l.Pairwise (fun a b=>Cz a b=true)
 |[],_=>List.Pairwise.nil
 |x::r,h=>u9 x r h
theorem u_{b:List Str}(hp:ps.Perm b)(ha:ps.Pairwise (fun ps b=>Cz ps b=true))(hb:b.Pairwise (fun ps b=>Cz ps b=true)):ps=b:=
 hp.eq_of_pairwise (fun x y _ _ h1 h2=>Ke h1 h2) ha hb
theorem tW{ss:List Str}(hp:ps.Perm ss)(hs:sortedS ps=true):ps=cT ss:=u_ (hp.trans (d8 ss).symm) (CA _ hs) (rR ss)
theorem CB{b:List Str}(h:ps.Perm b):cT ps=cT b:=u_ ((d8 ps).trans (h.trans (d8 b).symm)) (rR ps) (rR b)
def HG(w:World)(a:Addr)(ss:List Str):HO:=.ext fun h=>kW w h a ss
theorem qm:∀{vs:List Value} {ss:List Str},StrsAre vs ss->Vals (ss.map V.str) vs
 |_,_,.nil=>.nil
 |_,_,.cons y t r=>.cons ⟨t,rfl⟩ (qm r)
theorem uK:∀{ss:List Str} {vs:List Value},Vals (ss.map V.str) vs->StrsAre vs ss
 |[],_,.nil=>.nil
 |y::r,_,.cons r1 r2=>by
  obtain⟨t,rfl⟩:=(show∃t,_=Value.str y t from r1);exact .cons y t (uK r2)
theorem HH(ts:List Str):(List.range' 0 ts.length).map (fun i=>ts.getD i Str.empty)=ts:=by
 refine List.ext_getElem (by simp) fun i h1 h2=>?_
 simp[h2]
theorem Inv.NP (I:Inv X U Z H s)(d:Drawn):Inv X U Z H {s with drawn:=d}:=
 I.step (h':=s.heap) (H':=H) (g':=s.gens) (t':=s.toks) (d':=d) (ch:=[]) (fun _ z=>nomatch z) (fun b o _ _ _ e _=>e) (fun b o _ _ _ e _=>⟨o.slots,e⟩) (fun b o _ _ n=>n) (fun b o _ e=>⟨o,e⟩) (fun _ _ e=>e) (fun _ _ _ e=>e)
   (fun b ps e=>⟨#[],by rw[e];simp⟩) (fun m hm=>hm) I.cP I.bare
theorem HI(hc:X.calm=true):gn X (.type "set") (fun xs H Q=>∃(p:Addr) (ts:List Str),xs=[.ref p]/\ll X.K H p (ts.map V.str)/\ts.length+1<scanBound/\∀a,H a=none->Q (.ref a) (upd H a (HG X.w a (eB [] ts)))):=by
 intro U s Z H xs us Q I r h;obtain⟨p,ts,rfl,hl,hb,q⟩:=h;obtain⟨u,rfl,ru⟩:=vals1 r;cases(show u=Value.ref p from ru);obtain⟨cc,rv,pl,hz⟩:=I.list hl;have b9:cc.length=ts.length:=by have e:=rv.length;rw[bj]at e;exact e.symm
 refine Kb (val:=fun i=>ts.getD i Str.empty) (I.ok.hd hc) pl.isList (fun i v hv=>?_) (by rw[cO,b9];exact hb) fun h' tk hS hk=>?_
 ·have Jg:cc[i]?=some v:=by simpa using hv
  have hi:i<ts.length:=by rw[<-b9];exact(fT.mp Jg).1
  obtain⟨u,hu,ru⟩:=rv.get (i:=i) (x:=V.str ts[i]) (by rw[bW,bQ hi];rfl);rw[Jg]at hu;cases hu;obtain⟨t,rfl⟩:=(show∃t,v=Value.str ts[i] t from ru);exact⟨t,by rw[d_,bQ hi];rfl⟩
 ·have e0:cc.toArray.size=ts.length:=by rw[cO];exact b9
  rw[e0,HH]at hS;have hf:H s.heap.objs.size=none:=I.fresh;refine⟨.ref s.heap.objs.size,_,I.laid (o:=HG X.w s.heap.objs.size (eB [] ts)) (fun b o e=>hk b o (bp e) e) (bu _) ⟨hS,?_,fun h1 h2 x k=>kW.keep x k⟩,rfl,q _ hf⟩;obtain⟨o,_,_,_,_,ho,_⟩:=hS;exact⟨o,ho⟩
theorem xJ(hc:X.calm=true):gn X (.builtin "sorted") (fun xs H Q=>∃(a:Addr) (ss:List Str),xs=[.ref a]/\H a=some (HG X.w a ss)/\ss.length<64/\∀D,H D=none->Q (.ref D) (upd H D (.lst ((cT ss).map V.str)))):=by
 intro U s Z H xs us Q I r h;obtain⟨a,ss,rfl,ha,Es,q⟩:=h;obtain⟨u,rfl,ru⟩:=vals1 r;cases(show u=Value.ref a from ru);obtain⟨hS,_,_⟩:=(show cR X.prog X.w H s.heap a (.ext fun h=>kW X.w h a ss)from I.cP a _ ha);refine Cy (I.ok.hd hc) hS Es fun h' tk d D out n BC hk hD hg cz hp hs=>?_
 have e:=tW hp hs;subst e;have hf:H D=none:=I.cP.fresh hD;have hz:((cT ss).map V.str).length<=sizeLine:=by
  rw[bj,(d8 ss).length_eq,dH];omega
 have I1:Inv X U Z (upd H D (.lst ((cT ss).map V.str))) {s with heap:=h',toks:=tk}:=I.laid (o:=.lst ((cT ss).map V.str)) hk hD ⟨hz,out.toList,n,qm cz,by rw[se];exact hg⟩;exact⟨.ref D,_,I1.NP d,rfl,q _ hf⟩
theorem AE:gn X (.builtin "sorted") (fun xs H Q=>∃(a:Addr) (ss:List Str),xs=[.ref a]/\ll X.K H a (ss.map V.str)/\ss.length<64/\∀D,H D=none->Q (.ref D) (upd H D (.lst ((cT ss).map V.str)))):=by
 intro U s Z H xs us Q I r h;obtain⟨a,ss,rfl,ha,Es,q⟩:=h;obtain⟨u,rfl,ru⟩:=vals1 r;cases(show u=Value.ref a from ru);obtain⟨cc,rv,pl,_⟩:=I.list ha;have cz:=uK rv;have b9:cc.length=ss.length:=by have e:=rv.length;rw[bj]at e;exact e.symm
 refine sorted_strs pl.isList cz (by omega) fun out BC h1 h2 h3=>?_
 have e:=tW h2 h3;subst e;obtain⟨n,hg⟩:=sortedAll_at s.heap cc out;have hD:s.heap.objs.size<=s.heap.objs.size+1:=oZ _;have hf:H (s.heap.objs.size+1)=none:=I.cP.fresh hD;have hz:((cT ss).map V.str).length<=sizeLine:=by
  rw[bj,(d8 ss).length_eq,dH];omega
 exact⟨.ref (s.heap.objs.size+1),_,I.laid (t':=s.toks) (o:=.lst ((cT ss).map V.str)) (fun b o e=>sortedAll_old e) hD ⟨hz,out.toList,n,qm h1,by rw[se];exact hg⟩,rfl,q _ hf⟩
theorem xK{t:Addr}{x:Value}(hit:s.heap.IsTupleIter au t i)(ht:s.heap.IsTuple t ak)(hx:ak[i]?=some x)
  (hQ:∀h',h'.IsTupleIter au t (i+1)->Heap.SameBut au s.heap h'->Q x {s with heap:=h'}):wpAny (model P w) A (Builtin.SmallTypes.nextOf (.ref au)) Q E s:=by
 have key:wpAny (model P w) A (pyNext (.ref au)) (fun r s'=>∃v,r=some v/\Q v s') (fun _ _=>False) s:=wpAny_pyNext_tuple_item hit ht hx fun h' a b=>⟨x,rfl,hQ h' a b⟩;obtain⟨o,ho,hc,hd⟩:=id hit;obtain⟨ol,PK,_,nl,Ux⟩:=ht;unfold Builtin.SmallTypes.nextOf;refine aP (p8 (name:=Str.ofString "__next__") hit.typeIs rY (gJ rY hit.typeIs F.entry_tuple_iterator_next ?_ (F.args_tuple_iterator_next_1 _)));show wpAny _ _ (field (.ref au) 0>>=_) _ _ s;refine aP (fZ ho hd (x:=.ref t) rfl ?_);show wpAny _ _ (if(Value.ref t==Value.none)=true then _ else _) _ _ s;rw[aW (show¬((Value.ref t==Value.none)=true)from fD)];show wpAny _ _ (field (.ref au) 1>>=_) _ _ s;refine aP (fZ ho hd (x:=.int i 0) rfl ?_);show wpAny _ _ (seqItems? (.ref t)>>=_) _ _ s;refine aP (gL PK Ux ?_);simp only[lj,hx];refine aP (wpAny_setField ho hd (by simp) (a_ ⟨x,rfl,a_ (hQ _ ?_ (oC ..))⟩));exact⟨_,sf _ ho (Obj.isFreed_of_fields (Obj.data_mapFields hd _)),(Obj.cls_mapFields ..).trans hc,by rw[Obj.data_mapFields hd];simp[rawInt]⟩
theorem HJ{t:Addr}(hh:A.handled=none)(hit:s.heap.IsTupleIter a t i)(ht:s.heap.IsTuple t ak)(hx:ak[i]?=none)
  (hE:∀h' (e:Addr),Heap.ExtBut a s.heap h'->Shared.TypeIs {s with heap:=h'} (.ref e) "StopIteration"->E (.ref e) {s with heap:=h'}):wpAny (model P w) A (Builtin.SmallTypes.nextOf (.ref a)) Q E s:=by
 obtain⟨o,ho,hc,hd⟩:=id hit;obtain⟨ol,PK,_,nl,Ux⟩:=ht;unfold Builtin.SmallTypes.nextOf;refine aP (p8 (name:=Str.ofString "__next__") hit.typeIs rY (gJ rY hit.typeIs F.entry_tuple_iterator_next ?_ (F.args_tuple_iterator_next_1 _)));show wpAny _ _ (field (.ref a) 0>>=_) _ _ s;refine aP (fZ ho hd (x:=.ref t) rfl ?_);show wpAny _ _ (if(Value.ref t==Value.none)=true then _ else _) _ _ s;rw[aW (show¬((Value.ref t==Value.none)=true)from fD)];show wpAny _ _ (field (.ref a) 1>>=_) _ _ s;refine aP (fZ ho hd (x:=.int i 0) rfl ?_);show wpAny _ _ (seqItems? (.ref t)>>=_) _ _ s;refine aP (gL PK Ux ?_);simp only[lj,hx];refine aP (fo (aP (wpAny_setField ho hd (by simp) ?_)));show wpAny _ _ (newExc (.type "StopIteration") []>>=_) _ _ _;refine aP (xG hh fun h' x Y6 hk=>?_);exact hE h' x (fun b o hb e=>hk b o ((oC ..).extBut b o hb e)) Y6
structure ZA(z TI TO i1 i2:Addr):Prop where
 TIz:TI≠z
 TOz:TO≠z
 i1z:i1≠z
 i2z:i2≠z
 TITO:TI≠TO
 TIi1:TI≠i1
 TIi2:TI≠i2
 TOi1:TO≠i1
 TOi2:TO≠i2
 i12:i1≠i2
theorem HK{TO i1 i2 l1 l2:Addr}{k2:Nat}{ys:Array Value}{x y b:Value}(D:ZA a au TO i1 i2)(hz:IsZip s.heap a au TO .none)(Et:IsPair s.heap au (.ref i1) (.ref i2))(HL:IsPair s.heap TO af b)
  (h1:s.heap.IsTupleIter i1 l1 i) (h2:s.heap.IsTupleIter i2 l2 k2) (IG:s.heap.IsTuple l1 ak) (Mu:s.heap.IsTuple l2 ys) (d1:l1≠a/\l1≠TO/\l1≠i1/\l1≠i2) (d2:l2≠a/\l2≠TO/\l2≠i1/\l2≠i2) (hx:ak[i]?=some x) (hy:ys[k2]?=some y)
  (hQ:∀h',IsZip h' a au TO (rawInt s.heap.objs.size)->IsPair h' TO x y->h'.IsTupleIter i1 l1 (i+1)->h'.IsTupleIter i2 l2 (k2+1)->IsPair h' s.heap.objs.size x y->
   (∀c o,c≠a->c≠TO->c≠i1->c≠i2->s.heap.get? c=some o->h'.get? c=some o)->aK (some (.ref s.heap.objs.size)) {s with heap:=h'}):wpAny (model P w) A (pyNext (.ref a)) aK E s:=by
 have hT:s.TypeIs (.ref a) "zip":=⟨_,hz,rfl⟩;unfold pyNext;refine aP (sM (p8 (name:=Str.ofString "__next__") hT sJ (gJ sJ hT F.entry_zip_next ?_ (F.args_zip_next_1 _))));show wpAny _ _ (field (.ref a) 2>>=_) _ _ _;refine aP (fZ hz rfl (x:=.bool false) rfl ?_);show wpAny _ _ (field (.ref a) 3>>=_) _ _ _;refine aP (fZ hz rfl (x:=.ref au) rfl (aP (gL Et rfl ?_)));show wpAny _ _ (Builtin.SmallTypes.ownedTupleIsFree (.ref a)>>=_) _ _ _;refine aP ?_
 unfold Builtin.SmallTypes.ownedTupleIsFree;refine aP (fZ hz rfl (x:=.none) rfl (a_ ?_));simp only[cK];refine aP (fo (aP (fZ hz rfl (x:=.ref TO) rfl ?_)));refine aP (iX hz (by simp) fun fK xM pE=>?_);replace xM:IsZip fK a au TO .ellipsis:=xM;refine aP ?_
 simp only[List.zipIdx_cons,List.zipIdx_nil,oO,wM];refine aP (aP (wpAny_onRaise ?_));show wpAny _ _ (Builtin.SmallTypes.nextOf (.ref i1)>>=_) _ _ _;refine aP (xK (s:={s with heap:=fK}) (h1.extBut pE.extBut D.i1z) (IG.extBut pE.extBut d1.1) hx fun ph WC uI=>a_ ?_);have Kf:IsPair ph TO af b:=uI.extBut _ _ D.TOi1 (pE.extBut _ _ D.TOz HL);refine aP (gL Kf rfl (aP (wpAny_updateSeq_pair Kf fun yM Eu AF=>?_)));replace Eu:IsPair yM TO x b:=Eu;refine aP (mh (a_ (aP (aP (wpAny_onRaise ?_)))));show wpAny _ _ (Builtin.SmallTypes.nextOf (.ref i2)>>=_) _ _ _;refine aP (xK (s:={s with heap:=yM}) (((h2.extBut pE.extBut D.i2z).extBut uI.extBut D.i12.symm).extBut AF.extBut D.TOi2.symm) (((Mu.extBut pE.extBut d2.1).extBut uI.extBut d2.2.2.1).extBut AF.extBut d2.2.1) hy fun Rh WD Kg=>a_ ?_);have Kh:IsPair Rh TO x b:=Kg.extBut _ _ D.TOi2 Eu;refine aP (gL Kh rfl (aP (wpAny_updateSeq_pair Kh fun qO AG Ki=>?_)));replace AG:IsPair qO TO x y:=AG;refine aP (mh (a_ (a_ ?_)));refine aP (gL AG rfl (aP (wpAny_newTuple ?_)));have hsz:qO.objs.size=s.heap.objs.size:=by rw[Ki.1,Kg.1,AF.1,uI.1,pE.1]
 have PM:IsZip qO a au TO .ellipsis:=Ki.extBut _ _ D.TOz.symm (Kg.extBut _ _ D.i2z.symm (AF.extBut _ _ D.TOz.symm (uI.extBut _ _ D.i1z.symm xM)));have WE:∀c o,c≠a->c≠TO->c≠i1->c≠i2->s.heap.get? c=some o->qO.get? c=some o:=fun c o c1 c2 c3 c4 e=>Ki.extBut _ _ c2 (Kg.extBut _ _ c4 (AF.extBut _ _ c2 (uI.extBut _ _ c3 (pE.extBut _ _ c1 e))));have WG:qO.IsTupleIter i1 l1 (i+1):=((WC.extBut AF.extBut D.TOi1.symm).extBut Kg.extBut D.i12).extBut Ki.extBut D.TOi1.symm;have WH:qO.IsTupleIter i2 l2 (k2+1):=WD.extBut Ki.extBut D.TOi2.symm;have WI:a<qO.objs.size:=bp PM;show wpAny _ _ (Builtin.SmallTypes.ownedTupleHandOut (.ref a) (.ref qO.objs.size)>>=_) _ _ _;refine aP ?_
 unfold Builtin.SmallTypes.ownedTupleHandOut;have WJ:IsZip (qO.push {cls:=.type "tuple",data:=.seq #[x,y]}) a au TO .ellipsis:=bL _ PM;refine aP (iX WJ (by simp) fun aar Kj WK=>?_);replace Kj:IsZip aar a au TO (rawInt qO.objs.size):=Kj;refine iX Kj (by simp) fun NQ F8 WL=>?_
 replace F8:IsZip NQ a au TO (rawInt qO.objs.size):=F8;have up:∀c o,c≠a->qO.get? c=some o->NQ.get? c=some o:=fun c o c1 e=>WL.extBut _ _ c1 (WK.extBut _ _ c1 (bL _ e));have PN:IsPair NQ qO.objs.size x y:=WL.extBut _ _ (dB WI) (WK.extBut _ _ (dB WI) (cf _ rfl));rw[hsz]at F8 PN;refine a_ ⟨_,rfl,a_ ?_⟩;show aK (some (.ref qO.objs.size)) _;rw[hsz];exact hQ NQ F8 (up _ _ D.TOz AG) (WG.at fun o e=>up _ o D.i1z e) (WH.at fun o e=>up _ o D.i2z e) PN fun c o c1 c2 c3 c4 e=>up c o c1 (WE c o c1 c2 c3 c4 e)
theorem Kk{z i1 i2 l1:Addr}{b:Value}(hh:A.handled=none)(D:ZA z a au i1 i2)(hz:IsZip s.heap z a au .none)(Et:IsPair s.heap a (.ref i1) (.ref i2))(HL:IsPair s.heap au af b)
  (h1:s.heap.IsTupleIter i1 l1 i) (IG:s.heap.IsTuple l1 ak) (d1:l1≠z) (hx:ak[i]?=none)
  (hQ:∀h',(∀c o,c≠z->c≠i1->s.heap.get? c=some o->h'.get? c=some o)->aK none {s with heap:=h'}):wpAny (model P w) A (pyNext (.ref z)) aK E s:=by
 have hT:s.TypeIs (.ref z) "zip":=⟨_,hz,rfl⟩;unfold pyNext;refine aP (sM (p8 (name:=Str.ofString "__next__") hT sJ (gJ sJ hT F.entry_zip_next ?_ (F.args_zip_next_1 _))));show wpAny _ _ (field (.ref z) 2>>=_) _ _ _;refine aP (fZ hz rfl (x:=.bool false) rfl ?_);show wpAny _ _ (field (.ref z) 3>>=_) _ _ _;refine aP (fZ hz rfl (x:=.ref a) rfl (aP (gL Et rfl ?_)));show wpAny _ _ (Builtin.SmallTypes.ownedTupleIsFree (.ref z)>>=_) _ _ _;refine aP ?_
 unfold Builtin.SmallTypes.ownedTupleIsFree;refine aP (fZ hz rfl (x:=.none) rfl (a_ ?_));simp only[cK];refine aP (fo (aP (fZ hz rfl (x:=.ref au) rfl ?_)));refine aP (iX hz (by simp) fun fK xM pE=>?_);replace xM:IsZip fK z a au .ellipsis:=xM;refine aP ?_
 simp only[List.zipIdx_cons,List.zipIdx_nil,oO,wM];refine aP (aP (wpAny_onRaise ?_));show wpAny _ _ (Builtin.SmallTypes.nextOf (.ref i1)>>=_) _ _ _;refine aP (HJ (s:={s with heap:=fK}) hh (h1.extBut pE.extBut D.i1z) (IG.extBut pE.extBut d1) hx fun ph e uI he=>?_);have PQ:IsZip ph z a au .ellipsis:=uI _ _ D.i1z.symm xM;obtain⟨oe,hoe,hce⟩:=he;have hez:e≠z:=fun q=>by
  have WM:ph.get? e=some oe:=hoe;rw[q,PQ]at WM;cases WM;simp at hce
 refine iX (s:={s with heap:=ph}) PQ (by simp) fun yM _ AF=>?_
 refine aP (oR (s:={s with heap:=yM}) (T:="StopIteration") (b:=true) ⟨oe,AF.extBut _ _ hez hoe,hce⟩ isSubtype_stop ?_);exact a_ (hQ yM fun c o c1 c2 q=>AF.extBut _ _ c1 (uI _ _ c2 (pE.extBut _ _ c1 q)))
section
variable {h':Heap}
theorem i7.apart {b:Addr}{xs:List V}(I:Inv X U Z H s)(h:i7 X.K H a xs)(f:kD X U H b):a≠b:=by
 rcases h with(h|⟨o,h⟩)|⟨o,cc,n,hk,_⟩
 ·exact bM h f.1
 ·exact bM h f.1
 ·intro e;subst e;have hb:=I.ok.mod.O2 a o hk;rcases f.2.2.2.1 with q|q
  ·exact I.ok.z9 a o hb q
  ·exact absurd (cU (bp (I.ok.bs a o hb).1) q) (eC _)
theorem Inv.HM {ch:List Addr}{T:Addr}{o:HO}{t':Nat}(I:Inv X U Z H s)(y1:∀b∈ch,kD X U H b)(k:∀b o,b∉ch->s.heap.get? b=some o->h'.get? b=some o)(hT:s.heap.objs.size<=T)
  (new:cR X.prog X.w (upd H T o) h' T o):Inv X U Z (upd H T o) {s with heap:=h',toks:=t'}:=by
 have Ml:H T=none:=I.cP.fresh hT;have IT:∀b u,H b=some u->b∉ch:=fun b u e m=>by rw[(y1 b m).1]at e;cases e
 refine I.step (g':=s.gens) (d':=s.drawn) (ch:=ch) (fun b hb=>?_) (fun b o _ _ hc e _=>k b o hc e) (fun b o _ _ hc e _=>⟨o.slots,k b o hc e⟩) (fun b o _ e n=>?_) (fun b o hc e=>⟨o,k b o hc e⟩) (fun b xs e=>?_) (fun b o u e=>?_) (fun b ps e=>⟨#[],?_⟩) (fun m hm=>?_) (fun b u e=>?_) I.bare
 ·obtain⟨_,x1,_,x3,x4,x5⟩:=y1 b hb;exact⟨x3,x1,x4,x5⟩
 ·rw[bb (bS (cU (bp e) hT))];exact n
 ·rw[bb (bM e Ml)];exact e
 ·rw[bb (bM e Ml)];exact e
 ·rw[bb (bM e Ml),e];simp
 ·exact hm.at' fun o e=>k _ o (fun z=>(y1 _ z).2.1 rfl) e
 ·by_cases hb:b=T
  ·subst hb;rw[bG]at e;cases e;exact new
  ·rw[bb hb]at e;refine(I.cP b u e).o6 (fun c v hc q=>k c v ?_ q) (fun c q=>by rw[bb (bM q Ml)];exact q) fun c xs q=>by rw[bb (bM q Ml)];exact q
   rcases hc with rfl|hc
   ·exact IT c u e
   ·exact IT c _ hc
theorem Inv.qv {ch:List Addr}{t':Nat}(I:Inv X U Z H s)(y1:∀b∈ch,kD X U H b)(k:∀b o,b∉ch->s.heap.get? b=some o->h'.get? b=some o):Inv X U Z H {s with heap:=h',toks:=t'}:=by
 have IT:∀b u,H b=some u->b∉ch:=fun b u e m=>by rw[(y1 b m).1]at e;cases e
 refine I.step (g':=s.gens) (d':=s.drawn) (ch:=ch) (fun b hb=>?_) (fun b o _ _ hc e _=>k b o hc e) (fun b o _ _ hc e _=>⟨o.slots,k b o hc e⟩) (fun b o _ e n=>n) (fun b o hc e=>⟨o,k b o hc e⟩) (fun b xs e=>e) (fun b o u e=>e) (fun b ps e=>⟨#[],by rw[e];simp⟩) (fun m hm=>?_) (fun b u e=>?_) I.bare
 ·obtain⟨_,x1,_,x3,x4,x5⟩:=y1 b hb;exact⟨x3,x1,x4,x5⟩
 ·exact hm.at' fun o e=>k _ o (fun z=>(y1 _ z).2.1 rfl) e
 ·refine(I.cP b u e).o6 (fun c v hc q=>k c v ?_ q) (fun c q=>q) fun c xs q=>q;rcases hc with rfl|hc
  ·exact IT c u e
  ·exact IT c _ hc
end
def Itz(K:Frag)(a b:Addr):It:=
 ⟨fun i H=>∃xs ys x y,i7 K H a xs/\i7 K H b ys/\xs[i]?=some x/\ys[i]?=some y,
  fun i H v H'=>∃T x y,v=.ref T/\H T=none/\H'=upd H T (.tup [x,y])/\(∀xs,i7 K H a xs->xs[i]?=some x)/\(∀ys,i7 K H b ys->ys[i]?=some y),
  fun i H=>∃xs,i7 K H a xs/\xs.length<=i⟩
theorem WN{G:Prop}(k:∀P:Prop,(G->P)->P):G:=k G id
theorem Kl{x1:Nat}{z TO i1 i2 b:Addr}(D:ZA z au TO i1 i2):
  Turn P w K (.Tuple az x1 pos) (Itz K a b) [z,au,TO,i1,i2] z (fun i h=>IsZip h z au TO .none/\IsPair h au (.ref i1) (.ref i2)/\(∃p q,IsPair h TO p q)/\h.IsTupleIter i1 a i/\h.IsTupleIter i2 b i) where
 mem:=by simp
 obj:=fun i h st c hc=>by
  obtain⟨hz,Et,⟨p,q,HL⟩,⟨o1,e1,c1,d1⟩,⟨o2,e2,c2,d2⟩⟩:=st;simp only[bB,cI,cJ]at hc;rcases hc with rfl|rfl|rfl|rfl|rfl
  ·exact⟨_,hz,fun v e=>by cases(show Data.fields _=Data.cell v from e)⟩
  ·exact⟨_,Et,fun v e=>by cases(show Data.seq _ _=Data.cell v from e)⟩
  ·exact⟨_,HL,fun v e=>by cases(show Data.seq _ _=Data.cell v from e)⟩
  ·exact⟨o1,e1,fun v e=>by rw[d1]at e;cases e⟩
  ·exact⟨o2,e2,fun v e=>by rw[d2]at e;cases e⟩
 keep:=fun i h h' st k=>by
  obtain⟨hz,Et,⟨p,q,HL⟩,h1,h2⟩:=st;exact⟨k z (by repeat constructor) _ hz,k au (by repeat constructor) _ Et,⟨p,q,k TO (by repeat constructor) _ HL⟩,h1.at fun o e=>k i1 (by repeat constructor) o e,h2.at fun o e=>k i2 (by repeat constructor) o e⟩
 item:=by
  intro X hP hw hK hc i U s Z H E I hf st hg;subst hP hw hK;refine WN fun P go=>?_
  obtain⟨xs,ys,x,y,PR,hq2,hx,hy⟩:=hg;obtain⟨hz,Et,⟨p,q,HL⟩,h1,h2⟩:=st;obtain⟨Km,Y7,p1,_⟩:=I.tuple PR;obtain⟨wZ,Mo,p2,_⟩:=I.tuple hq2;obtain⟨u1,hu1,ru1⟩:=Y7.get hx;obtain⟨u2,hu2,WO⟩:=Mo.get hy;have Y8:∀c∈[z,au,TO,i1,i2],a≠c:=fun c m=>PR.apart I (hf c m);have Y9:∀c∈[z,au,TO,i1,i2],b≠c:=fun c m=>hq2.apart I (hf c m);refine go ?_
  refine HK D hz Et HL h1 h2 (show s.heap.IsTuple a Km.toArray from p1) (show s.heap.IsTuple b wZ.toArray from p2) ⟨Y8 _ (by repeat constructor),Y8 _ (by repeat constructor),Y8 _ (by repeat constructor),Y8 _ (by repeat constructor)⟩ ⟨Y9 _ (by repeat constructor),Y9 _ (by repeat constructor),Y9 _ (by repeat constructor),Y9 _ (by repeat constructor)⟩
   (x:=u1) (y:=u2) (by simpa using hu1) (by simpa using hu2) fun fK g1 g2 g3 g4 g5 kk=>?_
  refine⟨_,rfl,wpAny_letOwnedTupleGo_zip g1 fun ph k1 sb=>?_⟩;have lt:∀{c:Addr} {o:Obj},s.heap.get? c=some o->s.heap.objs.size≠c:=fun e=>dB (bp e);have hTz:s.heap.objs.size≠z:=lt hz;have up:∀c o,c∉[z,TO,i1,i2]->s.heap.get? c=some o->ph.get? c=some o:=fun c o m e=>by
   simp only[bB,cI,cJ,not_or]at m;exact sb.extBut _ _ m.1 (kk c o m.1 m.2.1 m.2.2.1 m.2.2.2 e)
  have MV:IsPair ph s.heap.objs.size u1 u2:=sb.extBut _ _ hTz g5;refine⟨.ref s.heap.objs.size,_,I.HM (t':=s.toks) (ch:=[z,TO,i1,i2]) (T:=s.heap.objs.size) (o:=.tup [x,y]) (fun c m=>hf c ?_) up (bu _) ⟨by show 2<=sizeLine;decide,[u1,u2],.cons ru1 (.cons WO .nil),⟨_,MV,rfl,_,rfl⟩⟩,rfl,
   ⟨s.heap.objs.size,x,y,rfl,I.fresh,rfl,fun xs' h=>by rw[I.qa h PR];exact hx,fun ys' h=>by rw[I.qa h hq2];exact hy⟩,
   ⟨k1,sb.extBut _ _ D.TIz (kk _ _ D.TIz D.TITO D.TIi1 D.TIi2 Et),⟨u1,u2,sb.extBut _ _ D.TOz g2⟩,g3.extBut sb.extBut D.i1z,g4.extBut sb.extBut D.i2z⟩,fun c m=>?_⟩
  ·simp only[bB,cI,cJ]at m;rcases m with rfl|rfl|rfl|rfl<;>repeat constructor
  ·rw[bb ?_]
   ·exact(hf c m).1
   ·simp only[bB,cI,cJ]at m;obtain⟨o1,e1,_⟩:=h1;obtain⟨o2,e2,_⟩:=h2;rcases m with rfl|rfl|rfl|rfl|rfl
    ·exact(lt hz).symm
    ·exact(lt Et).symm
    ·exact(lt HL).symm
    ·exact(lt e1).symm
    ·exact(lt e2).symm
 done:=by
  intro X hP hw hK hc i U s Z H E I hf st hg;subst hP hw hK;obtain⟨xs,PR,hx⟩:=hg;obtain⟨hz,Et,⟨p,q,HL⟩,h1,h2⟩:=st;obtain⟨Km,Y7,p1,_⟩:=I.tuple PR;have hl:=Y7.length;refine Kk (I.ok.hd hc) D hz Et HL h1 (show s.heap.IsTuple a Km.toArray from p1) (PR.apart I (hf z (by repeat constructor))) (by simp;omega) fun h' kk=>⟨rfl,?_⟩;refine I.qv (t':=s.toks) (ch:=[z,i1]) (fun c m=>hf c ?_) fun c o m e=>?_
  ·simp only[bB,cI,cJ]at m⊢;rcases m with h|h<;>simp[h]
  ·simp only[bB,cI,cJ,not_or]at m;exact kk c o m.1 m.2 e
 self:=fun _ _ _ _ _ st h=>wpAny_pyIter_zip st.1 h
theorem Sf(n:Nat):ZA (n+4) (n+2) (n+3) n (n+1):=⟨bS (by omega),bS (by omega),bS (by omega),bS (by omega),bS (by omega),dB (by omega),dB (by omega),dB (by omega),dB (by omega),bS (by omega)⟩
def aas(K:Frag)(ta:TA):TI:=fun Z H R=>ta Z H fun vs H1=>∃a b xs ys,vs=[.ref a,.ref b]/\i7 K H1 a xs/\i7 K H1 b ys/\R (Itz K a b) H1
theorem HN:bootBuiltins "zip"=some (.type "zip"):=by decide+kernel
theorem Sg{b:Expr}{ta:TA}(hg:Gl X "zip")(hm:X.mg "zip"=none)(ha:PA X [o,b] ta)(hs:starEach [o,b] X.env=[(false,eval o X.env),(false,eval b X.env)]:=by rfl) (U_:starEach [b] X.env=[(false,eval b X.env)]:=by rfl):
  PI X (.Tuple az i b8) (.Call (.Name "zip" p) [o,b] [] pos) (aas X.K ta):=by
 intro U s Z H R I h;refine Call_ (ux I hg hm HN (v9 (d7 (ha pos U s Z H _ I h) fun us s1 ⟨vs,H1,I1,r1,q1⟩=>?_) (by rw[hs,U_]) (by rw[U_];rfl)));obtain⟨c,d,xs,ys,e,hc,hd,q⟩:=q1;subst e;obtain⟨u,v,rfl,ru,rv⟩:=vals2 r1;cases(show u=Value.ref c from ru);cases(show v=Value.ref d from rv);obtain⟨Km,Y7,p1,_⟩:=I1.tuple hc;obtain⟨wZ,Mo,p2,_⟩:=I1.tuple hd;refine GR (show s1.heap.IsTuple c Km.toArray from p1) (show s1.heap.IsTuple d wZ.toArray from p2) fun h' hz Et HL g1 g2 kk=>?_
 have I2:Inv X U Z H1 {s1 with heap:=h'}:=I1.kept (t':=s1.toks) kk;refine wpAny_pyIter_zip hz ⟨s1.heap.objs.size+4,[s1.heap.objs.size+4,s1.heap.objs.size+2,s1.heap.objs.size+3,s1.heap.objs.size,s1.heap.objs.size+1],_,_,H1,rfl,I2,Kl (Sf _),⟨hz,Et,⟨_,_,HL⟩,g1,g2⟩,fun b m=>?_,q⟩;have hb:s1.heap.objs.size<=b:=by
  simp only[bB,cI,cJ]at m;rcases m with rfl|rfl|rfl|rfl|rfl
  ·exact md _ 4
  ·exact md _ 2
  ·exact md _ 3
  ·exact bu _
  ·exact md _ 1
 exact I1.wR hb (I1.cP.fresh hb)
def PU(us ws:List Tr):List Tr:=List.zipWith (fun a b=>.tup [a,b]) us ws
section
variable {a b:Expr}{x1:Nat}
theorem HP{b:Addr}{ws:List V}{us:List Tr}(h:i7 K (bV B H) au ar)(r:bI K (bV B H) ar ts)(h2:i7 K (bV B H) b ws)(r2:bI K (bV B H) ws us)(hl:ts.length<=us.length):lu K B (Itz K au b) H (PU ts us) where
 go:=fun i B' H' hi s hb=>by
  have Y0:i<ts.length:=by unfold PU at hi;rw[List.length_zipWith]at hi;omega
  have hv:i<ar.length:=by rw[r.length];exact Y0
  have hw:i<ws.length:=by rw[r2.length];omega
  exact⟨ar,ws,ar[i],ws[i],ba.tup bD (s.h.tup h),ba.tup bD (s.h.tup h2),by simp[hv],by simp[hw]⟩
 Fj:=fun i B' H' x Mj hi s hb ⟨T,y,z,e1,e2,e3,q,q2⟩=>by
  subst e1 e3;obtain⟨t,et,rt⟩:=r.xi (q ar (ba.tup bD (s.h.tup h)));obtain⟨u,eu,ru⟩:=r2.xi (q2 ws (ba.tup bD (s.h.tup h2)));refine⟨ba.upd e2,.tup [t,u],by unfold PU;rw[List.getElem?_zipWith,et,eu],.tup (.of (hb.new e2)) (.cons ((rt.same s).same (bE (ba.upd e2))) (.cons ((ru.same s).same (bE (ba.upd e2))) .nil))⟩
 stop:=fun B' H' s=>⟨ar,ba.tup bD (s.h.tup h),by unfold PU;rw[List.length_zipWith,r.length];omega⟩
def zpW(l:Rs (List Tr)):Rs (List Tr):=l.bind fun ts=>match ts with
 |[.tup us,.tup ws]=>if us.length<=ws.length then .ok (PU us ws)else .bad
 |_=>.bad
theorem WQ(hm:X.mg "zip"=none)(ha:PA X [a,b] (B7 X L))(hg:Gl X "zip":=by rfl) (hs:bq [a,b]=true:=by rfl):PI X (.Tuple az x1 b8) (.Call (.Name "zip" p) [a,b] [] pos) (tI X fun Y=>zpW (L Y)):=
 (Sg hg hm ha (by rw[bF _ _ (bc hs).1,bF _ _ (bc (bc hs).2).1];rfl) (by rw[bF _ _ (bc (bc hs).2).1];rfl)).weak fun Z H R ⟨B,Y,hb,r,q⟩=>⟨B,Y,hb,r,q.bind.mono fun ts qt vs H1 s1 r1=>by
  split at qt
  ·obtain⟨x,y,e,h1,h2⟩:=zf r1;obtain⟨_,_,rfl,h,rr⟩:=h1.dI;obtain⟨_,_,rfl,h',Cg⟩:=h2.dI;split at qt
   ·rename_i hl;exact⟨_,_,_,_,e,ba.tup bD h,ba.tup bD h',qt _ H1 s1 (HP h rr h' Cg hl)⟩
   ·exact qt.elim
  ·exact qt.elim⟩
def NR:Tr->Rs Tr
 |.str z=>.ok (.str z)
 |.int i=>if i.natAbs.log2<1920/\(Str.ofString (toString i)).length<=cS then .ok (.str (Str.ofString (toString i)))else .bad
 |_=>.bad
theorem Si(h:PE X e (tP X F)):PE X (.FormattedValue e (-1) none pos) (tP X fun Y=>(F Y).bind NR):=by
 intro U s Z H Q I ⟨B,Y,hb,r,q⟩;refine FormattedValue_plain (d7 (h U s Z H (fun x H1=>∃t,Rep X.K (bV B H1) x t/\ba H H1/\Fi X H (NR t) fun t=>∀e H',ba H H'->Rep X.K (bV B H') e t->Q e H') I ⟨B,Y,hb,r,q.bind.mono fun t qt e H1 s1 r1=>⟨t,r1,s1,qt⟩⟩) fun u s1 ⟨x,H1,I1,rx,t,rt,sm,k⟩=>?_);cases rt with
 |str z hz=>
  obtain⟨tk,rfl⟩:=(show∃t,u=Value.str z t from rx);exact formatField_str (fun t' vz=>⟨.str z,H1,I1.tok _,⟨_,rfl⟩,k _ H1 sm (.str z hz)⟩) (cw hz lq)
 |int i=>
  obtain⟨tk,rfl⟩:=(show∃t,u=Value.int i t from rx);obtain⟨⟨k1,k2⟩,k⟩:=gq k;exact formatField_int_small k1 ⟨.str _,H1,(I1.tok _).tok _,⟨_,rfl⟩,k _ H1 sm (.str _ k2)⟩
 |_=>exact fe k
def PJ(X:Cx)(az:List Expr)(J:bO->Str->Rs Tr):Prop:=∀(U:List (Addr×Obj)) (s:Shared) (Z:St) (H:Hp) (acc:Str) (Q:VK),Inv X U Z H s->tP X (fun Y=>J Y acc) Z H Q->wpAny (model X.prog X.w) X.A (joinParts acc (evalEach az X.env)) (EP X U Z Q) X.xe s
def CC(acc:Str):Rs Tr:=if acc.length<=cS then .ok (.str acc)else .bad
theorem WR:PJ X [] fun _ acc=>CC acc:=by
 intro U s Z H acc Q I ⟨B,Y,hb,r,q⟩;obtain⟨h1,k⟩:=gq q;exact joinParts_nil ⟨.str acc,H,I.tok _,⟨_,rfl⟩,k _ H (ba.refl H) (.str acc h1)⟩ (cw h1 lq)
def nQ(r:Rs Tr)(J:Str->Rs Tr)(acc:Str):Rs Tr:=r.bind fun t=>match t with
 |.str y=>if(acc++y).length<=cS then J (acc++y)else .bad
 |_=>.bad
theorem Sj{J:bO->Str->Rs Tr}(h:PE X e (tP X F))(hr:PJ X az J):PJ X (e::az) fun Y acc=>nQ (F Y) (J Y) acc:=by
 intro U s Z H acc Q I ⟨B,Y,hb,r,q⟩;refine joinParts_cons (d7 (h U s Z H (fun x H1=>∃y,x=.str y/\(acc++y).length<=cS/\ba H H1/\Fi X H (J Y (acc++y)) fun t=>∀v H',ba H H'->Rep X.K (bV B H') v t->Q v H') I ⟨B,Y,hb,r,q.bind.mono fun t qt v H1 s1 r1=>?_⟩) fun u s1 ⟨x,H1,I1,rx,y,ex,hl,sm,k⟩=>?_)
 ·cases r1 with
  |str y hy=>
   by_cases hl:(acc++y).length<=cS
   ·exact⟨y,rfl,hl,s1,by have k:Fi X H (if(acc++y).length<=cS then J Y (acc++y)else .bad) _:=qt;rw[aS hl]at k;exact k⟩
   ·have k:Fi X H (if(acc++y).length<=cS then J Y (acc++y)else .bad) _:=qt;rw[aW hl]at k;exact fe k
  |_=>exact fe qt
 ·subst ex;obtain⟨tk,rfl⟩:=(show∃t,u=Value.str y t from rx);exact⟨cw hl lq,hr U s1 Z H1 _ Q I1 ⟨B,Y,hb.same sm,r.same sm,(k.same sm).mono fun t qt v H2 s2 r2=>qt v H2 (sm.trans s2) r2⟩⟩
theorem NS{J:bO->Str->Rs Tr}(h:PJ X (e::o::az) J):PE X (.JoinedStr (e::o::az) pos) (tP X fun Y=>J Y Str.empty):=fun U s Z H Q I q=>JoinedStr_many (h U s Z H Str.empty Q I q)
def xN:List Tr->Rs (List String)
 |[]=>.ok []
 |.ty n::ts=>(xN ts).bind fun ns=>.ok (n::ns)
 |_::_=>.bad
theorem F9:∀{ts:List Tr} {ns:List String},xN ts=.ok ns->ts=ns.map Tr.ty
 |[],ns,h=>by cases h;rfl
 |t::ts,ns,h=>by
  cases t with
  |ty n=>
   cases e:xN ts with
   |ok ms=>
    rw[xN,e]at h;cases h;rw[F9 e];rfl
   |_=>rw[xN,e]at h;cases h
  |_=>cases h
theorem CD:∀{ts:List Tr} {c:Tr},xN ts≠ .exc c
 |[],c,h=>by cases h
 |t::ts,c,h=>by
  cases t with
  |ty n=>
   cases e:xN ts with
   |ok ms=>rw[xN,e]at h;cases h
   |exc c'=>exact CD e
   |bad=>rw[xN,e]at h;cases h
  |_=>cases h
theorem CF{H:Vw}:∀{ns:List String} {vs:List V},bI K H vs (ns.map Tr.ty)->vs=ns.map V.ty
 |[],_,r=>by cases r;rfl
 |n::ns,_,r=>by
  cases r with
  |cons h r=>cases h;rw[CF r];rfl
theorem F_(K:Frag)(a:String)(ha:a∈["NoneType","bool","int","str","tuple","list","dict"]):∀(cs:List String),(∀c∈cs,c∈kinds)->PySem.W.kitAny K (.type a) (cs.map Value.type)=some (cs.any fun c=>a==c||(a=="bool"&&c=="int"))
 |[],_=>rfl
 |c::cs,h=>by
  have ih:=F_ K a ha cs fun d m=>h d (b_ _ m);have k1:=FU K a ha c (h c (cp ..));rw[bH,PySem.W.kitAny,k1,ih,iZ];cases(a==c||(a=="bool"&&c=="int"))<;>rfl
def PV:List Tr->Rs Tr
 |[t,.tup cs]=>(xN cs).bind fun ns=>if yG t=true/\ns.all (fun c=>kinds.contains c)=true then .ok (.bl (ns.any (YX t)))else .bad
 |_=>.bad
theorem WS{W:Vw}{H:Hp}{x:V}{t:Tr}(r:Rep K W x t)(f:yG t=true):xx t∈["NoneType","bool","int","str","tuple","list","dict"]/\Pe x=true/\sW K H x (.type (xx t)):=by
 cases r with
 |cu=>exact⟨.head _,rfl,.cu⟩
 |bl b=>exact⟨.tail _ (.head _),rfl,.bl b⟩
 |int i=>exact⟨.tail _ (.tail _ (.head _)),rfl,.int i⟩
 |str z _=>exact⟨.tail _ (.tail _ (.tail _ (.head _))),rfl,.str z⟩
 |_=>cases f
theorem Sk:lr X (.builtin "isinstance") PV:=by
 intro U s Z H xs us Q I rv ⟨B,ts,hb,r,q⟩;unfold PV at q;split at q
 ·rename_i t cs;obtain⟨x1,x2,rfl,h1,h2⟩:=zf r;obtain⟨a,vs,rfl,h,rr⟩:=h2.dI;cases e:xN cs with
  |exc c=>exact(CD e).elim
  |bad=>rw[e]at q;exact fe q
  |ok ns=>
   rw[e]at q;have f:=gq q;have ec:=F9 e;subst ec;have ev:=CF rr;subst ev;have mem:∀c∈ns,c∈kinds:=fun c m=>by
    have:=dm.mp f.1.2 c m;simpa using this
   obtain⟨ha,fx,tx⟩:=WS (H:=H) h1 f.1.1;refine Hc U s Z H _ us Q I rv ⟨_,_,ns,.type (xx t),_,rfl,fx,h.up,tx,F_ X.K _ ha ns mem,?_⟩;have e2:(ns.any fun c=>xx t==c||(xx t=="bool"&&c=="int"))=ns.any (YX t):=rfl;rw[e2];exact f.2 _ H (ba.refl H) (.bl _)
 ·exact fe q
end
theorem xO:∀{xs:List V} {cc:List Value},xs.length=cc.length->(∀(i:Nat) (x:V) (u:Value),xs[i]?=some x->cc[i]?=some u->RelV x u)->Vals xs cc
 |[],[],_,_=>.nil
 |[],_::_,h,_=>by cases h
 |_::_,[],h,_=>by cases h
 |x::xs,u::us,h,k=>.cons (k 0 x u rfl rfl) (xO (by simpa using h) fun i y w e1 e2=>k (i+1) y w (by simpa using e1) (by simpa using e2))
theorem uL{k:Key}{v:Value}(h:ml k v=true):RelV (kV k) v:=by
 rcases dD h with⟨j,t,e1,e2⟩|⟨y,t,e1,e2⟩
 ·rw[e1,e2];exact⟨t,rfl⟩
 ·rw[e1,e2];exact⟨t,rfl⟩
theorem HQ{kvs:List (Key×V)}{vs:List (Key×Value)}(rv:KV kvs vs)(hi:ItemsOf (fun i v=>∃k x,vs[i]?=some (k,x)/\ml k v=true) ak vs.length):Vals (kvs.map fun p=>kV p.1) ak.toList:=by
 refine xO (by have e:=hi.1;rw[bj,rO rv,<-e,fU]) fun i x u e1 e2=>?_
 rw[mZ]at e2;obtain⟨k,y,e3,e4⟩:=hi.2 i u e2;rw[bW]at e1;cases e5:kvs[i]? with
 |none=>rw[e5]at e1;cases e1
 |some p=>
  rw[e5]at e1;cases e1;obtain⟨z,e6⟩:=Ay rv (k:=p.1) (v:=p.2) e5;rw[e6]at e3;cases e3;exact uL e4
section
variable {prog:Program}{vs:List (Key×Value)}{ep:Nat}
theorem AH{R:List Value->Shared->Prop}(hh:A.handled=none)(hd:(a==sysModules)=false)(hm:s.heap.DictAt (bY prog w) a vs ep)(hn:vs.length<=sizeLine)
  (h:∀(h':Heap) (tk:Nat) (acc:Array Value),ItemsOf (fun i v=>∃k x,vs[i]?=some (k,x)/\ml k v=true) acc vs.length->(∀b o,s.heap.get? b=some o->h'.get? b=some o)->s.heap.objs.size<=h'.objs.size->R acc.toList {s with heap:=h',toks:=tk}):wpAny (model prog w) A (collect (.ref a)) R E s:=by
 have f_:a<s.heap.objs.size:=hm.lt_size;unfold collect;refine aP (wpAny_runValue (fE entry_proto_collect' ?_));rw[gG BE _];show wpAny _ A.in1 (newList []>>=fun l=>again (.builtin "list.__iadd__" ⟨[l,.ref a],[]⟩)) _ _ s;refine aP (km ?_);refine a_ ⟨gM r8 _,fE entry_list_iadd' ?_⟩;rw[gG r8 _];have hL:(s.heap.push {cls:=.type "list",data:=.seq ([]:List Value).toArray}).get? s.heap.objs.size=some {cls:=.type "list",data:=.seq #[]}:=cf _ rfl;show wpAny _ A.in1 (Builtin.List.listExtendWith (.ref s.heap.objs.size) (.ref a) (.ref s.heap.objs.size)) _ _ _;have key:=PySem.W.kdl_extend (prog:=prog) (A:=A) (s:={s with heap:=s.heap.push {cls:=.type "list",data:=.seq ([]:List Value).toArray}})
  (R:=fun(q:Result) (s':Shared)=>∃(h':Heap) (tk:Nat) (jX:Array Value) (c':Nat),q=.ok (.ret (.ref s.heap.objs.size))/\s'={s with heap:=h',toks:=tk}/\
   (∀b o,s.heap.get? b=some o->h'.get? b=some o)/\h'.get? s.heap.objs.size=some {cls:=.type "list",dict:=none,data:=.seq jX c',slots:=#[]}/\ItemsOf (fun i v=>∃k x,vs[i]?=some (k,x)/\ml k v=true) jX vs.length)
  (PySem.W.kdl_dict (knd:=bY prog w) (kvs:=vs) (ep:=ep) hd) hh (hm.push _) s.heap.objs.size (dB f_) (dB f_) (.ref s.heap.objs.size) 0 hL
  (fun h' tk jX c' hk Cw rQ=>⟨h',tk,jX,c',rfl,rfl,fun b o e=>hk b o (bS (bp e)) (bL _ e),Cw,rQ⟩) hn
 refine dW key (fun fin s' x=>?_) fun e s' x=>?_
 ·cases fin with
  |done f=>
   obtain⟨h',tk,jX,c',e,rfl,hk,Cw,rQ⟩:=x;cases e;show wpAny _ A (load s.heap.objs.size>>=_) _ _ _;refine aP (o4 Cw ?_);exact a_ (h h' tk jX rQ hk (dA (bp Cw)))
  |again c₁=>
   refine⟨x.1,hW x.2 fun q sT y=>?_⟩;obtain⟨h',tk,jX,c',rfl,rfl,hk,Cw,rQ⟩:=y;show wpAny _ A (load s.heap.objs.size>>=_) _ _ _;refine aP (o4 Cw ?_);exact a_ (h h' tk jX rQ hk (dA (bp Cw)))
 ·obtain⟨_,_,_,_,e',_⟩:=x;cases e'
theorem CG{ss:List Str}(hh:A.handled=none)(hd:(a==sysModules)=false)(hm:s.heap.DictAt (bY prog w) a vs ep)(hv:vs.map (·.1)=ss.map Sum.inr)(Es:ss.length<64)
  (h:∀h' tk D out n BC,(∀b o,s.heap.get? b=some o->h'.get? b=some o)->s.heap.objs.size<=D->h'.get? D=some {cls:=.type "list",data:=.seq out n}->StrsAre out.toList BC->BC.Perm ss->sortedS BC=true->
   Q (.ref D) {s with heap:=h',toks:=tk}):wpAny (model prog w) A (call (.builtin "sorted") [.ref a]) Q E s:=by
 have hl:vs.length=ss.length:=by have q:=cQ List.length hv;rw[bj,bj]at q;exact q
 have hz:vs.length<=sizeLine:=by rw[dH];omega
 refine call_function_entry kind_sorted plain_sorted entry_sorted (args_sorted1 _) ?_
 unfold Builtin.«sorted»;refine aP (m:=checkCount "sorted" 1 1 _) (a_ ?_);refine aP (AH (A:=A.in1) hh hd hm hz fun fK tk acc hi hk hle=>?_);have Se:StrsAre acc.toList ss:=by
  refine uK (xO (by have e:=hi.1;rw[bj,<-hl,<-e,fU]) fun i x u e1 e2=>?_);rw[mZ]at e2;obtain⟨k,y,e3,e4⟩:=hi.2 i u e2;have e5:(vs.map (·.1))[i]?=some k:=by rw[bW,e3];rfl
  rw[hv,bW]at e5;rw[bW]at e1;cases e6:ss[i]? with
  |none=>rw[e6]at e1;cases e1
  |some z=>rw[e6]at e1 e5;cases e1;cases e5;exact uL e4
 have b9:acc.toList.length=ss.length:=by rw[fU,hi.1,hl]
 refine aP (oY ?_ (by rw[b9,dH];omega));have Fd:(fK.push (seqObj "list" acc.toList.toArray 0)).get? fK.objs.size=some (seqObj "list" acc.toList.toArray 0):=cf _ rfl;refine aP (fi (gJ slot_list_sort ⟨_,Fd,rfl⟩ entry_list_sort
  (list_sort_treeK strKind_oneLt Fd Se.keysOf (fun aap aaq c9 e=>keyKind_strs (by rw[<-e];exact Se)) (by rw[b9];omega) fun wU a1 a2=>⟨_,rfl,?_⟩) (args_list_sort _)))
 refine a_ ⟨_,rfl,?_⟩;obtain⟨BC,q1,q2,q3⟩:=sorted_out_str Se a1 a2;obtain⟨e,he⟩:=sortedHeap_at (out:=(arrOf wU).map (·.2)) Fd;refine h _ tk fK.objs.size ((arrOf wU).map (·.2)) e BC (fun b o q=>?_) hle he q1 q2 q3;have hb:=hk b o q;have f_:=bp hb;rw[sortedHeap_old (bS f_) (by rw[jg];exact lh f_)];exact bL _ hb
end
section
theorem Ew(hc:X.calm=true):gn X (.type "list") (fun xs H Q=>∃(a:Addr) (kvs:List (Key×V)),xs=[.ref a]/\Rd H a (.dK kvs)/\∀D,H D=none->Q (.ref D) (upd H D (.lst (kvs.map fun p=>kV p.1)))):=by
 intro U s Z H xs us Q I r h;obtain⟨a,kvs,rfl,ha,q⟩:=h;obtain⟨u,rfl,ru⟩:=vals1 r;cases(show u=Value.ref a from ru);obtain⟨hz,hs,vs,rv,hm⟩:=(show cR X.prog X.w H s.heap a (.dK kvs)from ha.ok I.cP);obtain⟨ep,hm⟩:=hm.dictAt;have hl:=rO rv;refine PySem.W.kdl_call (PySem.W.kdl_dict (knd:=bY X.prog X.w) (kvs:=vs) (ep:=ep) hs) (I.ok.hd hc) hm (by rw[<-hl];exact hz) fun h' tk jX c' hk hD rQ=>?_
 have hf:H s.heap.objs.size=none:=I.fresh;exact⟨.ref s.heap.objs.size,_,I.laid (t':=tk) (o:=.lst (kvs.map fun p=>kV p.1)) hk (bu _) ⟨by rw[bj];exact hz,jX.toList,c',HQ rv rQ,by rw[se];exact hD⟩,rfl,q _ hf⟩
theorem AI(hc:X.calm=true):gn X (.builtin "sorted") (fun xs H Q=>∃(a:Addr) (kvs:List (Key×V)) (ss:List Str),xs=[.ref a]/\Rd H a (.dK kvs)/\kvs.map (·.1)=ss.map Sum.inr/\ss.length<64/\∀D,H D=none->Q (.ref D) (upd H D (.lst ((cT ss).map V.str)))):=by
 intro U s Z H xs us Q I r h;obtain⟨a,kvs,ss,rfl,ha,hk,Es,q⟩:=h;obtain⟨u,rfl,ru⟩:=vals1 r;cases(show u=Value.ref a from ru);obtain⟨hz,hs,vs,rv,hm⟩:=(show cR X.prog X.w H s.heap a (.dK kvs)from ha.ok I.cP);obtain⟨ep,hm⟩:=hm.dictAt;have hv:vs.map (·.1)=ss.map Sum.inr:=by
  rw[<-hk];refine oE fun i=>?_
  rw[bW,bW];cases e:kvs[i]? with
  |none=>
   have h1:vs[i]?=none:=iV.mpr (by rw[<-rO rv];exact iV.mp e)
   rw[h1];rfl
  |some p=>
   obtain⟨z,e6⟩:=Ay rv (k:=p.1) (v:=p.2) e;rw[e6];rfl
 refine CG (I.ok.hd hc) hs hm hv Es fun h' tk D out n BC hk hD hg cz hp hs=>?_
 have e:=tW hp hs;subst e;have hf:H D=none:=I.cP.fresh hD;have hz:((cT ss).map V.str).length<=sizeLine:=by
  rw[bj,(d8 ss).length_eq,dH];omega
 exact⟨.ref D,_,I.laid (t':=tk) (o:=.lst ((cT ss).map V.str)) hk hD ⟨hz,out.toList,n,qm cz,by rw[se];exact hg⟩,rfl,q _ hf⟩
def nR:List Tr->Option (List Str)
 |[]=>some []
 |.str z::ts=>(nR ts).map fun r=>z::r
 |_=>none
theorem uM{W:Vw}:∀{vs:List V} {ts:List Tr} {ss:List Str},bI K W vs ts->nR ts=some ss->vs=ss.map V.str/\∀z∈ss,z.length<=cS
 |[],[],ss,_,e=>by cases e;exact⟨rfl,fun z h=>by cases h⟩
 |[],_::_,_,h,_=>by cases h
 |v::vs,ts,ss,h,e=>by
  cases h with
  |cons h r=>
   cases h with
   |str z hz=>
    rename_i ts;have e':(nR ts).map (fun r=>z::r)=some ss:=e;cases q:nR ts with
    |none=>rw[q]at e';cases e'
    |some rs=>
     rw[q]at e';cases e';obtain⟨h1,h2⟩:=uM r q;exact⟨by rw[h1];rfl,fun y hy=>by
      rcases bB.mp hy with rfl|hy
      ·exact hz
      ·exact h2 y hy⟩
   |_=>cases e
def vc:List (Key×Tr)->Option (List Str)
 |[]=>some []
 |(.inr z,_)::ts=>if z.length<=cS then(vc ts).map fun r=>z::r else none
 |_=>none
theorem CH:∀{bt:List (Key×Tr)} {ss:List Str},vc bt=some ss->bt.map (·.1)=ss.map Sum.inr/\∀z∈ss,z.length<=cS
 |[],ss,e=>by cases e;exact⟨rfl,fun z h=>by cases h⟩
 |(.inl _,_)::_,_,e=>by cases e
 |(.inr z,t)::ts,ss,e=>by
  have e':(if z.length<=cS then(vc ts).map fun r=>z::r else none)=some ss:=e;by_cases hz:z.length<=cS
  ·rw[aS hz]at e';cases q:vc ts with
   |none=>rw[q]at e';cases e'
   |some rs=>
    rw[q]at e';cases e';obtain⟨h1,h2⟩:=CH q;exact⟨by rw[bH,bH,h1],fun y hy=>by
     rcases bB.mp hy with rfl|hy
     ·exact hz
     ·exact h2 y hy⟩
  ·rw[aW hz]at e';cases e'
def zB(o:Option (List Str)):Rs Tr:=match o with
 |some ss=>if ss.length<64 then .ok (.lst ((cT ss).map .str))else .bad
 |none=>.bad
def nh:List Tr->Rs Tr
 |[.lst ts]=>zB (nR ts)
 |[.bT bt]=>zB (vc bt)
 |_=>.bad
theorem xQ{W:Vw}(h:∀z∈ps,z.length<=cS):bI K W ((cT ps).map V.str) ((cT ps).map Tr.str):=ze fun z hz=>h z ((d8 ps).mem_iff.mp hz)
theorem zC{o:Option (List Str)}(q:Fi X H (zB o) aA):∃ss,o=some ss/\ss.length<64/\aA (.lst ((cT ss).map .str)):=by
 unfold zB at q;split at q
 ·have f:=gq q;exact⟨_,rfl,f.1,f.2⟩
 ·exact q.elim
theorem jm(hc:X.calm=true):lr X (.builtin "sorted") nh:=by
 intro U s Z H xs us Q I rv ⟨B,ts,hb,r,q⟩;unfold nh at q;split at q
 ·obtain⟨x,rfl,r0⟩:=fM r;obtain⟨a,vs,rfl,h,rr⟩:=r0.lst_inv;obtain⟨ss,e1,Es,k⟩:=zC q;obtain⟨rfl,hs⟩:=uM rr e1;exact AE U s Z H _ us Q I rv ⟨_,ss,rfl,.of (dX h),Es,fun p hp=>k _ _ (ba.upd hp) (.yP hb hp (xQ hs))⟩
 ·obtain⟨x,rfl,r0⟩:=fM r;obtain⟨a,kvs,rfl,h,ek,rr⟩:=r0.m8;obtain⟨ss,e1,Es,k⟩:=zC q;obtain⟨e2,hs⟩:=CH e1;exact AI hc U s Z H _ us Q I rv ⟨_,_,ss,rfl,h.same bD,ek.trans e2,Es,fun p hp=>k _ _ (ba.upd hp) (.yP hb hp (xQ hs))⟩
 ·exact q.elim
def Ex:List Tr->Rs Tr
 |[.bT bt]=>(Cq bt).bind fun ts=>.ok (.lst ts)
 |_=>.bad
theorem CI{W:Vw}:∀{kvs:List (Key×V)} {bt:List (Key×Tr)},kvs.map (·.1)=bt.map (·.1)->bt.all (fun p=>keyOk p.1)=true->bI K W (kvs.map fun p=>kV p.1) (bt.map fun p=>zw p.1)
 |[],[],_,_=>.nil
 |[],_::_,e,_=>by cases e
 |_::_,[],e,_=>by cases e
 |(k1,v)::kvs,(k2,t)::bt,e,h=>by
  rw[bH,bH]at e;injection e with e1 e2
  have Np:k1=k2:=e1;subst Np;rw[hV,bP]at h;exact .cons (zx h.1) (CI e2 h.2)
theorem NT(hc:X.calm=true):lr X (.type "list") Ex:=by
 intro U s Z H xs us Q I rv ⟨B,ts,hb,r,q⟩;unfold Ex at q;split at q
 ·obtain⟨x,rfl,r0⟩:=fM r;obtain⟨a,kvs,rfl,h,ek,rr⟩:=r0.m8;have f:=gq (Fi.bind q);exact Ew hc U s Z H _ us Q I rv ⟨_,_,rfl,h.same bD,fun p hp=>f.2 _ _ (ba.upd hp) (.yP hb hp (CI ek f.1))⟩
 ·exact q.elim
def pF:Tr->Rs Tr
 |.lst ts=>match nR ts with
  |some ss=>if ss.length<64 then .ok (.lst ((cT (eB [] ss)).map .str))else .bad
  |none=>.bad
 |_=>.bad
variable {l:Expr}{p1 p2 WT WU:Pos}
end
def vA(ts:List Tr)(x:Tr):Rs Tr:=if rK x=true/\ts.all yG=true then(match ts.findIdx? (fun y=>eqT y x)with|some j=>.ok (.int j)|none=>.bad)else .bad
def NU(ts:List Tr)(x:Tr):Rs Tr:=if rK x=true/\ts.all yG=true then .ok (.int (ts.countP fun y=>eqT y x:Nat))else .bad
theorem Ga{W:Vw}{x:Tr}:∀{vs:List V} {ts:List Tr} {us:List Value},bI K W vs ts->ts.all yG=true->Vals vs us->us.map (eU x)=ts.map fun y=>eqT y x
 |[],_,_,r,_,rv=>by cases r;cases rv;rfl
 |_::_,_,_,r,f,rv=>by
  cases r with
  |cons h r=>
   cases rv with
   |cons h1 rv=>
    rw[hV,bP]at f;rw[bH,bH,Ef h f.1 h1,Ga r f.2 rv]
theorem Gb{x:Tr}{j:Nat}(e:aq.map (eU x)=ts.map fun y=>eqT y x)(h:ts.findIdx? (fun y=>eqT y x)=some j):∃hj:j<aq.length,eU x aq[j]=true/\∀m (hm:m<aq.length),m<j->eU x aq[m]=false:=by
 obtain⟨hj,h1,h2⟩:=BD.mp h;have hl:aq.length=ts.length:=by have q:=cQ List.length e;rw[bj,bj]at q;exact q
 have at_:∀(i:Nat) (h1:i<aq.length) (h2:i<ts.length),eU x aq[i]=eqT ts[i] x:=fun i h1 h2=>by
  have q:=cQ (fun l:List Bool=>l[i]?) e;simp only[bW,bQ h1,bQ h2]at q;exact Option.some.inj q
 refine⟨by rw[hl];exact hj,by rw[at_ j _ hj];exact h1,fun m hm WV=>?_⟩;rw[at_ m hm (by rw[<-hl];exact hm)];have q:=h2 m WV;cases z:eqT ts[m] x with
 |false=>rfl
 |true=>exact absurd z q
theorem CJ{x:Tr}(q:Fi X H (vA ts x) aA):rK x=true/\ts.all yG=true/\∃j:Nat,ts.findIdx? (fun y=>eqT y x)=some j/\aA (.int j):=by
 unfold vA at q;by_cases z:rK x=true/\ts.all yG=true
 ·rw[aS z]at q;cases e:ts.findIdx? (fun y=>eqT y x)with
  |none=>rw[e]at q;exact fe q
  |some j=>rw[e]at q;exact⟨z.1,z.2,j,rfl,q⟩
 ·rw[aW z]at q;exact fe q
theorem Kn{x:Tr}(q:Fi X H (NU ts x) aA):rK x=true/\ts.all yG=true/\aA (.int (ts.countP fun y=>eqT y x:Nat)):=by
 unfold NU at q;by_cases z:rK x=true/\ts.all yG=true
 ·rw[aS z]at q;exact⟨z.1,z.2,q⟩
 ·rw[aW z]at q;exact fe q
theorem count_at{x:Tr}(e:aq.map (eU x)=ts.map fun y=>eqT y x):aq.countP (eU x)=ts.countP fun y=>eqT y x:=by
 have a:aq.countP (eU x)=(aq.map (eU x)).countP id:=by rw[List.countP_map];rfl
 have b:(ts.countP fun y=>eqT y x)=(ts.map fun y=>eqT y x).countP id:=by rw[List.countP_map];rfl
 rw[a,b,e]
section
theorem Sl{W:Vw}{v:V}{qT:Addr->Option Nat}{Q:VK}(hu:X.A.units+1<cLine)(I:Inv X U Z H s)(h:i7 X.K H a ar)(r:bI X.K (⟨H,qT⟩:Vw) ar ts)(rx:Rep X.K (⟨H,qT⟩:Vw) v aB)(ru:RelV v af)(q:Fi X H (vA ts aB) aA)(hk:∀j:Nat,aA (.int j)->Q (.int j) H):
  wpAny (model X.prog X.w) X.A (call (.builtin "tuple.index") [.ref a,af]) (EP X U Z Q) X.xe s:=by
 obtain⟨p1,p2,j,e,q⟩:=CJ q;obtain⟨cc,rv,pl,hz⟩:=I.tuple h
 ·obtain⟨hj,h1,h2⟩:=Gb (Ga r p2 rv) e;obtain⟨⟨cls,dd,data,sl⟩,ho,hc,n,hd⟩:=(show s.heap.IsTuple a cc.toArray from pl);simp only at hc hd;subst hc hd;refine kC wb ⟨_,ho,rfl⟩ PySem.F.entry_tuple_index (PySem.F.args_tuple_index_2 _ _) (SeqAt.yH a cc.toArray n dd sl af (eU aB) j (by simpa using hj) (by simpa using h1) fun m hm WV=>by simpa using h2 m (by simpa using hm) WV) ⟨ho,fun y hy=>px I (A:=X.A.in1) hu rx p1 ru r p2 rv y (by simpa using hy),?_⟩;exact⟨.int j,H,I.tok _,⟨_,rfl⟩,hk j q⟩
theorem Sm{v:V}{qT:Addr->Option Nat}{Q:VK}(hu:X.A.units+1<cLine)(I:Inv X U Z H s)(h:ll X.K H a ar)(r:bI X.K (⟨H,qT⟩:Vw) ar ts)(rx:Rep X.K (⟨H,qT⟩:Vw) v aB)(ru:RelV v af)(q:Fi X H (vA ts aB) aA)(hk:∀j:Nat,aA (.int j)->Q (.int j) H):
  wpAny (model X.prog X.w) X.A (call (.builtin "list.index") [.ref a,af]) (EP X U Z Q) X.xe s:=by
 obtain⟨p1,p2,j,e,q⟩:=CJ q;obtain⟨cc,rv,pl,hz⟩:=I.list h
 ·obtain⟨hj,h1,h2⟩:=Gb (Ga r p2 rv) e;have hs:(j:Int)<2 ^63 - 1:=by
   have:=rv.length;rw[dH]at hz;omega
  obtain⟨⟨cls,dd,data,sl⟩,n,ho,hc,WW,hd⟩:=id pl;simp only at hc hd WW;have WX:=hd;subst hc;subst WX;refine kC PySem.F.slot_list_index ⟨_,ho,rfl⟩ PySem.F.entry_list_index (PySem.F.args_list_index_2 _ _) (SeqAt.list_indexAt a cc.toArray n dd sl af (eU aB) j (by simpa using hj) hs (by simpa using h1) fun m hm WV=>by simpa using h2 m (by simpa using hm) WV) ⟨ho,fun y hy=>px I (A:=X.A.in1) hu rx p1 ru r p2 rv y (by simpa using hy),?_⟩;exact⟨.int j,H,I.tok _,⟨_,rfl⟩,hk j q⟩
theorem Sn{v:V}{qT:Addr->Option Nat}{Q:VK}(hu:X.A.units+1<cLine)(I:Inv X U Z H s)(h:ll X.K H a ar)(r:bI X.K (⟨H,qT⟩:Vw) ar ts)(rx:Rep X.K (⟨H,qT⟩:Vw) v aB)(ru:RelV v af)(q:Fi X H (NU ts aB) aA)(hk:∀j:Nat,aA (.int j)->Q (.int j) H):
  wpAny (model X.prog X.w) X.A (call (.builtin "list.count") [.ref a,af]) (EP X U Z Q) X.xe s:=by
 obtain⟨p1,p2,q⟩:=Kn q;obtain⟨cc,rv,pl,hz⟩:=I.list h;rw[<-count_at (Ga r p2 rv)]at q;obtain⟨⟨cls,dd,data,sl⟩,n,ho,hc,WW,hd⟩:=id pl;simp only at hc hd WW;have WX:=hd;subst hc;subst WX;refine kC PySem.F.slot_list_count ⟨_,ho,rfl⟩ PySem.F.entry_list_count (PySem.F.args_list_count_2 _ _) (SeqAt.list_countAt a cc.toArray n dd sl af (eU aB)) ⟨ho,fun y hy=>px I (A:=X.A.in1) hu rx p1 ru r p2 rv y (by simpa using hy),?_⟩;exact⟨.int (cc.countP (eU aB):Nat),H,I.tok _,⟨_,rfl⟩,hk _ q⟩
variable {es:List Expr}{abf dt:Pos}
def lmR(h:List Tr->Tr->Rs Tr)(r:Rs Tr)(a:Rs Tr):Rs Tr:=r.bind fun t=>match t with
 |.lst ts=>a.bind fun x=>h ts x
 |_=>.bad
inductive WY(X:Cx)(h:List Tr->Tr->Rs Tr)(x:V)(xs:List V)(H:Hp)(Q:VK):Prop
 |mk (B:eW) (ts:List Tr) (y:V) (ty:Tr):HB B H->Rep X.K (bV B H) x (.lst ts)->xs=[y]->Rep X.K (bV B H) y ty->(Fi X H (h ts ty) fun t=>∀v H',ba H H'->Rep X.K (bV B H') v t->Q v H')->WY X h x xs H Q
theorem So(hu:X.A.units+1<cLine):QX X "list.index" (WY X vA):=by
 intro U s Z H x xs v us Q I rx rv ⟨B,ts,y,ty,hb,r,e,ry,q⟩;subst e;obtain⟨u,rfl,ru⟩:=vals1 rv;cases r with
 |lst h rr=>
  cases rx;exact Sm (qT:=B.ix) hu I (.of (dX h)) (rr.same fj) (ry.same fj) ru q fun j z=>z _ H (ba.refl H) (.int _)
theorem Sq(hu:X.A.units+1<cLine):QX X "list.count" (WY X NU):=by
 intro U s Z H x xs v us Q I rx rv ⟨B,ts,y,ty,hb,r,e,ry,q⟩;subst e;obtain⟨u,rfl,ru⟩:=vals1 rv;cases r with
 |lst h rr=>
  cases rx;exact Sn (qT:=B.ix) hu I (.of (dX h)) (rr.same fj) (ry.same fj) ru q fun j z=>z _ H (ba.refl H) (.int _)
theorem aat{h:List Tr->Tr->Rs Tr}(slot:Slot "list" av ay)(MS:typeOf (.builtin ay)=pure (.type "method_descriptor"))(hm:QX X ay (WY X h))(ho:PE X o (tP X F))(he:PE X e (tP X G))(pa:PlainAttrs "list":=by exact r6)
  (o_:isCall o=false:=by rfl) (cz:bq [e]=true:=by rfl) (fJ:(b8.endLine==dt.line)=true:=by rfl):
  PE X (.Call (.Attribute o av b8) [e] [] dt) (tP X fun Y=>lmR h (F Y) (G Y)):=
 (Fq pa slot MS hm ho (Ap he FD (bc cz).1) (gb o_) (by rw[jj cz];rfl) fJ (bF _ _ (bc cz).1) (cL (bc cz).2)).weak fun Z H Q ⟨B,Y,hb,r,q⟩=>⟨B,Y,hb,r,q.bind.mono fun t qt v H1 s1 r1=>by
  split at qt
  ·rename_i ts;obtain⟨a,vs,rfl,hl,rr⟩:=r1.lst_inv;refine⟨.inl ⟨rfl,vs,.of (dX hl)⟩,B,Y,hb.same s1,r.same s1,?_⟩;have q2:=(Fi.bind qt).same s1;refine Fi.mono (r:=xp (G Y) (.ok [])) (k:=fun zs=>∃x,zs=[x]/\Fi X H (h ts x) fun t=>∀v H',ba H H'->Rep X.K (bV B H') v t->Q v H') ?_ fun zs ⟨x,ez,qx⟩ ws H2 s2 r2=>?_
   ·cases eg:G Y with
    |ok x=>rw[eg]at q2;exact⟨x,rfl,q2⟩
    |_=>rw[eg]at q2;exact q2
   ·subst ez;obtain⟨y,rfl,ry⟩:=fM r2;exact⟨B,ts,_,x,hb.same (s1.trans s2),.lst ((bE s2).h _ _ hl) (rr.same (bE s2)),rfl,ry,(qx.same (s1.trans s2)).mono fun t k v H3 s3 r3=>k v H3 ((s1.trans s2).trans s3) r3⟩
  ·exact qt.elim⟩
end
structure Ko(K:Frag)(mg:Str->Option Value)(x:Str)(ts:List Tr):Prop where
 g:VC K mg x (.tup ts)
 nd:∃a o,mg x=some (.ref a)/\K.lookup a=some o/\o.cls=.type "tuple"/\o.dict=none
section
variable {es:List Expr}{dt:Pos}
inductive rTI(X:Cx)(x:V)(xs:List V)(H:Hp)(Q:VK):Prop
 |mk (B:eW) (ts:List Tr) (y:V) (ty:Tr):HB B H->Rep X.K (bV B H) x (.tup ts)->xs=[y]->Rep X.K (bV B H) y ty->(Fi X H (vA ts ty) fun t=>∀v H',ba H H'->Rep X.K (bV B H') v t->Q v H')->rTI X x xs H Q
theorem Kp(hu:X.A.units+1<cLine):QX X "tuple.index" (rTI X):=by
 intro U s Z H x xs v us Q I rx rv ⟨B,ts,y,ty,hb,r,e,ry,q⟩;subst e;obtain⟨u,rfl,ru⟩:=vals1 rv;cases r with
 |tup h rr=>
  cases rx;exact Sl (W:=bV B H) (qT:=B.ix) hu I (ba.tup bD h) (rr.same fj) (ry.same fj) ru q fun j z=>z _ H (ba.refl H) (.int _)
theorem WZ{B:eW}{Y:bO}(s1:ba H ac)(q:Fi X H (G Y) aA):Fi X ac (xp (G Y) (.ok [])) fun zs=>∃x,zs=[x]/\aA x:=by
 have q2:=Fi.same q s1;cases eg:G Y with
 |ok x=>rw[eg]at q2;exact⟨x,rfl,q2⟩
 |_=>rw[eg]at q2;exact q2
theorem W0(hu:X.A.units+1<cLine)(g:Ko X.K X.mg x ts)(he:PE X e (tP X G))(hg:Gl X x:=by rfl) (hd:Db x:=by decide) (cz:bq [e]=true:=by rfl) (fJ:(b8.endLine==dt.line)=true:=by rfl):
  PE X (.Call (.Attribute (.Name x p) "index" b8) [e] [] dt) (tP X fun Y=>(G Y).bind (vA ts)):=by
 obtain⟨⟨v,u,hm,r,q0⟩,a,ob,hm2,hk,hc,hn⟩:=g;rw[hm]at hm2;cases hm2;obtain⟨a',_,rfl,_⟩:=(q0 ⟨fun _=>none,fun _=>none⟩).dI;cases r;refine(Fq PySem.F.plainAttrs_tuple wb PySem.F.type_tuple_index (Kp hu) (Ac (v:=.ref a) hg hm rfl hd) (Ap he FD (bc cz).1) (gb rfl) (by rw[jj cz];rfl) fJ (bF _ _ (bc cz).1) (cL (bc cz).2)).weak fun Z H Q ⟨B,Y,hb,r,q⟩=>?_
 refine⟨.inr (.inl ⟨rfl,ob,hk,hc,hn⟩),B,Y,hb,r,(WZ (B:=B) (ba.refl H) (Fi.bind q)).mono fun zs ⟨x,ez,qx⟩ ws H2 s2 r2=>?_⟩;subst ez;obtain⟨y,rfl,ry⟩:=fM r2;exact⟨B,ts,_,x,hb.same s2,q0 _,rfl,ry,(Fi.same qx s2).mono fun t k v H3 s3 r3=>k v H3 (s2.trans s3) r3⟩
theorem W3{x1}(hu:X.A.units+1<cLine)(ht:PA X es (B7 X L))(he:PE X e (tP X G))(cz:bq [e]=true:=by rfl) (fJ:(b8.endLine==dt.line)=true:=by rfl):
  PE X (.Call (.Attribute (.Tuple es x1 pos) "index" b8) [e] [] dt) (tP X fun Y=>(L Y).bind fun ts=>if ts.length<=e_ then(G Y).bind (vA ts)else .bad):=by
 intro U s Z H Q I ⟨B,Y,hb,r,q⟩;refine wpAny_Call_method_late (gb rfl) (by rw[jj cz];rfl) fJ rfl (wpAny_Tuple_spliced (d7 (ht pos U s Z H _ I ⟨B,Y,hb,r,q.bind.mono fun ts qt vs H1 s1 r1=>(⟨ts,qt,s1,r1⟩:∃ts,Fi X H (if ts.length<=e_ then(G Y).bind (vA ts)else .bad) _/\ba H H1/\bI X.K (bV B H1) vs ts)⟩) fun us s1 ⟨xs,H1,I1,rv,ts,qt,sm,r1⟩=>?_));by_cases hz:ts.length<=e_
 ·rw[aS hz]at qt;have Y4:us.length<=sizeLine:=by rw[<-rv.length,r1.length,<-iE];exact hz
  refine⟨Y4,?_⟩;have hf:H1 s1.heap.objs.size=none:=I1.cP.fresh (bu _);have ho:=cf s1.heap (o:={cls:=.type "tuple",data:=.seq us.toArray}) rfl;have I2:Inv X U Z (upd H1 s1.heap.objs.size (.tup xs)) {s1 with heap:=s1.heap.push {cls:=.type "tuple",data:=.seq us.toArray}}:=I1.laid (t':=s1.toks) (fun b u e=>bL _ e) (bu _) ⟨by rw[rv.length];exact Y4,us,rv,⟨_,ho,rfl,_,rfl⟩⟩;have s2:ba H (upd H1 s1.heap.objs.size (.tup xs)):=sm.trans (ba.upd hf);have rt:Rep X.K (bV B (upd H1 s1.heap.objs.size (.tup xs))) (.ref s1.heap.objs.size) (.tup ts):=.tup (.inl (.inl ((hb.same sm).new hf))) (r1.same (bE (ba.upd hf)));refine⟨"tuple","tuple.index",PySem.F.plainAttrs_tuple,wb,PySem.F.type_tuple_index,⟨_,ho,rfl⟩,fun a ea=>by cases ea;exact⟨_,ho,rfl⟩,?_⟩;have hA:=(Ap he FD (bc cz).1) dt U _ Z _ (fun vs H3=>rTI X (.ref s1.heap.objs.size) vs H3 Q) I2 ⟨B,Y,hb.same s2,r.same s2,(WZ (B:=B) s2 (Fi.bind qt)).mono fun zs ⟨x,ez,qx⟩ ws H3 s3 r3=>by
   subst ez;obtain⟨y,rfl,ry⟩:=fM r3;exact⟨B,ts,_,x,hb.same (s2.trans s3),rt.same (bE s3),rfl,ry,(Fi.same qx (s2.trans s3)).mono fun t k v H4 s4 r4=>k v H4 ((s2.trans s3).trans s4) r4⟩⟩
  rw[bF _ _ (bc cz).1]at hA⊢;refine mX (by show(false||(backTo dt (starEach [] X.env)).any (·.1))=false;rw[cL (es:=[]) rfl];rfl) (m3 ?_);exact d7 hA fun us s4 ⟨vs,H4,I4,r4,q4⟩=>Kp hu U s4 Z H4 (.ref s1.heap.objs.size) vs _ us Q I4 rfl r4 q4
 ·rw[aW hz]at qt;exact fe qt
def W4:List Tr->Rs Tr
 |[.int i]=>.ok (.int i)
 |[.bl b]=>.ok (.int (if b then 1 else 0))
 |_=>.bad
theorem W5:lr X (.type "int") W4:=by
 intro U s Z H xs us Q I rv ⟨B,ts,hb,r,q⟩;unfold W4 at q;split at q
 ·obtain⟨x,e,r⟩:=fM r;exact y6 U s Z H _ us Q I rv (.inl ⟨_,by rw[e,r.int_inv],q _ H (ba.refl H) (.int _)⟩)
 ·obtain⟨x,e,r⟩:=fM r;exact y6 U s Z H _ us Q I rv (.inr ⟨_,by rw[e,r.xn],q _ H (ba.refl H) (.int _)⟩)
 ·exact q.elim
variable {c m:Str}{st:Stmt}{f:Addr}{fd:FuncData}{k:Nat}
end
structure MethAt(K:Frag)(c m:Str)(st:Stmt)(ps:List Str)(f:Addr)(fd:FuncData):Prop where
 fn:∃qual,yF K m qual st f fd
 bd:Binds K fd ps []
 mt:Meth K (clsAt K c) m f
 cl:DV K (clsAt K c)
def DI(fs:List (Str×Tr))(m:Str):Bool:=(fs.lookup m).isNone
theorem nj{W:Vw}(f:Str):∀{gZ:List (Str×V)} {fs:List (Str×Tr)},gZ.map (·.1)=fs.map (·.1)->bI K W (gZ.map (·.2)) (fs.map (·.2))->(fs.lookup f=none/\gZ.lookup f=none)\/∃t v,fs.lookup f=some t/\gZ.lookup f=some v/\Rep K W v t
 |[],[],_,_=>.inl ⟨rfl,rfl⟩
 |[],_::_,e,_=>by cases e
 |_::_,[],e,_=>by cases e
 |(k1,v1)::gZ,(k2,t2)::fs,e,r=>by
  rw[bH,bH]at e;injection e with e1 e2
  have Np:k1=k2:=e1;subst Np;cases r with
  |cons hh r=>
   by_cases z:f=k1
   ·subst z;exact .inr ⟨t2,v1,by rw[cE,bX],by rw[cE,bX],hh⟩
   ·rw[cE,jT z,cE,jT z];exact nj f e2 r
section
variable {dt:Pos}{m:Str}{fd:FuncData}{k:Nat}
def vd(av m:Str)(h:List Tr->Rs Tr)(r:Rs Tr)(l:Rs (List Tr)):Rs Tr:=r.bind fun t=>match t with
 |.ob x fs=>if x=av/\DI fs m=true then l.bind fun ts=>h (.ob x fs::ts)else .bad
 |_=>.bad
theorem AJ{W:Vw}{gZ:List (Str×V)}(e:gZ.map (·.1)=bt.map (·.1))(r:bI K W (gZ.map (·.2)) (bt.map (·.2)))(hm:DI bt m=true):gZ.lookup m=none:=by
 rcases nj m e r with⟨_,z⟩|⟨t,v,z,_⟩
 ·exact z
 ·unfold DI at hm;rw[z]at hm;cases hm
theorem Sr(D:MethAt X.K av m ai ps au fd)(G:d5 X.prog X.w X.K X.mg X.base lX k au fd ps (spT X.K h))(hr:cV k X.A)(ho:PE X o (tP X F))(ha:PA X (e::az) (B7 X L)){pl:Sem Bool}(cz:bq (e::az)=true:=by rfl)
  (ht:eval (.Call (.Attribute o m b8) (e::az) [] pos) X.env=sP pos b8 o m (e::az) X.env pl:=by rfl):PE X (.Call (.Attribute o m b8) (e::az) [] pos) (tP X fun Y=>vd av m h (F Y) (L Y)):=
 (Fo (pl:=pl) ho D.cl D.mt G hr D.bd .nil Jz ha (cz:=bF _ _ (bc cz).1) (nZ:=cL (bc cz).2) ht).weak fun Z H Q ⟨B,Y,hb,r,q⟩=>⟨B,Y,hb,r,q.bind.mono fun t qt v H1 s1 rv=>by
  split at qt
  ·rename_i x fs;obtain⟨a,dx,gZ,rfl,hh,ek,rr⟩:=rv.An;split at qt
   ·rename_i z;obtain⟨rfl,hm⟩:=z;refine⟨a,dx,gZ,rfl,dX hh,AJ ek rr hm,B,Y,hb.same s1,r.same s1,(Fi.same (Fi.bind qt) s1).mono fun ts qs vs H2 s2 r2=>?_⟩;cases e:h (.ob x fs::ts)with
    |ok t=>
     rw[e]at qs;exact⟨B,.ob x fs::ts,hb.same (s1.trans s2),by
      show bI X.K (bV B H2) (V.ref a::(vs++[])) (.ob x fs::ts);rw[jQ];exact .cons ((Rep.ob hh ek rr).same (bE s2)) r2,t,e,fun v H3 s3 r3=>qs v H3 ((s1.trans s2).trans s3) r3⟩
    |exc av=>rw[e]at qs;exact(qs _ (ba.refl _)).elim
    |bad=>rw[e]at qs;exact fe qs
   ·exact qt.elim
  ·exact qt.elim⟩
theorem NV(D:MethAt X.K av m ai ps au fd)(G:d5 X.prog X.w X.K X.mg X.base lX k au fd ps (spT X.K h))(hr:cV k X.A)(ho:PE X o (tP X F)){pl:Sem Bool}
  (ht:eval (.Call (.Attribute o m b8) [] [] pos) X.env=sP pos b8 o m [] X.env pl:=by rfl):PE X (.Call (.Attribute o m b8) [] [] pos) (tP X fun Y=>vd av m h (F Y) (.ok [])):=
 (BP (pl:=pl) ho D.cl D.mt G hr D.bd .nil Jz ht).weak fun Z H Q ⟨B,Y,hb,r,q⟩=>⟨B,Y,hb,r,q.bind.mono fun t qt v H1 s1 rv=>by
  split at qt
  ·rename_i x fs;obtain⟨a,dx,gZ,rfl,hh,ek,rr⟩:=rv.An;split at qt
   ·rename_i z;have q1:Fi X H (h [.ob x fs]) _:=qt;obtain⟨rfl,hm⟩:=z;refine⟨a,dx,gZ,rfl,dX hh,AJ ek rr hm,?_⟩;cases e:h [.ob x fs]with
    |ok t=>
     rw[e]at q1;exact⟨B,[.ob x fs],hb.same s1,.cons (.ob hh ek rr) .nil,t,e,fun v H3 s3 r3=>q1 v H3 (s1.trans s3) r3⟩
    |exc av=>rw[e]at q1;exact(q1 _ (ba.refl _)).elim
    |bad=>rw[e]at q1;exact fe q1
   ·exact qt.elim
  ·exact qt.elim⟩
end
def xcZ(K:Frag)(B:eW)(H:Hp)(E:XK):Tr->Ab->Prop:=fun c A=>∀B' H',Grows B H B' H'->HA K B' A H'->E (Wc K c) none H'
inductive ve(K:Frag)(f:List Tr->Ab->Rz Tr)(vs:List V)(H:Hp)(Q:VK)(E:XK):Prop
 |mk (B:eW) (A:Ab) (ts:List Tr):HA K B A H->bI K (bV B H) vs ts->(gA (xcZ K B H E) (f ts A) fun t A'=>∀v B' H',Grows B H B' H'->HA K B' A' H'->Rep K (bV B' H') v t->Q v H')->ve K f vs H Q E
theorem d5.toZ {base:Heap}{k:Nat}{f:Addr}{fd:FuncData}(F:d5 P w K mg base lX k f fd ps (spT K h)):d5 P w K mg base (uF P w) k f fd ps (ve K fun ts A=>gs (h ts) A):=by
 have key:∀{vs:List V} {H:Hp} {Q:VK} {E:XK},ve K (fun ts A=>gs (h ts) A) vs H Q E->∀E',spT K h vs H Q E':=fun{vs H Q E} ⟨B,A,ts,ha,r,q⟩ E'=>by
  have q:gA (xcZ K B H E) (gs (h ts) A) _:=q;cases e:h ts with
  |ok t=>rw[e]at q;exact⟨B,ts,ha.hb,r,t,e,fun v H' s rv=>q v B H' (.of s) (ha.same s) rv⟩
  |_=>rw[e]at q;exact fe q
 refine⟨fun vs H Q E q=>F.len vs H Q E (key q E),fun A outer s H args us vs Q E hr e0 hb hv q=>?_⟩;refine hW (F.run A outer s H args us vs Q E hr e0 hb hv (key q E)) fun r s' z=>?_
 cases r with
 |error e=>exact fe z
 |ok fl=>
  cases fl with
  |_=>exact z
def cM(r:Rz Out):Rz Tr:=r.bind fun o A=>match o with
 |.nx _=>.ok .cu A
 |.ret t=>.ok t A
 |_=>.bad
theorem yF.okS {base:Heap}{qual:Str}{st:Stmt}{f:Addr}{fd:FuncData}{N:List Str}{k:Nat}{h:List Tr->Ab->Rz Tr}(Fn:yF K x qual st f fd)(S:gO N ps (bC st))(len:∀ts A,h ts A≠ .bad->ts.length=ps.length)
  (kE:∀(fH:Value) (A:Around) (outer:List Env) (s:Shared) (H:Hp) (E:XK),cV k (A.deeper (envOfC qual (bC st) s.heap.objs.size f fH))->
   ∃G,n_ (n5 (uF P w) P w K mg base N qual (bC st) f fH A outer s H E) (fF st) (tZ (n5 (uF P w) P w K mg base N qual (bC st) f fH A outer s H E) G)/\∀ts A,h ts A≠ .bad->h ts A=cM (G (startT N.length ts) A)):d5 P w K mg base (uF P w) (k+1) f fd ps (ve K h):=by
 obtain⟨oc,od,kV,doc,pm,an,fH,ct,Jm,rfl,lk,DL⟩:=Fn.ex;have nb:∀{B:eW} {A:Ab} {H:Hp} {E:XK} {ts:List Tr} {k:Tr->Ab->Prop},gA (xcZ K B H E) (h ts A) k->h ts A≠ .bad:=fun{B A H E ts k} q z=>by rw[z]at q;exact q
 refine Pb lk DL S (fun vs H Q E ⟨B,A,ts,ha,r,q⟩=>by rw[r.length];exact len ts A (nb q)) fun A outer s H vs Q E hr ⟨B,A1,ts,ha,r,q⟩=>?_
 obtain⟨G,hG,hE⟩:=kE fH A outer s H E hr;refine⟨_,hG,B,H,B,A1,startT N.length ts,ha.hb,.refl,ha,cB.start r,xC,?_⟩;rw[hE ts A1 (nb q)]at q;refine(gA.bind q).imp (fun c A2 z B' H' g jH e s x=>JT x (z B' H' g jH))|>.mono fun o A2 z=>?_
 cases o with
 |nx Y=>exact fun di B' H' g jH r' n'=>z .cu B' H' g jH .cu
 |ret t=>exact fun v B' H' g jH r'=>z v B' H' g jH r'
 |_=>exact fe z
def fG(n m:Nat)(G:bO->Ab->Rz Out)(ts:List Tr)(A:Ab):Rz Tr:=if ts.length=n then cM (G (startT m ts) A)else .bad
theorem CK{n:Nat}{A:Ab}(h:fG n i aJ ts A≠ .bad):ts.length=n:=by
 unfold fG at h;by_cases z:ts.length=n
 ·exact z
 ·rw[aW z]at h;exact absurd rfl h
theorem NW{m:Nat}{A:Ab}(h:fG i m aJ ts A≠ .bad):fG i m aJ ts A=cM (aJ (startT m ts) A):=by
 unfold fG;rw[aS (CK h)]
section
variable {h:List Tr->Ab->Rz Tr}{fd:FuncData}{k:Nat}
theorem Ey{B1:eW}{A1:Ab}{Q:VK}(hb:HB B H)(g:Grows B H B1 ac)(ha:HA X.K B1 A1 ac)(r:bI X.K (bV B1 ac) ar ts)(q:gA (XE X B H) (h ts A1) fun t A'=>∀v B' H',Grows B H B' H'->HA X.K B' A' H'->Rep X.K (bV B' H') v t->Q v H'):ve X.K h ar ac Q (EX X):=
 ⟨B1,A1,ts,ha,r,(q.imp fun c A' z=>z.grow hb g).mono fun t A' z v B' H' g' jH rv=>z v B' H' (g.trans hb g') jH rv⟩
theorem W6(D:zc X.K X.mg x ai ps au fd)(G:d5 X.prog X.w X.K X.mg X.base (uF X.prog X.w) k au fd ps (ve X.K h))(hr:cV k X.A)(ha:PA X (e::az) (Mm X aG))(hx:X.ex=[]:=by rfl) (hg:Gl X x:=by rfl) (fq:Db x:=by decide) (cz:bq (e::az)=true:=by rfl):
  PE X (.Call (.Name x p) (e::az) [] pos) (tE X fun Y A=>(aG Y A).bind h):=
 (Fm (p:=p) (pos:=pos) G hr hg D.mg D.fn.kp D.bd .nil (mC hx) ha (fq:=fq) (he:=bF _ _ (bc cz).1) (nZ:=cL (bc cz).2)).weak fun Z H Q ⟨B,A,Y,ha,r,n,q⟩=>⟨B,A,Y,ha,r,n,q.bind.mono fun ts A1 qt vs B1 H1 g1 mU r1=>by
  show ve X.K h (vs++[]) H1 Q (EX X);rw[jQ];exact Ey ha.hb g1 mU r1 qt⟩
variable {c m:Str}
def qX(c m:Str)(h:List Tr->Ab->Rz Tr)(r:Rz Tr)(l:Ab->Rz (List Tr)):Rz Tr:=r.bind fun t A=>match t with
 |.at i=>match A[i]? with
  |some (.ins x fs)=>if x=c/\DI fs m=true then(l A).bind fun ts A=>h (.at i::ts) A else .bad
  |_=>.bad
 |_=>.bad
theorem Gd{A:Ab}(ha:HA K B A H)(qP:B.ix a=some i)(e:A[i]?=some (.ins x bt))(hm:DI bt m=true):∃dx gZ,H a=some (.ins (clsAt K x) dx gZ)/\gZ.lookup m=none:=by
 obtain⟨_,dx,gZ,h1,_,_,h4,h5⟩:=ha.get qP e;refine⟨dx,gZ,h1,?_⟩;rcases nj m h4 h5 with⟨_,z⟩|⟨t,v,z,_⟩
 ·exact z
 ·unfold DI at hm;rw[z]at hm;cases hm
theorem Ss(D:MethAt X.K c m ai ps au fd)(G:d5 X.prog X.w X.K X.mg X.base (uF X.prog X.w) k au fd ps (ve X.K h))(hr:cV k X.A)(ho:PE X o (tE X aH))(ha:PA X (e::az) (Mm X aG)){pl:Sem Bool}(hx:X.ex=[]:=by rfl) (cz:bq (e::az)=true:=by rfl)
  (ht:eval (.Call (.Attribute o m b8) (e::az) [] pos) X.env=sP pos b8 o m (e::az) X.env pl:=by rfl):PE X (.Call (.Attribute o m b8) (e::az) [] pos) (tE X fun Y A=>qX c m h (aH Y A) (aG Y)):=
 (Fo (pl:=pl) ho D.cl D.mt G hr D.bd .nil (mC hx) ha (cz:=bF _ _ (bc cz).1) (nZ:=cL (bc cz).2) ht).weak fun Z H Q ⟨B,A,Y,ha,r,n,q⟩=>⟨B,A,Y,ha,r,n,q.bind.mono fun t A1 qt v B1 H1 g1 mU rv=>by
  split at qt
  ·obtain⟨a,rfl,qP⟩:=rv.m9;split at qt
   ·rename_i eo;obtain⟨⟨rfl,hm⟩,q2⟩:=g0 qt;obtain⟨dx,gZ,k1,k2⟩:=Gd mU qP eo hm;refine⟨a,dx,gZ,rfl,k1,k2,B1,A1,Y,mU,r.grow n g1,n,((gA.bind q2).imp fun c A' z=>z.grow ha.hb g1).mono fun ts A2 qs vs B2 H2 g2 pD rs=>?_⟩;show ve X.K h (.ref a::(vs++[])) H2 Q (EX X);rw[jQ];exact Ey ha.hb (g1.trans ha.hb g2) pD (.cons (.at (g2.jw.x _ _ qP)) rs) qs
   ·exact qt.elim
  ·exact qt.elim⟩
theorem NX(D:MethAt X.K c m ai ps au fd)(G:d5 X.prog X.w X.K X.mg X.base (uF X.prog X.w) k au fd ps (ve X.K h))(hr:cV k X.A)(ho:PE X o (tE X aH)){pl:Sem Bool}(hx:X.ex=[]:=by rfl)
  (ht:eval (.Call (.Attribute o m b8) [] [] pos) X.env=sP pos b8 o m [] X.env pl:=by rfl):PE X (.Call (.Attribute o m b8) [] [] pos) (tE X fun Y A=>qX c m h (aH Y A) fun A=>.ok [] A):=
 (BP (pl:=pl) ho D.cl D.mt G hr D.bd .nil (mC hx) ht).weak fun Z H Q ⟨B,A,Y,ha,r,n,q⟩=>⟨B,A,Y,ha,r,n,q.bind.mono fun t A1 qt v B1 H1 g1 mU rv=>by
  split at qt
  ·obtain⟨a,rfl,qP⟩:=rv.m9;split at qt
   ·rename_i eo;obtain⟨⟨rfl,hm⟩,q2⟩:=g0 qt;obtain⟨dx,gZ,k1,k2⟩:=Gd mU qP eo hm;refine⟨a,dx,gZ,rfl,k1,k2,?_⟩;show ve X.K h [.ref a] H1 Q (EX X);exact Ey ha.hb g1 mU (.cons (.at qP) .nil) q2
   ·exact qt.elim
  ·exact qt.elim⟩
end
abbrev bmV:List Value:=[.type "ValueError",.type "Exception",.type "BaseException",.type "object"]
structure qY(K:Frag)(mg:Str->Option Value)(x:Str):Prop where
 mg:mg x=some (.ref (clsAt K x))
 ex:PySem.W.excIn K (clsAt K x) bmV "ValueError.__new__"=true
theorem NY{h:Heap}{C:Addr}(X:K.In h)(q:PySem.W.excIn K C aq ay=true):
  ∃bm N nm qn bs hd sn sub ab col dd k0 k1 k2 k3 k5 mN,h.get? C=some (excClassObj nm qn C N bs bm hd sn sub ab col dd k0 k1 k2 k3 k5 ay)/\h.Ns N mN/\mN "__init__"=none/\OwnTail h aq bm:=by
 unfold PySem.W.excIn at q;split at q
 ·rename_i d0 cd sl ho;split at q
  ·rename_i C2 bm j0 j1 j2 j3 n j5 hm hs;simp only[bP,eV,oF]at q;obtain⟨⟨⟨⟨⟨e1,e2⟩,e3⟩,e4⟩,e5⟩,e6⟩:=q;subst e1 e2;obtain⟨nm,bs,mro,ns,qn,hd,sn,sub,ab,col,del⟩:=cd;have hm':mro=_:=hm;have Um:del=false:=e3;have e5':PySem.W.nsOkIn K ns=true:=e5;have e6':PySem.W.nsIn K ns "__init__"=some none:=e6;subst hm' Um;obtain⟨l⟩:=sl;have hs':l=_:=hs;subst hs';exact⟨bm,ns,nm,qn,bs,hd,sn,sub,ab,col,d0,j0,j1,j2,j3,j5,_,X _ _ ho,.of_isNs (PySem.W.isNs_of_in X e5'),PySem.W.nsMap_none_of_in X e5' e6',PySem.W.tail_of_in X e4⟩
  ·cases q
 ·cases q
section
variable {np:Pos}
def Ez(x:Str)(l:Rz (List Tr)):Rz Out:=l.bind fun ts A=>if ts.length<=e_ then .exc (.str x) A else .bad
theorem NZ(D:qY X.K X.mg x)(ha:PA X (e::az) (Mm X aG))(hx:X.ex=[]:=by rfl) (hc:X.calm=true:=by rfl) (hg:Gl X x:=by rfl) (fq:Db x:=by decide) (cz:bq (e::az)=true:=by rfl):
  PS X (.Raise (some (.Call (.Name x np) (e::az) [] b8)) none pos) (tZ X fun Y A=>Ez x (aG Y A)):=by
 intro U s Z H D' I ⟨B0,H0,B,A,Y,hb,g,hA,r,n,q⟩;obtain⟨bm,N,nm,qn,bs,hd,sn,sub,ab,col,dd,k0,k1,k2,k3,k5,mN,hC,hN,hni,T⟩:=NY (h:=X.base) I.ok.mod.O2 D.ex;have W7:starEach (e::az) X.env=(false,eval e X.env)::starEach az X.env:=bF _ _ (bc cz).1;have nZ:(backTo b8 (starEach az X.env)).any (·.1)=false:=cL (bc cz).2;refine wpAny_Raise_call_subU (C:=clsAt X.K x) (nm:=nm) (q:=qn) (N:=N) (bs:=bs) (bm:=bm) (hdct:=hd) (sn:=sn) (sub:=sub) (ab:=ab) (col:=col) (dd:=dd) (k0:=k0) (k1:=k1) (k2:=k2) (k3:=k3) (k5:=k5)
  BG (by decide+kernel) BG (mN:=mN) (T.hasType (by decide+kernel)) (I.ok.hd hc) (by rw[W7];show(false||(backTo b8 (starEach az X.env)).any (·.1))=false;rw[nZ];rfl) hni
  (p_ I hg D.mg ⟨rfl,?_⟩ fq)
 have hA2:=ha b8 U s Z H (fun vs H2=>vs.length<=sizeLine/\EX X (.ref (clsAt X.K x)) none H2) I ⟨B,A,Y,hA,r,n,((gA.bind q).imp fun c A' z=>z.grow hb g).mono fun ts A2 qt vs B2 H2 g2 pD rs=>by
  obtain⟨hl,q2⟩:=g0 qt;exact⟨by rw[rs.length,<-iE];exact hl,(show XE X B0 H0 (.str x) A2 from q2) B2 H2 (g.trans hb g2) pD⟩⟩
 rw[W7]at hA2⊢;refine m3 (d7 hA2 fun us s2 ⟨vs,H2,I2,rv,hl,hE⟩=>⟨rfl,by rw[<-rv.length];exact hl,I2.bk _ _ hC,hN.keeps I2.bk,T.keeps I2.bk,fun h' a hm=>hE _ _ ?_⟩);obtain⟨t,e1,e2,e3⟩:=hm.there;refine⟨a,U,Z,s2.heap,rfl,I2.kept (t':=s2.toks) hm.keeps,⟨⟨_,_,_,e1,rfl,rfl,rfl,.inl rfl⟩,?_,hm.new⟩,fun b n=>I2.Cn hx n,fun p hp=>⟨_,(I2.pin p (jO _ hp)).1⟩,fun b nb=>by
  cases z:s2.heap.get? b with
  |none=>rfl
  |some o=>rw[hm.keeps b o z]at nb;cases nb⟩
 cases z:H2 a with
 |none=>rfl
 |some o=>
  obtain⟨u,e4⟩:=(I2.cP a o z).get;rw[hm.new]at e4;cases e4
end
theorem HR{n:Nat}{env:Env}:swapsWith e (some (.Subscript o tg p)) n env=pure false:=by cases e<;>rfl
theorem HS{f:Str}{env:Env}:swapsWith e (some (.Attribute o f p)) i env=pure false:=by cases e<;>rfl
def zD(f:Str)(t:Tr):List (Str×Tr)->List (Str×Tr)
 |[]=>[(f,t)]
 |(g,x)::r=>if g=f then(g,t)::r else(g,x)::zD f t r
theorem CL{W:Vw}{f:Str}{v:V}{t:Tr}(rv:Rep K W v t):∀{gZ:List (Str×V)} {fs:List (Str×Tr)},gZ.map (·.1)=fs.map (·.1)->bI K W (gZ.map (·.2)) (fs.map (·.2))->(mq f v gZ).map (·.1)=(zD f t fs).map (·.1)/\bI K W ((mq f v gZ).map (·.2)) ((zD f t fs).map (·.2))
 |[],[],_,_=>⟨rfl,.cons rv .nil⟩
 |[],_::_,e,_=>by cases e
 |_::_,[],e,_=>by cases e
 |(k1,v1)::gZ,(k2,t2)::fs,e,r=>by
  rw[bH,bH]at e;injection e with e1 e2
  have Np:k1=k2:=e1;subst Np;cases r with
  |cons hh r=>
   unfold mq zD;by_cases z:k1=f
   ·rw[aS z,aS z];exact⟨by rw[bH,bH,e2],.cons rv r⟩
   ·rw[aW z,aW z];obtain⟨p1,p2⟩:=CL rv e2 r;exact⟨by rw[bH,bH,p1],.cons hh p2⟩
theorem lookup_some{W:Vw}{gZ:List (Str×V)}{t:Tr}(h:gZ.map (·.1)=bt.map (·.1))(r:bI K W (gZ.map (·.2)) (bt.map (·.2)))(e:bt.lookup x=some t):∃v,gZ.lookup x=some v/\Rep K W v t:=by
 rcases nj x h r with⟨z,_⟩|⟨t',v,z,ev,rv⟩
 ·cases e.symm.trans z
 ·cases e.symm.trans z;exact⟨v,ev,rv⟩
structure iA(K:Frag)(xs:List Str)(f:Str):Prop where
 all:∀x∈xs,DV K (clsAt K x)/\rD K (clsAt K x) f
section
variable {f:Str}
def jJ(ps:List Str)(f:Str):Tr->Rs Tr
 |.ob x fs=>if ps.contains x=true then kS (fs.lookup f)else .bad
 |_=>.bad
theorem Su(T:iA X.K ps f)(he:PE X e (tP X F))(hb:attributeBase e f X.env (eval e X.env)=eval e X.env:=by first|exact gb rfl|rfl):PE X (.Attribute e f pos) (tP X fun Y=>(F Y).bind (jJ ps f)):=
 (Jj he hb).weak fun Z H Q ⟨B,Y,hb,r,q⟩=>⟨B,Y,hb,r,q.bind.mono fun t qt v H1 s1 rv=>by
  unfold jJ at qt;split at qt
  ·obtain⟨a,dx,gZ,rfl,h,ek,rr⟩:=rv.An;split at qt
   ·rename_i hx;obtain⟨t,et,k⟩:=gc qt;have c:=T.all _ (eO.mp hx);obtain⟨v,ev,rv⟩:=lookup_some ek rr et;exact⟨a,_,dx,gZ,v,rfl,dX h,c.1,c.2,ev,k v H1 s1 rv⟩
   ·exact qt.elim
  ·exact qt.elim⟩
def vB(ps:List Str)(f:Str)(r:Rz Tr):Rz Tr:=r.bind fun t A=>match t with
 |.at i=>match A[i]? with
  |some (.ins x fs)=>if ps.contains x=true then gs (kS (fs.lookup f)) A else .bad
  |_=>.bad
 |_=>.bad
theorem Sv(T:iA X.K ps f)(he:PE X e (tE X aI))(hb:attributeBase e f X.env (eval e X.env)=eval e X.env:=by first|exact gb rfl|rfl):PE X (.Attribute e f pos) (tE X fun Y A=>vB ps f (aI Y A)):=
 (Jj he hb).weak fun Z H Q ⟨B,A,Y,ha,r,n,q⟩=>⟨B,A,Y,ha,r,n,q.bind.mono fun t A1 qt v B1 H1 g1 mU rv=>by
  split at qt
  ·obtain⟨a,rfl,qP⟩:=rv.m9;split at qt
   ·rename_i eo;obtain⟨hx,q2⟩:=g0 qt;obtain⟨_,dx,gZ,h1,_,_,h4,h5⟩:=mU.get qP eo;have c:=T.all _ (eO.mp hx);obtain⟨t,et,k⟩:=gc (mD (X:=X) (H:=H1) q2);obtain⟨v,ev,rv⟩:=lookup_some h4 h5 et;exact⟨a,_,dx,gZ,v,rfl,h1,c.1,c.2,ev,k v B1 H1 g1 mU rv⟩
   ·exact qt.elim
  ·exact qt.elim⟩
def W8(ps:List Str)(f:Str)(v:Rz Tr)(o:Ab->Rz Tr)(Y:bO):Rz Out:=v.bind fun tv A=>(o A).bind fun t A=>match t with
 |.at i=>match A[i]? with
  |some (.ins x fs)=>if ps.contains x=true/\fs.length<1000 then .ok (.nx Y) (A.set i (.ins x (zD f tv fs)))else .bad
  |_=>.bad
 |_=>.bad
theorem W9(T:iA X.K ps f)(ho:PE X o (tE X aI))(hv:PE X tg (tE X aH)):PS X (.Assign [.Attribute o f p] tg pos) (tZ X fun Y A=>W8 ps f (aH Y A) (aI Y) Y):=
 (QL ho hv HS).weak fun D Z H ⟨B0,H0,B,A,Y,hb,g,ha,r,n,q⟩=>pC hb g ha r n q.bind fun tv A1 v B1 H1 q1 g1 mU r1 rv _=>pC hb g1 mU r1 n (gA.bind q1) fun t A2 w B2 H2 q2 g2 pD r2 o9 g12=>by
  split at q2
  ·obtain⟨a,rfl,qP⟩:=o9.m9;split at q2
   ·rename_i i _ x fs eo;obtain⟨⟨hx,hl⟩,q3⟩:=g0 q2;obtain⟨hd,dx,gZ,h1,h2,h3,h4,h5⟩:=pD.get qP eo;have c:=T.all x (eO.mp hx);have b9:gZ.length=fs.length:=by have:=cQ List.length h4;rw[bj,bj]at this;exact this
    obtain⟨p1,p2⟩:=CL (f:=f) (rv.same g12.jw) h4 h5;have hdx:dx≠a:=fun z=>by rw[z,show B2.ix a=some i from qP]at h3;cases h3
    obtain⟨g3,h6⟩:=pD.write (o:=.ins x (zD f tv fs)) (u:=.ins (clsAt X.K x) dx (mq f v gZ)) qP ⟨hd,dx,_,bG,by rw[bb hdx];exact h2,h3,p1,by rw[i_ hd];exact p2⟩;exact⟨a,_,dx,gZ,rfl,h1,c.1,c.2,by rw[b9];exact hl,q3 Z B2 _ (g2.trans hb g3) h6 (r2.grow n g3) n⟩
   ·exact q2.elim
  ·exact q2.elim
end
theorem N0{xc:Tr->Ab->Prop}{r:Rs Tr}{A:Ab}{k:Tr->Ab->Prop}(q:gA xc (rW r A) k):Fi X H r fun t=>IK t=true/\k t A:=by
 cases r with
 |ok t=>exact g0 q
 |exc c=>exact fe q
 |bad=>exact q
section
variable {a b i:Expr}{E:bO->Ab->Rz Tr}{h:Tr->Tr->Rs Tr}
def N1(h:Tr->Tr->Rs Tr)(a:Rz Tr)(b:Ab->Rz Tr):Rz Tr:=a.bind fun x A=>(b A).bind fun y A=>rW (h (aU 1 A x) (aU 1 A y)) A
theorem HU{Q:VK}(q:tE X (fun Y A=>N1 h (aH Y A) (aI Y)) Z H Q):Qu (rT X h) (tE X aH) (tE X aI) Z H Q:=by
 obtain⟨B,A,Y,ha,r,n,q⟩:=q;refine⟨B,A,Y,ha,r,n,q.bind.mono fun x A1 qx v B1 H1 g1 mU rv=>⟨B1,A1,Y,mU,r.grow n g1,n,((gA.bind qx).imp fun c A' z=>z.grow ha.hb g1).mono fun y A2 qy u B2 H2 g2 pD ru=>?_⟩⟩;refine⟨B2.un,aU 1 A2 x,aU 1 A2 y,Ck pD.hb,jl pD 1 (rv.same g2.jw),jl pD 1 ru,(N0 qy).mono fun t ⟨ft,k⟩ w H3 s3 o9=>?_⟩;exact k w B2 H3 ((g1.trans ha.hb g2).trans ha.hb (.of s3)) (pD.same s3) (zt (pD.same s3) o9 ft)
theorem aau(hu:X.A.units+1<cLine)(h1:PE X a (tE X aH))(h2:PE X b (tE X aI))(hs:sX b:=by exact fun _ _=>rfl):PE X (.Subscript a b pos) (tE X fun Y A=>N1 jI (aH Y A) (aI Y)):=(Pc (V5 hu) h1 h2 hs).weak fun _ _ _ q=>HU q
def CM(A:Ab)(t tk tv:Tr):Option Ab:=match t,jW tk with
 |.at i,some k=>match A[i]? with
  |some (.bT bt)=>if bt.length<e_ then some (A.set i (.bT (lJ bt k tv)))else none
  |_=>none
 |_,_=>none
def Sw(v:Rz Tr)(o k:Ab->Rz Tr)(Y:bO):Rz Out:=v.bind fun tv A=>(o A).bind fun t A=>(k A).bind fun tk A=>match CM A t tk tv with
 |some A'=>.ok (.nx Y) A'
 |none=>.bad
theorem dQ.length {W:Vw}{kvs:List (Key×V)}{bt:List (Key×Tr)}(h:dQ K W kvs bt):kvs.length=bt.length:=by
 have e:=cQ List.length h.keys;rw[bj,bj]at e;exact e
theorem EA{A A':Ab}{tk tv:Tr}(e:CM A aB tk tv=some A'):∃j bt key,aB=.at j/\jW tk=some key/\A[j]?=some (.bT bt)/\bt.length<e_/\A'=A.set j (.bT (lJ bt key tv)):=by
 unfold CM at e;split at e
 ·rename_i ek;split at e
  ·rename_i eo;split at e
   ·rename_i hl;cases e;exact⟨_,_,_,rfl,ek,eo,hl,rfl⟩
   ·cases e
  ·cases e
 ·cases e
theorem Sx(hu:X.A.units+1<cLine)(ho:PE X o (tE X aH))(hi:PE X i (tE X aI))(hv:PE X tg (tE X E)):
  PS X (.Assign [.Subscript o i p] tg pos) (tZ X fun Y A=>Sw (E Y A) (aH Y) (aI Y) Y):=
 (MZ hu ho hi hv HR).weak fun D Z H ⟨B0,H0,B,A,Y,hb,g,ha,r,n,q⟩=>pC hb g ha r n q.bind fun tv A1 v B1 H1 q1 g1 mU r1 rv _=>pC hb g1 mU r1 n (gA.bind q1) fun t A2 w B2 H2 q2 g2 pD r2 o9 g12=>pC hb g2 pD r2 n (gA.bind q2) fun tk A3 y B3 H3 q3 g3 F3 r3 ry g23=>by
  have rw3:=o9.same g23.jw;have Y_:=(rv.same g12.jw).same g23.jw;split at q3
  ·rename_i ed;obtain⟨j,bt,key,rfl,ek,eo,hl,rfl⟩:=EA ed;obtain⟨c,rfl,qP⟩:=rw3.m9;obtain⟨hd,kvs,h1,h2⟩:=F3.get qP eo;cases m_ ry ek;obtain⟨g4,h6⟩:=F3.write (o:=.bT (lJ bt key tv)) (u:=.dK (putK kvs key v)) qP ⟨hd,_,bG,by rw[i_ hd];exact h2.put key Y_⟩;exact⟨c,_,rfl,D3.k h1 (by rw[h2.length,<-iE];exact hl),q3 Z B3 _ (g3.trans hb g4) h6 (r3.grow n g4) n⟩
  ·exact q3.elim
end
def h_(bt:List (Key×Tr))(k:Key):List (Key×Tr):=bt.filter fun kv=>decide (kv.1≠k)
theorem dQ.drop {W:Vw}(k:Key):∀{kvs:List (Key×V)} {bt:List (Key×Tr)},dQ K W kvs bt->dQ K W (qR kvs k) (h_ bt k)
 |[],[],_=>.nil
 |[],_::_,h=>by cases h.keys
 |_::_,[],h=>by cases h.keys
 |(k1,v1)::kvs,bt,h=>by
  obtain⟨t,r,rfl,rv,hr⟩:=h.inv;have ih:=dQ.drop k hr;unfold qR h_ at ih⊢;by_cases z:k1=k
  ·rw[jM (by simp[z]),jM (by simp[z])];exact ih
  ·rw[kX (by simp[z]),kX (by simp[z])];exact .cons rv ih
def mF(A:Ab)(i:Nat):Bool:=match A[i]? with
 |some (.bT _)=>true
 |_=>false
theorem qw{A:Ab}(ha:HA K B A H)(e:B.ix a=some i)(h:mF A i=true):∃bt kvs,A[i]?=some (.bT bt)/\B.hd a=true/\H a=some (.dK kvs)/\dQ K (bV B H) kvs bt:=by
 obtain⟨o,eo,ao⟩:=ha.ex e;unfold mF at h;rw[eo]at h;cases o with
 |bT bt=>obtain⟨hd,kvs,h1,h2⟩:=ao;exact⟨bt,kvs,eo,hd,h1,h2⟩
 |_=>cases h
def dkZ{α:Type}(o:Rz Tr)(k:Ab->Rz Tr)(f:Nat->Key->Ab->Rz α):Rz α:=o.bind fun t A=>match t with
 |.at i=>if mF A i=true then(k A).bind fun tk A=>match jW tk with
  |some key=>f i key A
  |none=>.bad
  else .bad
 |_=>.bad
def n8(A:Ab)(i:Nat):List (Key×Tr):=match A[i]? with
 |some (.bT bt)=>bt
 |_=>[]
def Kq(o:Rz Tr)(k:Ab->Rz Tr):Rz Tr:=dkZ o k fun i key A=>if mF A i=true then match eN (n8 A i) key with
 |some v=>.ok v (A.set i (.bT (h_ (n8 A i) key)))
 |none=>.bad
 else .bad
section
variable {dt:Pos}{E:bO->Ab->Rz Tr}
theorem AK{A:Ab}{bt:List (Key×Tr)}(h:A[i]?=some (.bT bt)):n8 A i=bt:=by unfold n8;rw[h]
theorem Sy(ho:PE X o (tE X aH))(he:PE X e (tE X aI))(hb:isCall o=false:=by rfl) (cz:bq [e]=true:=by rfl) (hl:(b8.endLine==dt.line)=true:=by rfl):PE X (.Call (.Attribute o "pop" b8) [e] [] dt) (tE X fun Y A=>Kq (aH Y A) (aI Y)):=
 (Jw ho he (Pq hb cz hl)).weak fun Z H Q ⟨B,A,Y,ha,r,n,q⟩=>⟨B,A,Y,ha,r,n,q.bind.mono fun t A1 qt v B1 H1 g1 mU rv=>by
  split at qt
  ·obtain⟨a,rfl,qP⟩:=rv.m9;rename_i i;obtain⟨hd,q2⟩:=g0 qt;obtain⟨bt,kvs,e1,e2,e3,e4⟩:=qw mU qP hd;refine⟨a,rfl,.inl ⟨_,.inl e3⟩,B1,A1,Y,mU,r.grow n g1,n,((gA.bind q2).imp fun c A' z=>z.grow ha.hb g1).mono fun tk A2 qk y B2 H2 g2 pD ry=>?_⟩;have AL:=g2.jw.x _ _ qP;cases ek:jW tk with
   |none=>simp only[ek]at qk;exact fe qk
   |some key=>
    simp only[ek]at qk;obtain⟨hd2,q3⟩:=g0 qk;obtain⟨Sz,Kr,f1,f2,f3,f4⟩:=qw pD AL hd2;rw[AK f1]at q3;have ey:=m_ ry ek;subst ey;rcases qg key f4.keys f4.vals with⟨z,_⟩|⟨t,w,z,ev,o9⟩
    ·simp only[z]at q3;exact fe q3
    ·simp only[z]at q3;obtain⟨g4,h6⟩:=pD.write (o:=.bT (h_ Sz key)) (u:=.dK (qR Kr key)) AL ⟨f2,_,bG,by rw[i_ f2];exact f4.drop key⟩;exact⟨Kr,key,w,f3,rfl,ev,q3 w B2 _ ((g1.trans ha.hb g2).trans ha.hb g4) h6 (by rw[i_ f2];exact o9)⟩
  ·exact qt.elim⟩
def Ks(o:Rz Tr)(k x:Ab->Rz Tr):Rz Tr:=dkZ o k fun i key A=>(x A).bind fun tx A=>if mF A i=true then match eN (n8 A i) key with
 |some v=>.ok v (A.set i (.bT (h_ (n8 A i) key)))
 |none=>.ok tx A
 else .bad
theorem SA(ho:PE X o (tE X aH))(he:PE X e (tE X aI))(hf:PE X tg (tE X E))(hb:isCall o=false:=by rfl) (cz:bq [e,tg]=true:=by rfl) (hl:(b8.endLine==dt.line)=true:=by rfl):PE X (.Call (.Attribute o "pop" b8) [e,tg] [] dt) (tE X fun Y A=>Ks (aH Y A) (aI Y) (E Y)):=
 (Jx ho he hf (Pt hb cz hl)).weak fun Z H Q ⟨B,A,Y,ha,r,n,q⟩=>⟨B,A,Y,ha,r,n,q.bind.mono fun t A1 qt v B1 H1 g1 mU rv=>by
  split at qt
  ·obtain⟨a,rfl,qP⟩:=rv.m9;rename_i i;obtain⟨hd,q2⟩:=g0 qt;obtain⟨bt,kvs,e1,e2,e3,e4⟩:=qw mU qP hd;refine⟨a,rfl,.inl ⟨_,.inl e3⟩,B1,A1,Y,mU,r.grow n g1,n,((gA.bind q2).imp fun c A' z=>z.grow ha.hb g1).mono fun tk A2 qk y B2 H2 g2 pD ry=>?_⟩;have Y':=g1.trans ha.hb g2;cases ek:jW tk with
   |none=>simp only[ek]at qk;exact fe qk
   |some key=>
    simp only[ek]at qk;refine⟨B2,A2,Y,pD,r.grow n Y',n,((gA.bind qk).imp fun c A' z=>z.grow ha.hb Y').mono fun tx A3 qx z B3 H3 g3 F3 rz=>?_⟩;have W_:=g3.jw.x _ _ (g2.jw.x _ _ qP);obtain⟨hd3,q3⟩:=g0 qx;obtain⟨aav,Xa,f1,f2,f3,f4⟩:=qw F3 W_ hd3;rw[AK f1]at q3;have ey:=m_ ry ek;subst ey;refine⟨Xa,key,f3,rfl,fun w ev=>?_,fun ev=>?_⟩
    ·rcases qg key f4.keys f4.vals with⟨_,z2⟩|⟨t,w2,z2,Xb,o9⟩
     ·rw[ev]at z2;cases z2
     ·rw[ev]at Xb;cases Xb;simp only[z2]at q3;obtain⟨g4,h6⟩:=F3.write (o:=.bT (h_ aav key)) (u:=.dK (qR Xa key)) W_ ⟨f2,_,bG,by rw[i_ f2];exact f4.drop key⟩;exact q3 w B3 _ ((Y'.trans ha.hb g3).trans ha.hb g4) h6 (by rw[i_ f2];exact o9)
    ·rcases qg key f4.keys f4.vals with⟨z1,_⟩|⟨t,w2,z2,Xb,_⟩
     ·simp only[z1]at q3;exact q3 z B3 H3 (Y'.trans ha.hb g3) F3 rz
     ·rw[ev]at Xb;cases Xb
  ·exact qt.elim⟩
variable {c:Str}{h:List Tr->Ab->Rz Tr}{fa:Addr}{fd:FuncData}{k:Nat}
def xR(c:Str)(h:List Tr->Ab->Rz Tr)(l:Rz (List Tr)):Rz Tr:=l.bind fun ts A=>(h (.at A.length::ts) (A++[.ins c []])).bind fun t A'=>if YW t=true then .ok (.at A.length) A' else .bad
structure xT(K:Frag)(mg:Str->Option Value)(c:Str)(ps:List Str)(fa:Addr)(fd:FuncData):Prop where
 Xc:Mk K (clsAt K c) fa
 bd:Binds K fd ps []
 mg:mg c=some (.ref (clsAt K c))
theorem Ge{B1:eW}{A1:Ab}{vs:List V}{ts:List Tr}{Q:VK}(hb:HB B H)(g:Grows B H B1 ac)(ha:HA X.K B1 A1 ac)(rs:bI X.K (bV B1 ac) vs ts)
  (q:gA (XE X B H) ((h (.at A1.length::ts) (A1++[.ins c []])).bind fun t A'=>if YW t=true then .ok (.at A1.length) A' else .bad) fun t A'=>∀v B' H',Grows B H B' H'->HA X.K B' A' H'->Rep X.K (bV B' H') v t->Q v H')
  (x dx:Addr) (h1:ac x=none) (h2:ac dx=none) (h3:dx≠x):ve X.K h (.ref x::vs) (upd (upd ac dx (.own x)) x (.ins (clsAt X.K c) dx [])) (fun v H2=>v=.cu/\Q (.ref x) H2) (EX X):=by
 have s1:ba ac (upd (upd ac dx (.own x)) x (.ins (clsAt X.K c) dx [])):=((ba.upd h2).trans (ba.upd (by rw[bb (Ne.symm h3)];exact h1)));obtain⟨g1,mU⟩:=ha.push (p:=x) (o:=.ins c []) h1 s1 ⟨qi,dx,[],bG,by rw[bb h3,bG],by rw[h8 h3];exact ha.free h2,rfl,.nil⟩;refine⟨_,_,_,mU,.cons (.at hZ) (rs.same g1.jw),((gA.bind q).imp fun c A' z=>z.grow hb (g.trans hb g1)).mono fun t A' z v B' H' g' jH rv=>?_⟩;obtain⟨hn,z2⟩:=g0 z;refine⟨?_,z2 (.ref x) B' H' ((g.trans hb g1).trans hb g') jH (.at (g'.jw.x _ _ hZ))⟩;have e:=FQ rv;rw[hn]at e;exact ee e
theorem SD(D:xT X.K X.mg c ps fa fd)(aI:d5 X.prog X.w X.K X.mg X.base (uF X.prog X.w) k fa fd ps (ve X.K h))(hr:cV (k+1) X.A)(ha:PA X (e::az) (Mm X aG))(hx:X.ex=[]:=by rfl) (hg:Gl X c:=by rfl) (fq:Db c:=by decide) (cz:bq (e::az)=true:=by rfl):
  PE X (.Call (.Name c p) (e::az) [] pos) (tE X fun Y A=>xR c h (aG Y A)):=
 (ML (p:=p) (pos:=pos) D.Xc aI hr hg D.mg D.bd .nil (mC hx) ha (fq:=fq) (he:=bF _ _ (bc cz).1) (nZ:=cL (bc cz).2)).weak fun Z H Q ⟨B,A,Y,ha,r,n,q⟩=>⟨B,A,Y,ha,r,n,q.bind.mono fun ts A1 qt vs B1 H1 g1 mU rs x dx h1 h2 h3=>by
  show ve X.K h (.ref x::(vs++[])) _ _ _;rw[jQ];exact Ge ha.hb g1 mU rs qt x dx h1 h2 h3⟩
theorem N2(D:xT X.K X.mg c ps fa fd)(aI:d5 X.prog X.w X.K X.mg X.base (uF X.prog X.w) k fa fd ps (ve X.K h))(hr:cV (k+1) X.A)(hx:X.ex=[]:=by rfl) (hg:Gl X c:=by rfl) (fq:Db c:=by decide):
  PE X (.Call (.Name c p) [] [] pos) (tE X fun _ A=>xR c h (.ok [] A)):=
 (Jl (p:=p) (pos:=pos) D.Xc aI hr hg D.mg D.bd .nil (mC hx) (fq:=fq)).weak fun Z H Q ⟨B,A,Y,ha,r,n,q⟩ x dx h1 h2 h3=>Ge (vs:=[]) (ts:=[]) ha.hb .refl ha .nil q x dx h1 h2 h3
end
theorem N3(ok:X.Ok):∀b∈X.fs,b∈jG X.stack:=fun b hb=>by
 rcases ok.Mh with e|⟨e,_⟩
 ·rw[e];exact hb
 ·rw[e];obtain⟨v,hv,hf⟩:=k_.mp hb;exact k_.mpr ⟨v,b_ _ hv,hf⟩
theorem Inv.SE {h':Heap}{hs:List Addr}(I:Inv X U Z H s)(hx:X.ex=[])
  (kp:∀b o,b∉hs->b∉jG X.stack->s.heap.get? b=some o->h'.get? b=some o) (sl:∀b o,b∈jG X.stack->s.heap.get? b=some o->∃sl,h'.get? b=some {o with slots:=sl})
  (hn:∀b∈hs,H b=none/\X.f9.heap.get? b=none/\(∀p∈X.pn++U,p.1≠b)/\((∃o ws,s.heap.get? b=some o/\o.data=.fields ws)\/s.heap.get? b=none)):Inv X U Z H {s with heap:=h'}:=by
 have nex:∀b:Addr,b∉X.ex:=fun b=>by rw[hx];simp
 have any:∀b o,b∉hs->s.heap.get? b=some o->∃sl,h'.get? b=some {o with slots:=sl}:=fun b o nb e=>by
  by_cases m:b∈jG X.stack
  ·exact sl b o m e
  ·exact⟨o.slots,kp b o nb m e⟩
 have hsF:∀b o,s.heap.get? b=some o->(∀ws,o.data≠ .fields ws)->b∉hs:=fun b o e d m=>by
  rcases(hn b m).2.2.2 with⟨o2,ws,e2,d2⟩|e2
  ·rw[e]at e2;cases e2;exact d ws d2
  ·rw[e]at e2;cases e2
 have cellK:∀c v,s.heap.IsCell c v->h'.IsCell c v:=fun c v ⟨o,ho,hd⟩=>by
  obtain⟨s1,e1⟩:=any c o (hsF c o ho fun ws z=>by rw[hd]at z;cases z) ho;exact⟨_,e1,hd⟩
 have old:∀b o,X.f9.heap.get? b=some o->b∉hs:=fun b o e m=>by rw[(hn b m).2.1]at e;cases e
 refine⟨I.ok,I.os,I.bare,⟨fun b o e n hb _=>?_,fun b o e n hb _=>?_,I.base.free,fun b o e _=>?_,I.base.mn,I.base.kT,I.base.m6⟩,?_,fun x c e=>?_,I.free,I.fI,fun p hp=>?_,fun b u e=>?_,I.len⟩
 ·refine kp b o (old b o e) (fun m=>?_) (I.base.keep b o e n hb (nex b));rcases bB.mp (I.wO b m)with z|z
  ·exact absurd (cU (bp e) I.ok.above) (by rw[z];exact eC _)
  ·exact hb z
 ·obtain⟨s1,e1⟩:=I.base.slot b o e n hb (nex b);obtain⟨s2,e2⟩:=sl b _ (N3 I.ok b hb) e1;exact⟨s2,e2⟩
 ·obtain⟨o1,e1⟩:=I.base.there b o e (nex b);obtain⟨s2,e2⟩:=any b o1 (old b o e) e1;exact⟨_,e2⟩
 ·obtain⟨m,hm,hl⟩:=I.loc;refine⟨m,?_,fun i x v e1 e2 e3=>?_⟩
  ·obtain⟨o,es,ep,ho,hd,r⟩:=hm;obtain⟨s1,e1⟩:=any _ o (hsF _ o ho fun ws z=>by rw[hd]at z;cases z) ho;exact⟨_,es,ep,e1,hd,r⟩
  ·obtain⟨u,r,l⟩:=hl i x v e1 e2 e3;refine⟨u,r,?_⟩;rcases l with l|⟨k,c,e,z⟩
   ·exact .inl l
   ·exact .inr ⟨k,c,e,cellK c _ z⟩
 ·obtain⟨v,z⟩:=I.cell x c e;exact⟨v,cellK c v z⟩
 ·obtain⟨e,n,ne,nf,d⟩:=I.pin p hp;refine⟨kp p.1 p.2 (fun m=>(hn _ m).2.2.1 p hp rfl) (fun m=>?_) e,n,ne,nf,d⟩;rcases bB.mp (I.wO _ m)with z|z
  ·exact ne z
  ·exact nf z
 ·refine(I.cP b u e).o6 (fun c v hc q=>kp c v (fun m=>?_) (fun m=>?_) q) (fun _ q=>q) fun _ _ q=>q
  ·have n:=(hn c m).1;rcases hc with rfl|hc
   ·rw[n]at e;cases e
   ·rw[n]at hc;cases hc
  ·have n:=I.vJ c m;rcases hc with rfl|hc
   ·rw[n]at e;cases e
   ·rw[n]at hc;cases hc
def Xd(h0:Heap)(H:Hp)(h:Heap)(a:Addr)(cls:Value):Prop:=∃oe vs a0 T oT ts,h.get? a=some oe/\oe.cls=cls/\oe.data=.fields vs/\vs[0]?=some a0/\vs[1]?=some (.ref T)/\T≠a/\h0.get? T=none/\H T=none/\h.get? T=some oT/\oT.data=.fields ts/\ts[3]?=some .none
structure Mp(X:Cx)(h0:Heap)(Z:St)(H:Hp)(s:Shared)(a:Addr)(cls:Value):Prop where
 inv:Inv X [] Z H s
 F1:Pz h0 H s.heap a cls
 old:∀b,h0.get? b=none->X.f9.heap.get? b=none
 pn:∀p∈X.pn,∃o,h0.get? p.1=some o
 gr:∀b,s.heap.get? b=none->h0.get? b=none
theorem XS.cau {cls e:Value}(x:XS X H cls e s):∃a Z h0,e=.ref a/\Mp X h0 Z H s a cls:=by
 obtain⟨a,U,Z,h0,rfl,I,F1,old,pn,gr⟩:=x;exact⟨a,Z,h0,rfl,I.jV (fun p hp=>I.pin p (jO _ (by simpa using hp))),F1,old,pn,gr⟩
theorem Mp.step {h0:Heap}{cls a0:Value}{h':Heap}{hs:List Addr}(C:Mp X h0 Z H s a cls)(hx:X.ex=[])(ha:a∈hs)(hh:∀b∈hs,H b=none/\h0.get? b=none/\∃o ws,s.heap.get? b=some o/\o.data=.fields ws)
  (k1:(PySem.W.hideAll s.heap (hs++jG X.stack)).StaysIn h') (k4:∀b o,s.heap.get? b=some o->(∀ws,o.data≠ .fields ws)->∃sl,h'.get? b=some {o with slots:=sl})
  (k3:h'.TracedW (PySem.W.hideAll s.heap (hs++jG X.stack)) a cls a0) (fr':∀b∈jG X.stack,∃o,h'.get? b=some o/\∀ws,o.data≠ .fields ws):Mp X h0 Z H {s with heap:=h'} a cls/\Xd h0 H h' a cls:=by
 have hk:=C.inv.stack;have Uu:∀L∈jG X.stack,∃o,s.heap.get? L=some o/\∀ws,o.data≠ .fields ws:=fun L hL=>(hk.mem hL).2;have gp:∀b,h0.get? b=none->∀p∈X.pn++[],p.1≠b:=fun b n p hp z=>by
  obtain⟨o,e⟩:=C.pn p (by simpa using hp);rw[z,n]at e;cases e
 have kp:∀b o,b∉hs->b∉jG X.stack->s.heap.get? b=some o->h'.get? b=some o:=fun b o n1 n2 e=>k1 b o (lZ _ e fun m=>(dw.mp m).elim n1 n2);have sl:∀b o,b∈jG X.stack->s.heap.get? b=some o->∃sl,h'.get? b=some {o with slots:=sl}:=fun b o m e=>by
  obtain⟨o2,e2,d2⟩:=Uu b m;rw[e]at e2;cases e2;exact k4 b o e d2
 have tr:Xd h0 H h' a cls:=by
  obtain⟨oe,vs,T,oT,ts,q1,⟨q2,q3⟩,q4,q5,q6,q7,q8,q9,q10⟩:=k3;have hTf:T∉jG X.stack:=fun m=>by
   obtain⟨o,e,d⟩:=fr' T m;rw[q8]at e;cases e;exact d ts q9
  have key:h0.get? T=none/\H T=none:=by
   by_cases m:T∈hs
   ·exact⟨(hh T m).2.1,(hh T m).1⟩
   ·have n:s.heap.get? T=none:=by
     cases z:s.heap.get? T with
     |none=>rfl
     |some o=>rw[lZ _ z fun mm=>(dw.mp mm).elim m hTf]at q6;cases q6
    refine⟨C.gr T n,?_⟩;cases z:H T with
    |none=>rfl
    |some o=>obtain⟨u,e⟩:=(C.inv.cP T o z).get;rw[n]at e;cases e
  exact⟨oe,vs,a0,T,oT,ts,q1,q2,q4,q3,q5,q7,key.1,key.2,q8,q9,q10⟩
 refine⟨⟨C.inv.SE hx kp sl fun b m=>⟨(hh b m).1,C.old b (hh b m).2.1,gp b (hh b m).2.1,.inl (hh b m).2.2⟩,⟨?_,C.F1.fr,C.F1.nw⟩,C.old,C.pn,fun b n=>?_⟩,tr⟩
 ·obtain⟨oe,vs,b0,T,oT,ts,q1,q2,q3,q4,q5,q6⟩:=tr;exact⟨oe,vs,b0,q1,q2,q3,q4,.inr ⟨T,oT,ts,q5,q6⟩⟩
 ·by_cases m:b∈hs
  ·exact(hh b m).2.1
  ·refine C.gr b ?_
   cases z:s.heap.get? b with
   |none=>rfl
   |some o=>
    have n':h'.get? b=none:=n;by_cases m2:b∈jG X.stack
    ·obtain⟨s1,e1⟩:=sl b o m2 z;rw[n']at e1;cases e1
    ·rw[kp b o m m2 z]at n';cases n'
section
variable {h0:Heap}{cls:Value}{M:Model}
theorem N4(C:Mp X h0 Z H s a cls)(hx:X.ex=[])(cz:X.stack=X.env::X.outer)(hf:X.env.frame=some X.env.locals)(hA:A.frames=some X.stack){Q:Unit->Shared->Prop}(q:∀s',Mp X h0 Z H s' a cls->Xd h0 H s'.heap a cls->Q () s'):
  wpAny M A (noteFrame (.ref a) X.env) (fun _ s2=>wpAny M A (setFlight (.ref a) none) Q E s2) E s:=by
 obtain⟨⟨oe,vs,a0,he,Aa,hd,h0',h1⟩,fr,nw⟩:=C.F1;have hk:s.heap.FunFrames X.base X.stack:=C.inv.stack;have kU:∀e∈X.stack,∀b,e.frame=some b->b∈jG X.stack:=fun e he b hb=>k_.mpr ⟨e,he,hb⟩;have after:∀(hs:List Addr) (h':Heap),a∈hs->(∀b∈hs,H b=none/\h0.get? b=none/\∃o ws,s.heap.get? b=some o/\o.data=.fields ws)->Heap.NotedW (PySem.W.hideAll s.heap (hs++jG X.stack)) X.stack a cls a0 (rawInt X.env.locals) s.heap h'->wpAny M A (setFlight (.ref a) none) Q E {s with heap:=h'}:=by
  intro hs h' ham hh ⟨k1,k2,k3,k4⟩;refine wpAny_setFlight_noneW (s:={s with heap:=h'}) k1 k2 k3 fun h2 j1 j2 j3 j4=>?_
  obtain⟨c1,c2⟩:=C.step hx ham hh j1 (fun b o e d=>by obtain⟨sl,e1⟩:=k4 b o e d;exact⟨sl,j4 b _ e1 d⟩) j3 fun b m=>(j2.mem m).2;exact q _ c1 c2
 rcases h1 with h1|⟨T,oT,ts,h1,hTa,hT0,Ml,hT,YY,h3⟩
 ·have hl:s.heap.FunFrames (PySem.W.hideAll s.heap ([a]++jG X.stack)) (X.env::X.outer):=by rw[<-cz];exact oo hk fun e he b hb=>dk _ (kU e he b hb)
  unfold noteFrame;simp only[hf];refine aP (fZ he hd h1 ?_);rw[aW (by decide)];refine wpAny_entryW (base:=PySem.W.hideAll s.heap ([a]++jG X.stack)) (by rw[hA,cz]) hl hf he (fun b o z=>l0 _ z) (kY _ (jO _ (cX.mpr rfl))) hd (Array.getElem?_eq_some_iff.mp h1).1 h0' fun h' hN=>?_
  rw[Aa,<-cz]at hN;refine after [a] h' (cX.mpr rfl) (fun b m=>?_) hN;cases cX.mp m;exact⟨fr,nw,oe,vs,he,hd⟩
 ·have hl:s.heap.FunFrames (PySem.W.hideAll s.heap ([a,T]++jG X.stack)) (X.env::X.outer):=by rw[<-cz];exact oo hk fun e he b hb=>dk _ (kU e he b hb)
  refine wpAny_noteFrame_onW (base:=PySem.W.hideAll s.heap ([a,T]++jG X.stack)) (cls:=cls) (a0:=a0) (by rw[hA,cz]) hl hf ⟨oe,vs,T,oT,ts,he,⟨Aa,h0'⟩,hd,h1,kY _ (jO _ (by simp)),hTa,hT,YY,h3⟩ (fun b o z=>l0 _ z) (kY _ (jO _ (by simp))) fun h' hN=>?_
  rw[<-cz]at hN;refine after [a,T] h' (by simp) (fun b m=>?_) hN;simp only[bB,cI,cJ]at m;rcases m with rfl|rfl
  ·exact⟨fr,nw,oe,vs,he,hd⟩
  ·exact⟨Ml,hT0,oT,ts,hT,YY⟩
theorem HV(C:Mp X h0 Z H s a cls)(T:Xd h0 H s.heap a cls)(hx:X.ex=[])(q:∀s',Mp X h0 Z H s' a cls->Xd h0 H s'.heap a cls->ae () s'):wpAny M A (setFlight (.ref a) none) ae E s:=by
 obtain⟨oe,vs,a0,T,oT,ts,e1,e2,e3,e4,e5,e6,e7,e8,e9,e10,e11⟩:=T;have hk:s.heap.FunFrames X.base X.stack:=C.inv.stack;have kU:∀e∈X.stack,∀b,e.frame=some b->b∈jG X.stack:=fun e he b hb=>k_.mpr ⟨e,he,hb⟩;have hl:s.heap.FunFrames (PySem.W.hideAll s.heap ([a,T]++jG X.stack)) X.stack:=oo hk fun e he b hb=>dk _ (kU e he b hb);refine wpAny_setFlight_noneW (base:=PySem.W.hideAll s.heap ([a,T]++jG X.stack)) (cls:=cls) (a0:=a0) (fl:=.none) (fun b o z=>l0 _ z) hl ⟨oe,vs,T,oT,ts,e1,⟨e2,e4⟩,e3,e5,kY _ (jO _ (by simp)),e6,e9,e10,e11⟩ fun h2 j1 j2 j3 j4=>?_
 obtain⟨c1,c2⟩:=C.step hx (hs:=[a,T]) (by simp) (fun b m=>by
  simp only[bB,cI,cJ]at m;rcases m with rfl|rfl
  ·exact⟨C.F1.fr,C.F1.nw,oe,vs,e1,e3⟩
  ·exact⟨e8,e7,oT,ts,e9,e10⟩) j1 (fun b o e d=>⟨o.slots,j4 b o e d⟩) j3 fun b m=>(j2.mem m).2
 exact q _ c1 c2
theorem Mp.Xe (C:Mp X h0 Z H s a cls)(hx:X.ex=[]):∃oe:Obj,oe.cls=cls/\s.heap.get? a=some oe/\Inv X [] Z (upd H a (.ext fun h=>h.get? a=some oe)) s:=by
 obtain⟨⟨oe,vs,a0,he,Aa,hd,_⟩,fr,nw⟩:=C.F1;have I:=C.inv;refine⟨oe,Aa,he,I.ok,I.os,I.bare,⟨I.base.keep,I.base.slot,fun b o e n hb=>?_,I.base.there,fun b ts e=>?_,fun b o u e=>?_,fun b p e=>?_⟩,I.loc,I.cell,?_,fun y c e=>?_,fun p hp=>?_,fun b u e=>?_,I.len⟩
 ·rw[bb fun z=>?_]
  ·exact I.base.free b o e n hb
  ·rw[z,C.old a nw]at e;cases e
 ·rw[bb fun z=>?_]
  ·exact I.base.mn b ts e
  ·have q:=I.base.mn b ts e;rw[z,fr]at q;cases q
 ·rw[bb fun z=>?_]
  ·exact I.base.kT b o u e
  ·have q:=I.base.kT b o u e;rw[z,fr]at q;cases q
 ·obtain⟨more,q⟩:=I.base.m6 b p e;exact⟨more,by rw[bb fun z=>(by rw[z,fr]at q;cases q)];exact q⟩
 ·rw[bb fun z=>?_]
  ·exact I.free
  ·obtain⟨m,⟨o,es,ep,ho,hd2,_⟩,_⟩:=I.loc;rw[z,he]at ho;cases ho;rw[hd]at hd2;cases hd2
 ·rw[bb fun z=>?_]
  ·exact I.fI y c e
  ·obtain⟨v,o,ho,hd2⟩:=I.cell y c e;rw[z,he]at ho;cases ho;rw[hd]at hd2;cases hd2
 ·obtain⟨q1,q2,q3⟩:=I.pin p hp;refine⟨q1,?_,q3⟩;rw[bb fun z=>?_]
  ·exact q2
  ·obtain⟨o,e⟩:=C.pn p (by simpa using hp);rw[z,nw]at e;cases e
 ·by_cases z:b=a
  ·subst z;rw[bG]at e;cases e;exact⟨he,⟨oe,he⟩,fun h1 h2 p k=>k _ p⟩
  ·rw[bb z]at e;exact(I.cP b u e).o6 (fun _ _ _ q=>q) (fun c q=>by rw[bb (bM q fr)];exact q) fun c xs q=>by rw[bb (bM q fr)];exact q
theorem zE{n:Str}(I:Inv X U Z H s)(hN:X.N.Nodup)(hi:X.N[i]?=some n)(hl:X.env.scope.names.lookup n=some .local)(q:∀s',Inv X U (Z.set i none) H s'->ae () s'):wpAny M A (do bindName X.env n .none;unbindBehindTheSuite X.env n pos) ae E s:=by
 obtain⟨m,hn,hlk⟩:=id I.loc;have Fy:(X.env.scope.kind== .class||(X.env.scope.kind== .module&&X.env.locals !=X.env.globals))=false:=by rw[I.ok.kind];rfl
 obtain⟨oL,_,_,Fd,_⟩:=id hn;refine wpAny_nameGoes_keeps hl hn Fy fun h' v O4 hs=>q _ ?_
 have ne:∀b o,X.f9.heap.get? b=some o->b≠X.env.locals:=fun b o e=>bS (cU (bp e) I.ok.above);refine⟨I.ok,I.os,I.bare,⟨fun b o e n hb hx=>?_,fun b o e n hb hx=>?_,I.base.free,fun b o e hx=>?_,I.base.mn,I.base.kT,I.base.m6⟩,⟨_,O4,fun j y w e1 e2 e3=>?_⟩,fun y c e=>?_,I.free,I.fI,fun p hp=>?_,fun b u e=>?_,by rw[ky];exact I.len⟩
 ·exact(hs.2 b (ne b o e)).trans (I.base.keep b o e n hb hx)
 ·obtain⟨sl,e1⟩:=I.base.slot b o e n hb hx;exact⟨sl,(hs.2 b (ne b o e)).trans e1⟩
 ·obtain⟨o1,e1⟩:=I.base.there b o e hx;exact⟨o1,(hs.2 b (ne b o e)).trans e1⟩
 ·by_cases hj:j=i
  ·subst hj;have hjl:j<Z.length:=by rw[I.len];exact(fT.mp hi).1
   rw[om hjl]at e2;cases e2
  ·rw[lY (Ne.symm hj)]at e2;obtain⟨u,r,l⟩:=hlk j y w e1 e2 e3;refine⟨u,r,?_⟩;rcases l with⟨k,e⟩|⟨k,c,e,z⟩
   ·refine .inl ⟨k,?_⟩;have hy:y≠n:=fun z=>hj (sQ hN e1 (z▸hi));show(if y=n then v else m y)=some u;rw[aW hy];exact e
   ·exact .inr ⟨k,c,e,z.sameBut hs (I.GZ y c e)⟩
 ·obtain⟨w,z⟩:=I.cell y c e;exact⟨w,z.sameBut hs (I.GZ y c e)⟩
 ·obtain⟨e,n2,ne2,nf,d⟩:=I.pin p hp;exact⟨(hs.2 p.1 ne2).trans e,n2,ne2,nf,d⟩
 ·refine(I.cP b u e).o6 (fun c w hc z=>(hs.2 c fun y=>?_).trans z) (fun _ z=>z) fun _ _ z=>z;subst y;rcases hc with z2|z2
  ·rw[<-z2,I.free]at e;cases e
  ·rw[I.free]at z2;cases z2
end
theorem cB.none:cB K B H Z (List.replicate Z.length .no):=by
 have no:∀(i:Nat) (c:Cell),(List.replicate Z.length Cell.no)[i]?=some c->c=.no:=fun i c e=>by
  rw[rZ]at e;split at e
  ·exact(Option.some.inj e).symm
  ·cases e
 exact⟨wj,(fun i t e=>by cases no i _ e),(fun i ts e=>by cases no i _ e),(fun i j ts us D _ e=>by cases no i _ e)⟩
theorem cB.unset {Y:bO}(h:cB K B H Z Y)(n:fy Y)(i:Nat):cB K B H (Z.set i Option.none) (Y.set i .no):=by
 refine⟨by rw[ky,ky];exact h.len,fun j t e=>?_,fun j ts e=>?_,fun j k ts us D _ e=>?_⟩
 ·rcases fw e with⟨_,_,z⟩|⟨hj,e⟩
  ·cases z
  ·obtain⟨v,e1,r⟩:=h.sh j t e;exact⟨v,by rw[lY hj];exact e1,r⟩
 ·rcases fw e with⟨_,_,z⟩|⟨hj,e⟩
  ·cases z
  ·exact absurd e (n j ts)
 ·rcases fw e with⟨_,_,z⟩|⟨hj,e⟩
  ·cases z
  ·exact absurd e (n j ts)
theorem fy.unset {Y:bO}(h:fy Y)(i:Nat):fy (Y.set i .no):=fun j ts e=>by
 rcases fw e with⟨_,_,z⟩|⟨hj,e⟩
 ·cases z
 ·exact h j ts e
abbrev Cx.kH (X:Cx)(pn:List (Addr×Obj))(E':Value->Shared->Prop):Cx:={X with pn:=pn,xe:=E'}
abbrev Cx.pG (X:Cx)(pn:List (Addr×Obj))(e:Value):Cx:={X with A:=X.A.mark (some e),calm:=false,pn:=pn,xe:=fun _ _=>False}
section
variable {pn:List (Addr×Obj)}
theorem Cx.Ok.kH (ok:X.Ok):(X.kH pn E).Ok:=⟨ok.mod,ok.kind,ok.glob,ok.blt,ok.above,ok.inj,ok.has,ok.O3,ok.hd,ok.frames,ok.Mh,ok.Ui,ok.bs,ok.GY,ok.z9,ok.BL,ok.qN,ok.IS⟩
theorem Cx.Ok.lN (ok:(X.kH pn E).Ok):X.Ok:=⟨ok.mod,ok.kind,ok.glob,ok.blt,ok.above,ok.inj,ok.has,ok.O3,ok.hd,ok.frames,ok.Mh,ok.Ui,ok.bs,ok.GY,ok.z9,ok.BL,ok.qN,ok.IS⟩
theorem Cx.Ok.pG (ok:X.Ok):(X.pG pn af).Ok:=⟨ok.mod,ok.kind,ok.glob,ok.blt,ok.above,ok.inj,ok.has,ok.O3,(fun z=>by cases z),ok.frames,ok.Mh,ok.Ui,ok.bs,ok.GY,ok.z9,ok.BL,ok.qN,ok.IS⟩
theorem Inv.kH (I:Inv X U Z H s):Inv (X.kH (X.pn++U) E) [] Z H s:=⟨I.ok.kH,I.os,I.bare,I.base,I.loc,I.cell,I.free,I.fI,fun p hp=>I.pin p (by simpa using hp),I.cP,I.len⟩
theorem Inv.lN (I:Inv (X.kH (X.pn++U) E) [] Z H s):Inv X U Z H s:=⟨I.ok.lN,I.os,I.bare,I.base,I.loc,I.cell,I.free,I.fI,fun p hp=>I.pin p (by simpa using hp),I.cP,I.len⟩
theorem Inv.pG (I:Inv (X.kH pn E) [] Z H s):Inv (X.pG pn af) [] Z H s:=⟨I.ok.lN.pG,I.os,I.bare,I.base,I.loc,I.cell,I.free,I.fI,I.pin,I.cP,I.len⟩
theorem Inv.Kt (ok:X.Ok)(I:Inv (X.pG (X.pn++U) af) [] Z H s):Inv X U Z H s:=⟨ok,I.os,I.bare,I.base,I.loc,I.cell,I.free,I.fI,fun p hp=>I.pin p (by simpa using hp),I.cP,I.len⟩
theorem SP.lN {D:Ends}{f:Flow}(h:SP (X.kH (X.pn++U) E) [] D f s):SP X U D f s:=by
 cases f with
 |next=>obtain⟨di,H',I,q⟩:=h;exact⟨di,H',I.lN,q⟩
 |brk=>obtain⟨di,H',I,q⟩:=h;exact⟨di,H',I.lN,q⟩
 |cont=>obtain⟨di,H',I,q⟩:=h;exact⟨di,H',I.lN,q⟩
 |ret u=>obtain⟨v,di,H',I,r,q⟩:=h;exact⟨v,di,H',I.lN,r,q⟩
end
structure qA(K:Frag)(mg:Str->Option Value)(c:Str)(xs:List Str):Prop where
 mg:mg c=some (.ref (clsAt K c))
 all:∀x∈xs,PySem.W.exmOne K (.ref (clsAt K x)) (.ref (clsAt K c))=some true
def Xf(N i:Nat)(xs:List Str)(x:Str)(A:Ab)(G2:bO->Ab->Rz Out):Rz Out:=if xs.contains x=true then match G2 ((List.replicate N Cell.no).set i (.sh (.at A.length))) (A++[.DH x])with
 |.ok (.nx Y) A=>.ok (.nx (Y.set i .no)) A
 |.ok (.ret t) A=>.ok (.ret t) A
 |_=>.bad
 else .bad
def EB(N i:Nat)(xs:List Str)(r:Rz Out)(G2:bO->Ab->Rz Out):Rz Out:=match r with
 |.ok o A=>.ok o A
 |.exc (.str x) A=>Xf N i xs x A G2
 |_=>.bad
section
variable {c:Str}{tp hp:Pos}{G2:bO->Ab->Rz Out}
theorem Pz.Xg {h0 h:Heap}{c:Value}(u:Pz h0 H h a c):PySem.W.Looks (model P w) h (typeOf (.ref a)) c:=by
 obtain⟨⟨oe,vs,a0,he,rfl,_⟩,_,_⟩:=u;exact(mi (M:=model P w) (part:=none) he).andThen (f:=fun o:Obj=>pure o.cls) .now
theorem Ku(Tc:qA X.K X.mg c ps)(hb:∀pn E',n_ (X.kH pn E') ah (tZ (X.kH pn E') aJ))(hs:∀pn e,n_ (X.pG pn e) (ai::aj) (tZ (X.pG pn e) G2))(hN:X.N.Nodup)(hi:X.N[i]?=some av)(hl:X.env.scope.names.lookup av=some .local)
  (cz:X.stack=X.env::X.outer) (hf:X.env.frame=some X.env.locals) (hx:X.ex=[]) (Mz:yE X av) (hg:Gl X c) (fq:Db c):
  PS X (.Try ah [.ExceptHandler (some (.Name c tp)) (some av) (ai::aj) hp] [] [] pos) (tZ X fun Y A=>EB X.N.length i ps (aJ Y A) G2):=by
 intro U s Z H D I ⟨B0,H0,B,A,Y,BA,g,ha,r,no,q⟩;have Uy:=I.ok;refine wpAny_Try_except (dW (hb (X.pn++U) _ [] s Z H D I.kH ⟨B0,H0,B,A,Y,BA,g,ha,r,no,?_⟩) (fun f s1 h1=>?_) fun e s1 z=>z)
 ·have q':gA (XE X B0 H0) (EB X.N.length i ps (aJ Y A) G2) (u6 X D B0 H0):=q;cases eG:aJ Y A with
  |bad=>rw[eG]at q';exact fe q'
  |ok o A1=>rw[eG]at q';cases o<;>exact q'
  |exc t A1=>
   rw[eG]at q';cases t with
   |str x=>
    obtain⟨hxs,q2⟩:=g0 q';intro B' H' g' jH e s1 xs1;obtain⟨a,YK,h0,rfl,C⟩:=xs1.cau;refine N4 C hx cz hf Uy.frames fun s3 C3 T3=>?_
    refine wpAny_handleBy_cons (codeAny_handlers_test ?_) (by intro z;cases z);refine wc Uy.kind hg (Calls.loadGlobal_global (by rw[Uy.glob];exact Uy.mod.glob.keeps C3.inv.bk) Tc.mg ?_) fq;refine PySem.W.exm_one C3.inv.lH C3.F1.Xg (Tc.all x (by simpa using hxs)) _ _ _ s3 (fun _ _ z=>z) ?_
    refine codeAny_handlers_suite_as ?_
    refine HV C3 T3 hx fun s4 C4 T4=>?_
    refine hide fun P go=>?_
    obtain⟨oe4,hc4,he4,I4⟩:=C4.Xe hx;refine go ?_
    have frA:H' a=none:=C4.F1.fr;refine wQ (X:=X.kH (X.pn++U) _) I4 hN hi (.inl hl) (v:=.ref a) rfl (fun s5 I5=>?_) Mz;have g5:=jH.push (p:=a) (o:=.DH x) frA (ba.upd frA) ⟨qi,oe4,bG,hc4⟩;have b9:YK.length=X.N.length:=C4.inv.len;have r5:cB X.K (pz B' a A1.length) (upd H' a (.ext fun h=>h.get? a=some oe4)) (YK.set i (some (.ref a))) ((List.replicate X.N.length Cell.no).set i (.sh (.at A1.length))):=by
     rw[<-b9];exact cB.none.set i (.at hZ)
    have no5:fy ((List.replicate X.N.length Cell.no).set i (.sh (.at A1.length))):=fy.set (fun j ts z=>by
     rw[rZ]at z;split at z<;>cases z) i _
    have key:gA (fun _ _=>False) (G2 ((List.replicate X.N.length Cell.no).set i (.sh (.at A1.length))) (A1++[.DH x])) fun o A2=>match o with
      |.nx Y=>u6 X D B0 H0 (.nx (Y.set i .no)) A2
      |.ret t=>u6 X D B0 H0 (.ret t) A2
      |_=>False:=by
     cases e2:G2 ((List.replicate X.N.length Cell.no).set i (.sh (.at A1.length))) (A1++[.DH x])with
     |bad=>simp only[e2]at q2;exact q2
     |exc c1 A2=>simp only[e2]at q2;exact q2
     |ok o A2=>
      simp only[e2]at q2;cases o<;>exact q2
    refine dW (hs (X.pn++U) (.ref a) [] s5 _ _ {nx:=fun vK H2=>D.nx (vK.set i none) H2,rt:=D.rt} I5.pG ⟨B0,H0,pz B' a A1.length,A1++[.DH x],_,BA,g'.trans BA g5.1,g5.2,r5,no5,?_⟩) (fun f s6 h6=>?_) fun _ _ z=>(show False from z).elim
    ·refine(key.imp fun _ _ z=>z.elim).mono fun o A2 z=>?_
     cases o with
     |nx g_=>exact fun vK B2 H2 g2 pD r2 n2=>z (vK.set i none) B2 H2 g2 pD (r2.unset n2 i) (n2.unset i)
     |ret t=>exact z
     |_=>exact z.elim
    ·cases f with
     |next=>
      obtain⟨Zy,H6,I6,q6⟩:=h6;exact zE (I6.Kt Uy) hN hi hl fun s7 I7=>⟨_,H6,I7,q6⟩
     |ret u=>
      obtain⟨v,Zy,H6,I6,rv,q6⟩:=h6;exact zE (I6.Kt Uy) hN hi hl fun s7 I7=>⟨v,_,H6,I7,rv,q6⟩
     |_=>obtain⟨_,_,_,z⟩:=h6;exact fe z
   |_=>exact fe q'
 ·cases f with
  |next=>exact sH h1.lN
  |_=>exact h1.lN
end
section
variable {es:List Expr}{E:bO->Ab->Rz Tr}{keys:List (Option Expr)}{P:bO->Ab->Rz (List (Tr×Tr))}
structure SF(X:Cx)(pos:Pos)(keys:List (Option Expr))(az:List Expr)(P:bO->Ab->Rz (List (Tr×Tr))):Prop where
 h:∃Aj,Ul X pos keys az Aj/\∀Z H Q,(∃B A Y,HA X.K B A H/\cB X.K B H Z Y/\fy Y/\gA (XE X B H) (P Y A) fun RO A'=>∀NB B' H',Grows B H B' H'->HA X.K B' A' H'->xA X.K (bV B' H') NB RO->Q NB H')->w6 Aj Z H Q
theorem Kv:SF X pos [] [] fun _ A=>.ok [] A:=⟨[],Fv,fun Z H Q ⟨B,A,Y,ha,r,n,q⟩=>q [] B H .refl ha .nil⟩
def PX(k:Rz Tr)(v:Ab->Rz Tr)(r:Ab->Rz (List (Tr×Tr))):Rz (List (Tr×Tr)):=k.bind fun x A=>(v A).bind fun y A=>(r A).bind fun ps A=>.ok ((x,y)::ps) A
theorem Kw(hk:PE X e (tE X aH))(hv:PE X o (tE X aI))(hr:SF X pos keys az P):SF X pos (some e::keys) (o::az) fun Y A=>PX (aH Y A) (aI Y) (P Y):=by
 obtain⟨Aj,h1,h2⟩:=hr.h;refine⟨_,BY hk hv h1,fun Z H Q ⟨B,A,Y,ha,r,n,q⟩=>?_⟩;refine⟨B,A,Y,ha,r,n,(gA.bind q).mono fun x A1 qx u B1 H1 g1 mU r1=>⟨B1,A1,Y,mU,r.grow n g1,n,((gA.bind qx).imp fun c A' z=>z.grow ha.hb g1).mono fun y A2 qy w B2 H2 g2 pD r2=>h2 _ _ _ ⟨B2,A2,Y,pD,(r.grow n g1).grow n g2,n,((gA.bind qy).imp fun c A' z=>z.grow ha.hb (g1.trans ha.hb g2)).mono fun ps A3 qp NB B3 H3 g3 F3 r3=>?_⟩⟩⟩;exact qp _ B3 H3 ((g1.trans ha.hb g2).trans ha.hb g3) F3 (.cons ((r1.same g2.jw).same g3.jw) (r2.same g3.jw) r3)
def isE(A:Ab)(i:Nat):Bool:=match A[i]? with
 |some (.bT [])=>true
 |_=>false
def Xh(P:Ab->Rz (List (Tr×Tr)))(A:Ab):Rz Tr:=(P (A++[.bT []])).bind fun ps A2=>if ps.length<=15/\isE A2 A.length=true then(gs (xy ps) A2).bind fun bt A2=>.ok (.at A.length) (A2.set A.length (.bT (lK [] bt)))else .bad
theorem N5(h:SF X pos keys az P)(uw:keys.all (·.isSome)=true:=by rfl) (hl:keys.length=az.length:=by rfl) (h0:keys.isEmpty=false:=by rfl) (M0:keys.length<=15:=by decide):PE X (.Dict keys az pos) (tE X fun Y A=>Xh (P Y) A):=by
 obtain⟨Aj,h1,h2⟩:=h.h;refine(Fw h1 uw hl (fun z=>by rw[z]at h0;cases h0) M0).weak fun Z H Q ⟨B,A,Y,ha,r,n,q⟩ p hp=>?_
 obtain⟨g1,mU⟩:=ha.push (p:=p) (o:=.bT []) hp (ba.upd (o:=.dK []) hp) ⟨qi,[],bG,.nil⟩;have qP:(pz B p A.length).ix p=some A.length:=hZ;refine h2 Z _ _ ⟨_,_,Y,mU,r.grow n g1,n,((gA.bind q).imp fun c A' z=>z.grow ha.hb g1).mono fun RO A2 qp NB B2 H2 g2 pD r2=>?_⟩;obtain⟨⟨hz,he⟩,qp⟩:=g0 qp;have AL:=g2.jw.x _ _ qP;have hat:A2[A.length]?=some (.bT []):=by
  unfold isE at he;split at he
  ·assumption
  ·cases he
 obtain⟨hd,kv0,e0,rd0⟩:=(show rL X.K B2 H2 p (.bT [])from pD.get AL hat);have ek0:kv0=[]:=by
  have e:=rd0.keys;cases kv0 with
  |nil=>rfl
  |cons a b=>cases e
 subst ek0;cases ep:xy RO with
 |ok bt=>
  rw[ep]at qp;obtain⟨kvs,Xi,k1,e1,rd⟩:=zo (X:=X) (H0:=H2) (k:=fun z=>z=bt) r2 (by rw[ep];rfl);subst k1;refine⟨e0,kvs,e1,?_,?_⟩
  ·have e2:=cQ List.length e1;rw[bj,r2.length]at e2;rw[<-e2];exact hz
  ·obtain⟨g4,h6⟩:=pD.write (o:=.bT (lK [] Xi)) (u:=.dK (iD [] kvs)) AL ⟨hd,_,bG,by rw[i_ hd];exact dQ.merge rd dQ.nil⟩;exact(show∀v B' H',Grows B H B' H'->HA X.K B' (A2.set A.length (.bT (lK [] Xi))) H'->Rep X.K (bV B' H') v (.at A.length)->Q v H' from qp) (.ref p) B2 _ ((g1.trans ha.hb g2).trans ha.hb g4) h6 (.at AL)
 |_=>rw[ep]at qp;exact fe qp
end
section
variable {a b:Expr}{es:List Expr}{ix:List (Option Nat)}{T:n6}
theorem EC{Q:VK}(hT:jx T)(q:tF X (fun Y=>u4 ix T aE F (L Y) Y) Z H Q):Uo (tJ X L) ix (Pm X.K T) (Pl X.K aE) (Pk X.K F) Z H (fun v H'=>kG X H' (Q v)):=by
 obtain⟨B,Y,hb,r,q⟩:=q;refine⟨B,Y,hb,r,q.bind.mono fun ts qt J H1 tf gt D hD=>?_⟩;by_cases hz:ts.length<=e_
 ·rw[aS hz]at qt;exact vN hT (vM ix Y) (tf.hb hb) gt hz ((tf.Hr r).comp ix (kF hD)) hD (Fi.bind qt) fun ys H' k s' rp=>by
   obtain⟨Hu,su,ru,ku⟩:=tf.PC hb s';exact ku _ (k _ Hu su (ru rp) fun p e=>by cases e;exact .lst (tf.free hD) (ru rp))
 ·rw[aW hz]at qt;exact qt.elim
theorem Kx(Lk:gz X ps ix ax)(hit:PI X tg am (tJ X L))(kU:Nf X ax ps tg o az T aE F)(hT:jx T)(hN:X.N.Nodup:=by assumption) (hc:X.calm=true:=by rfl) (hi:X.N[i]?=some x:=by rfl) (hx:Loc X.env.scope x:=by first|exact Or.inl rfl|exact Or.inr rfl)
  (Ha:swapsWith (.ListComp o [⟨tg,am,az,0⟩] ax pos) (some (.Name x p)) b8.line X.env=pure true:=by rfl) (hs:isSet am=false:=by rfl) (hf:yE X x:=by first|exact .inl rfl|exact .inr rfl|assumption):
  PS X (.Assign [.Name x p] (.ListComp o [⟨tg,am,az,0⟩] ax pos) b8) (tZ X fun Y A'=>Aw i (uG (u4 ix T aE F (L (dc A' Y)) (dc A' Y)) A') Y):=
 (xh Lk hc hN hi hx hit kU.Us Ha (f' hs) hf).Uv.weak fun D Z H ⟨B0,H0,B,A',Y,hb,g,ha,r,n,q⟩=>EC (Q:=fun v H'=>D.nx (Z.set i (some v)) H') hT (rM (F:=fun Y=>u4 ix T aE F (L Y) Y) (pC (F:=fun Y A'=>uG (u4 ix T aE F (L (dc A' Y)) (dc A' Y)) A') hb g ha r n q.bind fun t A2 v B' H' qt g' jH r' rv _=>qt _ B' H' g' jH (r'.set i rv) (n.set i t)))
end
section
variable {P:bO->Ab->Rz Bool}{hp:Pos}{G2:bO->Ab->Rz Out}
def SG(r:Rz Tr):Rz Bool:=r.bind fun t A=>gs (pj t) A
theorem SH(h:PE X e (tE X aH))(he:my e=true:=by rfl):PT X e (PB X fun Y A=>SG (aH Y A)):=
 (BN h (xl he)).weak fun Z H Q ⟨B,A,Y,ha,r,av,q⟩=>⟨B,A,Y,ha,r,av,q.bind.mono fun t A1 qt v B1 H1 g1 mU rv=>by
  obtain⟨o,h1,h2⟩:=xo (rv.same fj) (mD (X:=X) (H:=H1) qt);exact⟨o,h1,h2 B1 H1 g1 mU⟩⟩
def SI(r:Rz Bool):Rz Bool:=r.bind fun o A=>.ok (!o) A
theorem eq_not(h:PT X e (PB X P)):PT X (.UnaryOp .Not e pos) (PB X fun Y A=>SI (P Y A)):=
 (IW h).weak fun Z H Q ⟨B,A,Y,ha,r,av,q⟩=>⟨B,A,Y,ha,r,av,q.bind⟩
variable {st:Stmt}
theorem Xj:PE X e (tP X fun _=>.bad):=fun _ _ _ _ _ _ ⟨_,_,_,_,q⟩=>(show False from q).elim
theorem Xk:PS X st (tS X fun _=>.bad):=fun _ _ _ _ _ _ ⟨_,_,_,_,_,_,_,q⟩=>(show False from q).elim
end
open PySem.W
structure AM(K:Frag)(D:Addr):Prop where
 ga:findIn K (.ref D) "__getattribute__"=some (some (.builtin "BaseException.__getattribute__"))
 gh:findIn K (.ref D) "__getattr__"=some none
 cl:findIn K (.ref D) "__class__"=some (some (.builtin "object.__class__"))
 ob:mroIn K D (.type "object")=some true
 be:mroIn K D (.type "BaseException")=some true
section
variable {g:Array GenState}{d:Drawn}{t:Nat}{os:OsState}{o:Obj}{K:Frag}
theorem SJ(G:AM K au)(X:K.In aa)(hx:aa.get? a=some o)(hc:o.cls=.ref au)(hq:aw (.ok (.ret (.ref au))) ⟨aa,g,d,t,os⟩):
  codeAny (model P w) A (.call (.builtin "getset_descriptor.__get__") ⟨[.builtin "object.__class__",.ref a,af],[]⟩) aw ⟨aa,g,d,t,os⟩:=by
 have hT5:(⟨aa,g,d,t,os⟩:Shared).TypeIs (.builtin "object.__class__") "getset_descriptor":=wq;have L0:Looks (model P w) aa (typeOf (.ref a)) (.ref au):=hc▸(mi hx).andThen .now;have L1:Looks (model P w) aa (isSubtype (.ref au) (.type (".".intercalate ("object.__class__".cutAt '.').dropLast))) true:=by rw[show".".intercalate ("object.__class__".cutAt '.').dropLast="object" by decide+kernel];exact looks_mroIn X G.ob
 refine wz F.slot_gs_get.plain F.entry_gs_get (F.slot_gs_get.check _ _ _ _ _ _ _ _ hT5 (F.args_gs_get _ _ _) ?_)
 repeat(any_goals (first|assumption|(with_reducible refine L0.at ?_)|(with_reducible refine L1.at ?_)|wp_step))
 refine⟨Code.quiet_builtin _ (by decide+kernel),fE F.entry_object_class ?_⟩
 repeat(any_goals (first|assumption|(with_reducible refine L0.at ?_)|wp_step))
theorem Ky{tk:Tok}{Q:Fin->Shared->Prop}(G:AM K au)(X:K.In aa)(hx:aa.get? a=some o)(hc:o.cls=.ref au)(hq:Q (.done (.ret (.ref au))) ⟨aa,g,d,t,os⟩):
  wpAny (model P w) A (Builtin.«object.__getattribute__» ⟨[.ref a,.str "__class__" tk],[]⟩) Q E ⟨aa,g,d,t,os⟩:=by
 have L0:Looks (model P w) aa (typeOf (.ref a)) (.ref au):=hc▸(mi hx).andThen .now;have L1:=sL (M:=model P w) X G.cl;have hT5:(⟨aa,g,d,t,os⟩:Shared).TypeIs (.builtin "object.__class__") "getset_descriptor":=wq;have f5:=wq;have f6:=F.slot_gs_get.lookup;have f7:=F.slot_gs_set.lookup
 repeat(any_goals (first|assumption|(with_reducible refine L0.at ?_)|(with_reducible refine L1.at ?_)|wp_step))
 refine SJ G X hx hc ?_
 repeat(any_goals (first|assumption|wp_step))
theorem Kz{M:Model}(G:AM K au)(X:K.In aa)(hx:aa.get? a=some o)(hc:o.cls=.ref au)(hq:ae () ⟨aa,g,d,t,os⟩):wpAny M A (checkBuiltinCall "BaseException.__getattribute__" ⟨[.ref a,af],[]⟩) ae E ⟨aa,g,d,t,os⟩:=by
 have L0:Looks M aa (typeOf (.ref a)) (.ref au):=hc▸(mi hx).andThen .now;have L1:=looks_mroIn (M:=M) X G.be;have k1:builtinKind "BaseException.__getattribute__"=some .slot:=by decide+kernel
 have k2:splitId "BaseException.__getattribute__"=some ("BaseException","__getattribute__"):=by decide+kernel
 have ha:=F.args_bexc_ga (.ref a) af;simp only[checkBuiltinCall,k1,k2];refine aP ?_
 unfold isInstance
 repeat(any_goals (first|assumption|(with_reducible refine L0.at ?_)|(with_reducible refine L1.at ?_)|wp_step))
theorem N6{tk:Tok}(G:AM K au)(X:K.In aa)(hx:aa.get? a=some o)(hc:o.cls=.ref au)(hq:aw (.ok (.ret (.ref au))) ⟨aa,g,d,t,os⟩):
  codeAny (model P w) A (.call (.builtin "BaseException.__getattribute__") ⟨[.ref a,.str "__class__" tk],[]⟩) aw ⟨aa,g,d,t,os⟩:=
 wz (by decide+kernel) F.entry_bexc_ga (Kz G X hx hc (Ky G X hx hc hq))
theorem Xl{tk:Tok}(FB:Slot "ValueError" "__getattribute__" "BaseException.__getattribute__")(G:AM K au)(X:K.In aa)(hx:aa.get? a=some o)(hc:o.cls=.ref au)(hq:Q (.ref au) ⟨aa,g,d,t,os⟩):
  wpAny (model P w) A (getAttrBy (.ref a) (.str "__class__" tk) false) Q E ⟨aa,g,d,t,os⟩:=by
 have L0:Looks (model P w) aa (typeOf (.ref a)) (.ref au):=hc▸(mi hx).andThen .now;have L1:=sL (M:=model P w) X G.ga;have L2:=sL (M:=model P w) X G.gh;have f3:=FB.bind (.ref a);have k0:onTheHeap (Value.builtin "BaseException.__getattribute__")=false:=rfl;have k2:(Value.builtin "BaseException.__getattribute__"==Value.builtin "object.__getattribute__")=false:=by decide+kernel
 have k1:(onTheHeap (Value.ref au)&&Value.builtin "BaseException.__getattribute__"==Value.builtin "object.__getattribute__")=false:=by rw[k2];rfl
 repeat(any_goals (first|assumption|(with_reducible refine L0.at ?_)|(with_reducible refine L1.at ?_)|(with_reducible refine L2.at ?_)|wp_step))
 refine N6 G X hx hc ?_
 repeat(any_goals (first|assumption|wp_step))
theorem N7(FB:Slot "ValueError" "__getattribute__" "BaseException.__getattribute__")(G:AM K au)(X:K.In aa)(hx:aa.get? a=some o)(hc:o.cls=.ref au)(hq:aK (some (.ref au)) ⟨aa,g,d,t+1,os⟩):
  wpAny (model P w) A (getAttr? (.ref a) "__class__") aK E ⟨aa,g,d,t,os⟩:=by
 unfold getAttr? getAttrBy?
 repeat(any_goals (first|assumption|with_reducible apply Xl FB G X hx hc|wp_step))
theorem KA(G:AM K au)(Fy:(clsIn K au).isSome=true):KitX K (.ref a) (.ref au) (fun aa=>∃o,aa.get? a=some o/\o.cls=.ref au) where
 ty:=fun M aa X ⟨o,hx,hc⟩=>hc▸(mi hx).andThen .now
 it:=fun M aa X _=>by
  unfold clsIn at Fy;split at Fy
  ·rename_i c' d' cd' UR ho;intro A' Q' E' s' k q;unfold isType loadHead;exact aP (wpAny_loadPart (k _ _ (X _ _ ho)) (a_ q))
  ·cases Fy
 ne:=fun aa tp dd cc n sl X htp=>by
  refine Bool.eq_false_iff.mpr fun q=>?_
  have e:au=tp:=Value.ref.inj (eV.mp q);subst e;unfold clsIn at Fy;split at Fy
  ·rename_i c' d' cd' UR ho;cases(X _ _ ho).symm.trans htp
  ·cases Fy
 ca:=fun{P w A E Q s} X ⟨o,hx,hc⟩ k=>by
  obtain⟨aa,g,d,t,os⟩:=s;exact N7 F.excAttr_ValueError.ga G X hx hc k
end
structure iB(K:Frag)(u:Value)(tab:List (Str×Bool)):Prop where
 all:∀x b,tab.lookup x=some b->kitOne K (.ref (clsAt K x)) u=some b/\AM K (clsAt K x)/\(clsIn K (clsAt K x)).isSome=true
def HW(tab:List (Str×Bool)):Tr->Rs Tr
 |.zd x=>match tab.lookup x with
  |some b=>.ok (.bl b)
  |none=>.bad
 |_=>.bad
section
variable {p2:Pos}{c:Str}{tab:List (Str×Bool)}{cv:V}
theorem CN(T:iB X.K af tab)(hu:∀u',RelV cv u'->u'=af):gn X (.builtin "isinstance") (fun xs H Q=>∃B y t,HB B H/\xs=[y,cv]/\Rep X.K (bV B H) y t/\Fi X H (HW tab t) fun t=>∀v H',ba H H'->Rep X.K (bV B H') v t->Q v H'):=by
 intro U s Z H xs us Q I r ⟨B,y,t,hb,ex,ry,q⟩;subst ex;obtain⟨v,w',rfl,r1,r2⟩:=vals2 r;cases hu w' r2;cases ry with
 |@zd a oe x h hc=>
  cases r1;have q1:=q;unfold HW at q1;dsimp only at q1;cases eb:tab.lookup x with
  |none=>rw[eb]at q1;exact fe q1
  |some b=>
   rw[eb]at q1;obtain⟨k1,k2,k3⟩:=T.all x b eb;obtain⟨ho,_⟩:=(show cR X.prog X.w H s.heap a (.ext fun h=>h.get? a=some oe)from I.cP a _ (dX h));exact eQ (KA k2 k3) I.lH ⟨oe,ho,hc⟩ k1 (fun z=>nomatch z) fun tk=>⟨.bl b,H,I.tok _,rfl,(show∀v H',ba H H'->Rep X.K (bV B H') v (.bl b)->Q v H' from q1) _ H (ba.refl H) (.bl b)⟩
 |_=>exact fe q
theorem CO(hv:PE X (.Name c p2) (tC cv))(he:PE X e (tP X F))(cz:isStar e=false):PA X [e,.Name c p2] (fun Z H Q=>∃B Y,HB B H/\cB X.K B H Z Y/\Fi X H (F Y) fun t=>∀v H',ba H H'->Rep X.K (bV B H') v t->Q [v,cv] H'):=
 (lp he (lp hv rE (bF _ _ rfl)) (bF _ _ cz)).weak fun Z H Q ⟨B,Y,hb,r,q⟩=>⟨B,Y,hb,r,q.mono fun t qt v H1 s1 rv=>qt v H1 s1 rv⟩
theorem SK(T:iB X.K (.ref (clsAt X.K c)) tab)(hm:X.mg c=some (.ref (clsAt X.K c)))(hi:X.mg "isinstance"=none)(he:PE X e (tP X F))(hg:Gl X c:=by rfl) (KC:Gl X "isinstance":=by rfl) (fq:Db c:=by decide) (cz:bq [e,.Name c p2]=true:=by rfl):
  PE X (.Call (.Name "isinstance" p) [e,.Name c p2] [] pos) (tP X fun Y=>(F Y).bind (HW tab)):=
 (o8 (CN (cv:=.ref (clsAt X.K c)) T fun u' z=>z) KC hi rfl (CO (Ac (v:=.ref (clsAt X.K c)) hg hm rfl fq) he (bc cz).1) (by decide) (by decide) (bF _ _ (bc cz).1) (cL (bc cz).2)).weak fun Z H Q ⟨B,Y,hb,r,q⟩=>⟨B,Y,hb,r,q.bind.mono fun t qt v H1 s1 rv=>⟨B,v,t,hb.same s1,rfl,rv,(qt.same s1).mono fun t k v H2 s2 r2=>k v H2 (s1.trans s2) r2⟩⟩
theorem SM(T:iB X.K (.type ay) tab)(hm:X.mg c=none)(hi:X.mg "isinstance"=none)(he:PE X e (tP X F))(hv:bootBuiltins c=some (.type ay):=by rfl) (hg:Gl X c:=by rfl) (hn:c≠"__name__":=by decide) (KC:Gl X "isinstance":=by rfl) (fq:Db c:=by decide) (cz:bq [e,.Name c p2]=true:=by rfl):
  PE X (.Call (.Name "isinstance" p) [e,.Name c p2] [] pos) (tP X fun Y=>(F Y).bind (HW tab)):=
 (o8 (CN (cv:=.ty ay) T fun u' z=>z) KC hi rfl (CO (Fe (v:=.ty ay) hg hm hv rfl hn fq) he (bc cz).1) (by decide) (by decide) (bF _ _ (bc cz).1) (cL (bc cz).2)).weak fun Z H Q ⟨B,Y,hb,r,q⟩=>⟨B,Y,hb,r,q.bind.mono fun t qt v H1 s1 rv=>⟨B,v,t,hb.same s1,rfl,rv,(qt.same s1).mono fun t k v H2 s2 r2=>k v H2 (s1.trans s2) r2⟩⟩
end
def qZ:List Tr->Option (List Int)
 |[]=>some []
 |.int i::ts=>(qZ ts).map fun r=>i::r
 |_=>none
theorem zF{W:Vw}:∀{vs:List V} {ts:List Tr} {ns:List Int},bI K W vs ts->qZ ts=some ns->vs=ns.map V.int
 |[],[],ns,_,e=>by cases e;rfl
 |[],_::_,_,h,_=>by cases h
 |v::vs,ts,ns,h,e=>by
  cases h with
  |cons h r=>
   cases h with
   |int i=>
    rename_i ts;have e':(qZ ts).map (fun r=>i::r)=some ns:=e;cases q:qZ ts with
    |none=>rw[q]at e';cases e'
    |some rs=>
     rw[q]at e';cases e';rw[zF r q];rfl
   |_=>cases e
def q_(ns:List Int):Int:=ns.getD (argBest (fun i j=>decide (ns.getD i 0>ns.getD j 0)) (ns.length - 1)) 0
def KD:List Tr->Rs Tr
 |[.lst ts]=>match qZ ts with
  |some ns=>if 0<ns.length then .ok (.int (q_ ns))else .bad
  |none=>.bad
 |[.int i,.int j]=>.ok (.int (if j>i then j else i))
 |_=>.bad
section
theorem HX(hc:X.calm=true):gn X (.builtin "max") (fun xs H Q=>∃(a:Addr) (ns:List Int),xs=[.ref a]/\ll X.K H a (ns.map V.int)/\0<ns.length/\Q (.int (q_ ns)) H):=by
 intro U s Z H xs us Q I r h;obtain⟨a,ns,rfl,ha,gV,q⟩:=h;obtain⟨u,rfl,ru⟩:=vals1 r;cases(show u=Value.ref a from ru);obtain⟨cc,rv,pl,_⟩:=I.list ha;have b9:cc.length=ns.length:=by have e:=rv.length;rw[bj]at e;exact e.symm
 have NM:∀(i:Nat) (v:Value),cc.toArray[i]?=some v->∃t,v=.int (ns.getD i 0) t:=fun i v hv=>by
  have Jg:cc[i]?=some v:=by simpa using hv
  have hi:i<ns.length:=by rw[<-b9];exact(fT.mp Jg).1
  obtain⟨u,hu,ru⟩:=rv.get (i:=i) (x:=V.int ns[i]) (by rw[bW,bQ hi];rfl);rw[Jg]at hu;cases hu;obtain⟨t,rfl⟩:=(show∃t,v=Value.int ns[i] t from ru);exact⟨t,by rw[d_,bQ hi];rfl⟩
 have Uz:=pl.isList;have f_:a<s.heap.objs.size:=by obtain⟨_,e,_⟩:=Uz;exact bp e
 refine call_max_walk (kn Uz ?_);refine⟨_,_,_,_,_,_,_,rfl,Walks.list (A:=X.A.in1) (I.ok.hd hc) _ a (bS f_) cc.toArray,⟨⟨_,cf _ rfl,rfl,rfl⟩,Uz.push _⟩,fun b hb=>?_,by simpa[b9]using gV,CmpOf.ints_gt (fun i=>ns.getD i 0) NM,fun v h' tk hP hk=>?_⟩
 ·show b<(s.heap.push _).objs.size;rw[jg];rcases bB.mp hb with rfl|hb
  ·exact oG _
  ·rw[cX.mp hb];exact lh f_
 ·obtain⟨t,rfl⟩:=NM _ v hP;have e:cc.toArray.size=ns.length:=by rw[cO];exact b9
  rw[e];refine⟨.int (q_ ns),H,I.kept (t':=tk) fun b o e=>?_,⟨t,rfl⟩,q⟩;refine hk b o (fun hm=>?_) (bL _ e);rw[cX.mp hm]at e;exact absurd (bp e) (eC _)
theorem KG(q:Fi X H (KD ts) aA):(∃us ns,ts=[.lst us]/\qZ us=some ns/\0<ns.length/\aA (.int (q_ ns)))\/∃i j:Int,ts=[.int i,.int j]/\aA (.int (if j>i then j else i)):=by
 unfold KD at q;split at q
 ·rename_i us;cases e:qZ us with
  |none=>rw[e]at q;exact fe q
  |some ns=>
   rw[e]at q;obtain⟨h0,z⟩:=gq q;exact .inl ⟨us,ns,rfl,e,h0,z⟩
 ·exact .inr ⟨_,_,rfl,q⟩
 ·exact fe q
theorem PY(hc:X.calm=true):lr X (.builtin "max") KD:=by
 intro U s Z H xs us Q I rv ⟨B,ts,hb,r,q⟩;rcases KG q with⟨Ee,ns,rfl,e,h0,k⟩|⟨i,j,rfl,k⟩
 ·obtain⟨x,rfl,h⟩:=fM r;obtain⟨a,vs,rfl,h,rr⟩:=h.lst_inv;cases zF rr e;exact HX hc U s Z H _ us Q I rv ⟨_,ns,rfl,.of (dX h),h0,k _ H (ba.refl H) (.int _)⟩
 ·obtain⟨x,y,e,h1,h2⟩:=zf r;exact G5 hc U s Z H _ us Q I rv ⟨i,j,by rw[e,h1.int_inv,h2.int_inv],k _ H (ba.refl H) (.int _)⟩
variable {l:Expr}{p1 p2 WT WU:Pos}
theorem CQ(q:Fi X H (pF aB) aA):∃ts ss,aB=.lst ts/\nR ts=some ss/\ss.length<64/\aA (.lst ((cT (eB [] ss)).map .str)):=by
 unfold pF at q;split at q
 ·rename_i ts;cases e:nR ts with
  |none=>rw[e]at q;exact fe q
  |some ss=>
   rw[e]at q;obtain⟨h0,z⟩:=gq q;exact⟨ts,ss,rfl,e,h0,z⟩
 ·exact fe q
theorem xU:∀(xs ss:List Str),(eB ss xs).length<=ss.length+xs.length
 |[],ss=>bu _
 |x::xs,ss=>by
  have h1:=xU xs (gv ss x);have h2:=xH ss x;show(eB (gv ss x) xs).length<=_;rw[dg];omega
theorem ED{ss:List Str}(h:av∈gv ss x):av∈ss\/av=x:=by
 unfold gv at h;split at h
 ·exact .inl h
 ·rcases dw.mp h with h|h
  ·exact .inl h
  ·exact .inr (cX.mp h)
theorem xV:∀{xs ss:List Str} {z:Str},z∈eB ss xs->z∈ss\/z∈xs
 |[],ss,z,h=>.inl h
 |x::xs,ss,z,h=>by
  rcases xV (xs:=xs) (ss:=gv ss x) h with h|h
  ·rcases ED h with h|h
   ·exact .inl h
   ·exact .inr (bB.mpr (.inl h))
  ·exact .inr (b_ _ h)
theorem SN(hs:X.mg "sorted"=none)(hm:X.mg "set"=none)(hl:PE X l (tP X F))(hc:X.calm=true:=by rfl) (hg:Gl X "sorted":=by rfl) (KC:Gl X "set":=by rfl) (cz:bq [l]=true:=by rfl):
  PE X (.Call (.Name "sorted" p1) [.Call (.Name "set" p2) [l] [] WU] [] WT) (tP X fun Y=>(F Y).bind pF):=
 (o8 (xJ hc) hg hs rfl (lp (uB (HI hc) KC hm rfl (lp hl rE (bF _ _ (bc cz).1)) (by decide) (by decide) (bF _ _ (bc cz).1) (cL (bc cz).2)) rE (bF _ _ rfl)) (by decide) (by decide) (bF _ _ rfl) (cL (es:=[]) rfl)).weak fun Z H Q ⟨B,Y,hb,r,q⟩=>⟨B,Y,hb,r,q.bind.mono fun t qt v H1 s1 rv=>by
  obtain⟨ts,ss,rfl,e1,Es,k⟩:=CQ qt;cases rv with
  |lst h rr=>
   obtain⟨rfl,hs⟩:=uM rr e1;refine⟨_,ss,rfl,.of (dX h),?_,fun a ha=>⟨a,eB [] ss,rfl,bG,?_,fun D hD=>?_⟩⟩
   ·have:scanBound=9007199254740992\/ss.length+1<scanBound:=by
     right;show ss.length+1<scanBound;have M4:65<scanBound:=by decide
     omega
    rcases this with h|h
    ·omega
    ·exact h
   ·have:=xU ss [];simp at this;omega
   ·have s2:ba H1 (upd H1 a (HG X.w a (eB [] ss))):=ba.upd ha;have s3:ba (upd H1 a (HG X.w a (eB [] ss))) (upd (upd H1 a (HG X.w a (eB [] ss))) D (.lst ((cT (eB [] ss)).map V.str))):=ba.upd hD;exact k _ _ ((s1.trans s2).trans s3) (.yP ((hb.same s1).same s2) hD (xQ fun z hz=>hs z ((xV hz).resolve_left (by simp))))⟩
end
def aaw:V->List V->Hp->VK->Prop:=fun x xs H Q=>∃a b kvs more,x=.ref a/\xs=[.ref b]/\a≠b/\H a=some (.dK kvs)/\Rd H b (.dK more)/\kvs.length+more.length<=sizeLine/\Q .cu (upd H a (.dK (iD kvs more)))
theorem HY:QX X "dict.update" aaw:=by
 intro U s Z H x xs v us Q I rx rv ⟨a,b,kvs,more,e1,e2,Ed,ha,hb,hz,q⟩;subst e1 e2;obtain⟨u,rfl,ru⟩:=vals1 rv;cases rx;cases(show u=Value.ref b from ru);obtain⟨z1,s1,vs1,r1,d1⟩:=(show cR X.prog X.w H s.heap a (.dK kvs)from I.cP a _ ha);obtain⟨z2,s2,vs2,r2,d2⟩:=(show cR X.prog X.w H s.heap b (.dK more)from hb.ok I.cP);refine jh PySem.F.slot_dict_update d1.typeIs PySem.F.entry_dict_update (PySem.F.args_dict_update_2 _ _) (meets_dict_update (bY X.prog X.w) a b Ed s2) ⟨vs1,vs2,d1,d2,by rw[<-KV.length r1,<-KV.length r2];exact hz,fun h' d1' _ hs=>?_⟩;have he:∃q,h'.get? a=some q:=let⟨q,_,_,hq,_⟩:=d1';⟨q,hq⟩
 have hl:(iD kvs more).length<=sizeLine:=cw (by have:=i8 more kvs;omega) hz;exact⟨.cu,_,tq I (by rw[ha];exact True.intro) hs he (w4 hl s1 (r2.merge r1) d1'),rfl,q⟩
def Xm(o:Rz Tr)(k:Ab->Rz Tr):Rz Tr:=o.bind fun t A=>match t with
 |.at i=>if mF A i=true then(k A).bind fun tk A=>match tk with
  |.bT Eh=>if mF A i=true/\(n8 A i).length+Eh.length<=e_ then .ok .cu (A.set i (.bT (lK (n8 A i) Eh)))else .bad
  |_=>.bad
  else .bad
 |_=>.bad
theorem Xn(ho:PE X o (tE X aH))(he:PE X e (tE X aI))(hb:isCall o=false:=by rfl) (cz:bq [e]=true:=by rfl) (hl:(b8.endLine==p.line)=true:=by rfl):PE X (.Call (.Attribute o "update" b8) [e] [] p) (tE X fun Y A=>Xm (aH Y A) (aI Y)):=
 (Fq p7 PySem.F.slot_dict_update PySem.F.type_dict_update HY ho (F5 he JY (bc cz).1) (gb hb) (by rw[jj cz];rfl) hl (bF _ _ (bc cz).1) (cL (bc cz).2)).weak fun Z H Q ⟨B,A,Y,ha,r,n,q⟩=>⟨B,A,Y,ha,r,n,q.bind.mono fun t A1 qt v B1 H1 g1 mU rv=>by
  split at qt
  ·obtain⟨a,rfl,qP⟩:=rv.m9;rename_i i;obtain⟨hd,q2⟩:=g0 qt;obtain⟨bt,kvs,e1,e2,e3,e4⟩:=qw mU qP hd;refine⟨.inr (.inr (.inl ⟨rfl,.inl ⟨_,e3⟩⟩)),B1,A1,Y,mU,r.grow n g1,n,?_⟩;have q3:=(gA.bind q2).imp (fun c A' (z:XE X B H c A')=>z.grow ha.hb g1);have step:gA (XE X B1 H1) (F4 (aI Y A1) fun A=>.ok [] A) (fun ts A2=>∃tk,ts=[tk]/\gA (XE X B H) (match tk with
     |.bT Eh=>if mF A2 i=true/\(n8 A2 i).length+Eh.length<=e_ then .ok .cu (A2.set i (.bT (lK (n8 A2 i) Eh)))else .bad
     |_=>.bad) fun t A'=>∀v B' H',Grows B H B' H'->HA X.K B' A' H'->Rep X.K (bV B' H') v t->Q v H'):=by
    cases eg:aI Y A1 with
    |ok x A2=>rw[eg]at q3;exact⟨x,rfl,q3⟩
    |_=>rw[eg]at q3;exact q3
   refine step.mono fun ts A2 ⟨tk,et,qk⟩ vs B2 H2 g2 pD rs=>?_
   subst et;obtain⟨y,rfl,ry⟩:=fM rs;have AL:=g2.jw.x _ _ qP;split at qk
   ·obtain⟨b,mvs,rfl,hm,em,rm⟩:=ry.m8;rename_i Eh _;obtain⟨⟨hd2,hz⟩,q4⟩:=g0 qk;obtain⟨Sz,Kr,f1,f2,f3,f4⟩:=qw pD AL hd2;rw[AK f1]at hz q4;have Ed:a≠b:=fun z=>by
     have n:(bV B2 H2).H a=none:=by show(if B2.hd a=true then none else H2 a)=none;rw[aS f2]
     rw[<-z]at hm;rcases hm with h|⟨o,h⟩<;>(rw[n]at h;cases h)
    have b9:mvs.length=Eh.length:=by have:=cQ List.length em;rw[bj,bj]at this;exact this
    obtain⟨g4,h6⟩:=pD.write (o:=.bT (lK Sz Eh)) (u:=.dK (iD Kr mvs)) AL ⟨f2,_,bG,by rw[i_ f2];exact dQ.merge ⟨em,rm⟩ f4⟩;exact⟨a,b,Kr,mvs,rfl,rfl,Ed,f3,hm.same bD,by rw[f4.length,b9,<-iE];exact hz,q4 .cu B2 _ ((g1.trans ha.hb g2).trans ha.hb g4) h6 .cu⟩
   ·exact qk.elim
  ·exact qt.elim⟩
def Itk(ks:List Str):It:=⟨fun i _=>i<ks.length,fun i H x H'=>H'=H/\∃z,ks[i]?=some z/\x=.str z,fun i _=>ks.length<=i⟩
theorem EE(a it:Addr)(kvs:List (Str×Value))(o:Obj)(es:Array DictEntry)(ep:Nat)(lk:K.lookup a=some o)(ex:o.ExactDict)(hd:o.data=.dict es ep)(hk:KeysOf (PySem.strKind P w) es/\Pairs (PySem.strKind P w) es.toList kvs/\(kvs.map (·.1)).Nodup):Turn P w K tg (Itk (kvs.map (·.1))) [it] it (fun i h=>h.IsKeyIter it a i kvs.length ep) where
 mem:=by simp
 obj:=fun i h st b hb=>by
  have e:b=it:=by simpa using hb
  subst e;obtain⟨o,e,c,d⟩:=st;exact⟨o,e,fun v z=>by rw[d]at z;cases z⟩
 keep:=fun i h h' st k=>by
  obtain⟨o,e,c⟩:=st;exact⟨o,k it (by simp) o e,c⟩
 item:=by
  intro X hP hw hK hc i U s Z H E I hf st hg;subst hP hw hK;have hi:i<kvs.length:=by have q:i<(kvs.map (·.1)).length:=hg;rw[bj]at q;exact q
  have ho:s.heap.get? a=some o:=I.lH a o lk;obtain⟨f0,f1,f2,f3,f4,f5⟩:=hf it (by simp);have ex1:kvs[i]?=some (kvs[i].1,kvs[i].2):=by simp[hi]
  refine wpAny_pyNext_dict_item (knd:=PySem.strKind X.prog X.w) st ⟨o,es,ho,ex,hd,hk⟩ ex1 fun key h' hk1 wU sb=>?_
  have I1:Inv X U Z H {s with heap:=h'}:=I.turned (t':=s.toks) (fun b o hb e=>(sb.2 b hb).trans e) f0 f1 f3 f4 f5;obtain⟨oi,e,c,d⟩:=id wU;refine⟨key,rfl,y3 (s:={s with heap:=h'}) e c d (by decide) ⟨.str kvs[i].1,H,I1,?_,⟨rfl,kvs[i].1,by rw[bW,ex1];rfl,rfl⟩,wU,fun b hb=>(hf b hb).1⟩⟩;exact uL (k:=.inr kvs[i].1) hk1
 done:=by
  intro X hP hw hK hc i U s Z H E I hf st hg;subst hP hw hK;have hi:kvs.length<=i:=by have q:(kvs.map (·.1)).length<=i:=hg;rw[bj]at q;exact q
  have ho:s.heap.get? a=some o:=I.lH a o lk;obtain⟨f0,f1,f2,f3,f4,f5⟩:=hf it (by simp);exact wpAny_pyNext_dict_end (knd:=PySem.strKind X.prog X.w) (I.ok.hd hc) st ⟨o,es,ho,ex,hd,hk⟩ (List.getElem?_eq_none hi) fun h' eb=>⟨rfl,I.turned (t':=s.toks) (fun b o hb e=>eb b o hb e) f0 f1 f3 f4 f5⟩
 self:=fun _ _ _ _ _ st h=>wpAny_pyIter_keyiter st h
def AN(K:Frag)(w:World)(mg:Str->Option Value)(x:Str)(ks:List Str):Prop:=∃a kvs,mg x=some (.ref a)/\B6 K w a kvs/\kvs.map (·.1)=ks/\∀z∈ks,z.length<=cS
theorem SO(T:AN X.K X.w X.mg x ps)(hg:Gl X x:=by rfl) (fq:Db x:=by decide):PI X tg (.Name x p) (tI X fun _=>.ok (ps.map .str)):=by
 obtain⟨a,kvs,hm,⟨hs,o,es,ep,lk,ex,hd,hk⟩,rfl,hz⟩:=T;intro U s Z H R I ⟨B,Y,hb,r,q⟩;refine p_ I hg hm ?_ fq
 have ho:s.heap.get? a=some o:=I.lH a o lk;refine wpAny_pyIter_dict (knd:=PySem.strKind X.prog X.w) hs ⟨o,es,ho,ex,hd,hk X.prog⟩ ?_
 refine⟨s.heap.objs.size,[s.heap.objs.size],_,Itk (kvs.map (·.1)),H,rfl,I.kept (t':=s.toks) fun b o e=>bL _ e,EE a _ kvs o es ep lk ex hd (hk X.prog),⟨_,cf _ rfl,rfl,rfl⟩,fun b hb=>?_,?_⟩
 ·have e:b=s.heap.objs.size:=by simpa using hb
  subst e;exact I.wR (bu _) (I.cP.fresh (bu _))
 ·refine(show∀J H',ba H H'->lu X.K B J H' ((kvs.map (·.1)).map .str)->R J H' from q) _ H (ba.refl H) ⟨fun i B' H' hi _ _=>?_,fun i B' H' y Mj hi s2 NL ⟨eh,z,ez,ey⟩=>?_,fun B' H' _=>?_⟩
  ·have e:i<((kvs.map (·.1)).map Tr.str).length:=hi;rw[bj]at e;exact e
  ·subst eh ey;exact⟨ba.refl _,.str z,by rw[bW,ez];rfl,.str z (hz z (dS ez))⟩
  ·show(kvs.map (·.1)).length<=((kvs.map (·.1)).map Tr.str).length;rw[bj (f:=Tr.str)];exact bu _
def AO:Heap:={}
theorem pH(b:Addr):AO.get? b=none:=by
 cases e:AO.get? b with
 |none=>rfl
 |some o=>exact absurd (bp e) (wF _)
def EF(h:Heap)(L:Addr):List (Addr×Obj):=(List.range h.objs.size).filterMap fun b=>if b=L then none else(h.get? b).map fun o=>(b,o)
theorem EG{o:Obj}:(au,o)∈EF aa a↔au≠a/\aa.get? au=some o:=by
 unfold EF;rw[k_];constructor
 ·rintro ⟨c,_,e⟩
  by_cases z:c=a
  ·rw[aS z]at e;cases e
  ·rw[aW z]at e;cases q:aa.get? c with
   |none=>rw[q]at e;cases e
   |some u=>rw[q]at e;cases e;exact⟨z,q⟩
 ·rintro ⟨n,e⟩
  exact⟨au,sG.mpr (bp e),by rw[aW n,e];rfl⟩
theorem Inv.KH {m:Str->Option Value}{h':Heap}{tk:Nat}(I:Inv X U Z H s)(hn0:s.heap.Ns X.env.locals m)(hn:h'.Ns X.env.locals m)(kp:∀b o,b≠X.env.locals->s.heap.get? b=some o->h'.get? b=some o):Inv X U Z H {s with heap:=h',toks:=tk}:=by
 obtain⟨m0,hm0,hl⟩:=id I.loc;have GZ:=I.GZ;have lo:∀{b:Addr} {o:Obj},X.f9.heap.get? b=some o->b≠X.env.locals:=fun{b o} e=>bS (cU (bp e) I.ok.above);have em:m0=m:=by
  obtain⟨o1,vv,ep1,a1,b1,_,d1⟩:=hm0;obtain⟨o2,es2,ep2,a2,b2,_,d2⟩:=hn0;rw[a1]at a2;cases a2;rw[b1]at b2;cases b2;funext x;rw[<-d1 x,<-d2 x]
 subst em;refine⟨I.ok,I.os,I.bare,⟨fun b o e n hb hx=>kp b o (lo e) (I.base.keep b o e n hb hx),fun b o e n hb hx=>?_,I.base.free,fun b o e hx=>?_,I.base.mn,I.base.kT,I.base.m6⟩,⟨m0,hn,fun j y v' e1 e2 e3=>?_⟩,fun y c e=>?_,I.free,I.fI,fun p hp=>?_,fun b u e=>?_,I.len⟩
 ·obtain⟨sl,e1⟩:=I.base.slot b o e n hb hx;exact⟨sl,kp b _ (lo e) e1⟩
 ·obtain⟨o',e1⟩:=I.base.there b o e hx;exact⟨o',kp b o' (lo e) e1⟩
 ·obtain⟨u',r',q⟩:=hl j y v' e1 e2 e3;refine⟨u',r',?_⟩;rcases q with⟨k,e⟩|⟨k,c,e,z⟩
  ·exact .inl ⟨k,e⟩
  ·obtain⟨oc,e5,e6⟩:=id z;exact .inr ⟨k,c,e,oc,kp c oc (GZ y c e) e5,e6⟩
 ·obtain⟨w',z⟩:=I.cell y c e;obtain⟨oc,e5,e6⟩:=id z;exact⟨w',oc,kp c oc (GZ y c e) e5,e6⟩
 ·obtain⟨e,n,ne,nf,d⟩:=I.pin p hp;exact⟨kp p.1 p.2 ne e,n,ne,nf,d⟩
 ·refine(I.cP b u e).o6 (fun c w' hc q=>kp c w' ?_ q) (fun _ q=>q) fun _ _ q=>q
  rintro rfl
  rcases hc with rfl|hc
  ·rw[I.free]at e;cases e
  ·rw[I.free]at hc;cases hc
def zG:List Tr->Rs Tr
 |[.bT bt]=>.ok (.int bt.length)
 |ts=>Nx ts
theorem iG:lr X (.builtin "len") zG:=by
 intro U s Z H xs us Q I rv ⟨B,ts,hb,r,q⟩;by_cases z:∃bt,ts=[.bT bt]
 ·obtain⟨bt,rfl⟩:=z;cases r with
  |cons h r=>
   cases r;cases h with
   |@bT a kvs _ h ek rr=>
    obtain⟨u,rfl,ru⟩:=vals1 rv;cases ru;have hl:kvs.length=bt.length:=by have:=cQ List.length ek;rw[bj,bj]at this;exact this
    exact Vk I (h.same bD) fun t s' I'=>⟨.int kvs.length,H,I',⟨t,rfl⟩,(show∀v H',ba H H'->Rep X.K (bV B H') v (.int bt.length)->Q v H' from q) _ H (ba.refl H) (by rw[hl];exact .int _)⟩
 ·have e:zG ts=Nx ts:=by
   unfold zG;split
   ·exact absurd ⟨_,rfl⟩ z
   ·rfl
  rw[e]at q;exact V6 U s Z H xs us Q I rv ⟨B,ts,hb,r,q⟩
theorem HZ:typeLookup (.type "list") "keys"=pure none:=by rw[typeLookup_type,wo];kernel_rfl
section
variable {k:Nat}{sl:Array (Option Value)}
theorem EH(hx:s.heap.get? a=some {cls:=.type "list",dict:=none,data:=.seq ak k,slots:=sl}) (hA:A.handled=none)
  (h:∀h' tk,(∀b o,s.heap.get? b=some o->h'.get? b=some o)->aK none {s with heap:=h',toks:=tk}):wpAny (model P w) A (getAttr? (.ref a) "keys") aK E s:=by
 obtain⟨hp,g,d,tk,os⟩:=s;have hT:∀vz,(⟨hp,g,d,vz,os⟩:Shared).TypeIs (.ref a) "list":=fun _=>⟨_,hx,rfl⟩;have f1:=sub_AttributeError;have f3:=wk.lookup;have f4:=wk.bind (.ref a);have f5:=am_list_getattr_none;unfold getAttr? getAttrBy? getAttrBy
 repeat(any_goals (first|assumption|exact hT _|((with_reducible show wpAny _ _ (call (Value.builtin "list.__getattribute__") _ _) _ _ _);refine kC wk (hT _) am_entry_list_getattribute (F.args_list_getattribute_2 _ _) (meets_getattribute_miss_list a ak k sl "keys" _ HZ (by decide+kernel) (by size_fits)) ⟨hx,hA,fun h' vz e Y6=>?_⟩)|wp_step))
 obtain⟨t',u',he⟩:=Y6.there;have hTe:∀vz,(⟨h',g,d,vz,os⟩:Shared).TypeIs (.ref e) "AttributeError":=fun _=>⟨_,he,rfl⟩;show wpAny _ _ (getattributeRaised _ _ _ _ _ _ _) _ _ _;unfold getattributeRaised
 repeat(any_goals (first|assumption|exact hTe _|wp_step))
 exact h h' vz Y6.of.keeps
theorem zH:entryFor table "dict.update.loop"=some Builtin.«dict.update.loop»:=entryFor_of_tree (by kernel_rfl)
theorem qB:plainId "dict.update.loop"=true:=by decide+kernel
theorem KI{h0:Heap}{d I:Addr}{pairs:List (Key×Value)}(hh:A.handled=none)(hl:h0.IsList a aq.toArray)(b9:aq.length=pairs.length)(hp:∀(j:Nat) (t:Value),aq[j]?=some t->∃ad key k v,t=.ref ad/\h0.IsTuple ad #[key,v]/\ml k key=true/\pairs[j]?=some (k,v))
  (WW:h0.get? d=none) (hI0:h0.get? I=none) (hdI:d≠I) (hz:pairs.length<=100000)
  (hR:∀h' vz,(∀b o,h0.get? b=some o->h'.get? b=some o)->h'.DictOf (bY P w) d (merged [] pairs)->aw (.ok (.ret .none)) {s with heap:=h',toks:=vz}):
  ∀(r i:Nat) (h:Heap) (tk:Nat) (kvs:List (Key×Value)),pairs.length - i=r->i<=pairs.length->kvs.length<=i->merged kvs (pairs.drop i)=merged [] pairs->(∀b o,h0.get? b=some o->h.get? b=some o)->h.IsListIter I a i->h.DictOf (bY P w) d kvs->
   codeAny (model P w) A (.builtin "dict.update.loop" ⟨[.ref d,.ref I,rawInt i,.none],[]⟩) aw {s with heap:=h,toks:=tk}:=by
 have lof:∀{h:Heap},(∀b o,h0.get? b=some o->h.get? b=some o)->h.IsList a aq.toArray:=fun{h} k=>by obtain⟨o,e,x⟩:=hl;exact⟨o,k _ _ e,x⟩
 have nd:∀{b:Addr} {o:Obj},h0.get? b=some o->b≠d:=fun{b o} e z=>by rw[z,WW]at e;cases e
 have nI:∀{b:Addr} {o:Obj},h0.get? b=some o->b≠I:=fun{b o} e z=>by rw[z,hI0]at e;cases e
 intro r
 induction r with
 |zero=>
  intro i h tk kvs hr hi hk hm kp it dd;have e:i=pairs.length:=by omega
  subst e;refine fE zH ?_
  rw[gG qB _];show wpAny _ A.in1 (pyNext (.ref I)>>=_) _ _ _;refine aP (wpAny_pyNext_list_end hh it (lof kp) (by simp[b9]) fun h' eb=>?_);rw[oK]at hm;have Fu:h'.DictOf (bY P w) d kvs:=by
   obtain⟨o,es,ep,e,x⟩:=dd;exact⟨o,es,ep,eb d o hdI e,x⟩
  show wpAny _ A.in1 (Builtin.Dict.addKeywords d []>>=_) _ _ _;refine aP (a_ (a_ ?_));exact hR h' tk (fun b o e=>eb b o (nI e) (kp b o e)) (by rw[<-hm];exact Fu)
 |succ r ih=>
  intro i h tk kvs hr hi hk hm kp it dd;have f_:i<pairs.length:=by omega
  have hli:i<aq.length:=by omega
  obtain⟨ad,key,k,v,et,tp,Jf,ep⟩:=hp i aq[i] (by simp[hli]);have IU:pairs[i]=(k,v):=by rw[bQ f_]at ep;exact Option.some.inj ep
  refine fE zH ?_
  rw[gG qB _];show wpAny _ A.in1 (pyNext (.ref I)>>=_) _ _ _;refine aP (wpAny_pyNext_list_item it (lof kp) (x:=.ref ad) (by simp[hli,et]) fun h' it' sb=>?_);have kp':∀b o,h0.get? b=some o->h'.get? b=some o:=fun b o e=>(sb.2 b (nI e)).trans (kp b o e);have Fu:h'.DictOf (bY P w) d kvs:=by
   obtain⟨o,es,ep,e,x⟩:=dd;exact⟨o,es,ep,(sb.2 d hdI).trans e,x⟩
  obtain⟨ot,e1,e2,n,e3⟩:=tp;have hT:Shared.TypeIs {s with heap:=h',toks:=tk} (.ref ad) "tuple":=⟨ot,kp' _ _ e1,e2⟩;refine aP ?_
  refine fi ?_
  refine aP (kA ?_);unfold Builtin.Dict.pairItems;refine aP (sN hT ?_);rw[aS (by decide)];refine aP (gL (kp' _ _ e1) e3 ?_);refine a_ ?_
  show wpAny _ A.in1 (holding [key,v] (dictSet d key v)) _ _ _;refine fi (wpAny_dictSet_pairs (knd:=bY P w) (hsz:=by rw[dH];omega) Jf Fu fun h2 Ue sb2=>?_);show wpAny _ A.in1 (pure _) _ _ _;refine a_ ⟨gM qB _,?_⟩;have hc:rawInt ((i:Int)+1)=rawInt ((i+1:Nat):Int):=by push_cast;rfl
  rw[hc];refine ih (i+1) h2 _ (stored kvs k v) (by omega) f_ ?_ ?_ (fun b o e=>(sb2.2 b (nd e)).trans (kp' b o e)) ?_ Ue
  ·exact cw (stored_length_le kvs k v) (by omega)
  ·rw[oh f_,IU]at hm;exact hm
  ·obtain⟨o,e,x⟩:=it';exact⟨o,(sb2.2 I (Ne.symm hdI)).trans e,x⟩
theorem EI{pairs:List (Key×Value)}{sl0:Array (Option Value)}(hh:A.handled=none)(hx:s.heap.get? a=some {cls:=.type "list",dict:=none,data:=.seq aq.toArray i,slots:=sl0}) (b9:aq.length=pairs.length)
  (hp:∀(j:Nat) (t:Value),aq[j]?=some t->∃ad key k v,t=.ref ad/\s.heap.IsTuple ad #[key,v]/\ml k key=true/\pairs[j]?=some (k,v)) (hz:pairs.length<=100000)
  (h:∀h' vz,(∀b o,s.heap.get? b=some o->h'.get? b=some o)->h'.DictOf (bY P w) s.heap.objs.size (merged [] pairs)->Q (.ref s.heap.objs.size) {s with heap:=h',toks:=vz}):
  wpAny (model P w) A (call (.type "dict") [.ref a]) Q E s:=by
 refine callType_codes (Q₁:=fun obj cZ=>obj=.ref s.heap.objs.size/\cZ={s with heap:=s.heap.push {cls:=.type "dict",data:=.dict #[]}}) F.kt_called_dict (F.kt_typeCall_dict_1 _) F.entry_dict_init (kt_code_dict_new _ ⟨rfl,rfl⟩) ?_
 rintro obj cZ ⟨rfl,rfl⟩
 have Jr:(s.heap.push {cls:=.type "dict",data:=.dict #[]}).DictOf (bY P w) s.heap.objs.size []:=Heap.DictOf.new s.heap;have hx1:=bL {cls:=.type "dict",data:=.dict #[]} hx;have hT:Shared.TypeIs {s with heap:=s.heap.push {cls:=.type "dict",data:=.dict #[]}} (.ref a) "list":=⟨_,hx1,rfl⟩;refine⟨Jr.typeIs,F.args_dict_init_2 _ _,?_⟩;unfold Builtin.«dict.__init__»;refine aP ?_
 unfold Builtin.Dict.selfAndRest;refine aP (wpAny_notOrdered_dict Jr.typeIs ?_);show wpAny _ _ (pure (s.heap.objs.size,[Value.ref a])) _ _ _;refine a_ ?_
 show wpAny _ _ (Builtin.Dict.updateFrom "dict.__init__" s.heap.objs.size (.ref a) [] .none) _ _ _;unfold Builtin.Dict.updateFrom;refine aP (sN hT ?_);rw[aS (by decide)];refine aP (EH hx1 hh fun h1 tk1 k1=>?_);rw[aS (show(none:Option Value).isNone=true from rfl)];have k2:∀b o,s.heap.get? b=some o->h1.get? b=some o:=fun b o e=>k1 b o (bL _ e);have WX:h1.get? s.heap.objs.size=some {cls:=.type "dict",data:=.dict #[]}:=k1 _ _ (cf _ rfl);have dd1:h1.DictOf (bY P w) s.heap.objs.size []:=by
  obtain⟨o,es,ep,e,x⟩:=Jr;exact⟨o,es,ep,k1 _ _ e,x⟩
 have f_:s.heap.objs.size<h1.objs.size:=bp WX;have hl:s.heap.IsList a aq.toArray:=⟨_,hx,rfl,_,rfl⟩;refine aP (fo ?_);refine aP (kn (show h1.IsList a aq.toArray from⟨_,k2 _ _ hx,rfl,_,rfl⟩) ?_);refine a_ ⟨gM qB _,?_⟩;refine KI (s:=s) (h0:=s.heap) (A:=A.in1) hh hl b9 hp (by
   cases e:s.heap.get? s.heap.objs.size with
   |none=>rfl
   |some o=>exact absurd (bp e) (eC _)) (by
   cases e:s.heap.get? h1.objs.size with
   |none=>rfl
   |some o=>exact absurd (bp (k2 _ _ e)) (eC _)) (bS f_) hz (fun h' vz kp dd=>⟨rfl,h h' vz kp dd⟩) _ 0 _ _ [] rfl (dU _) (bu _) rfl (fun b o e=>bL _ (k2 b o e)) ⟨_,cf _ rfl,rfl,rfl⟩ ?_
 obtain⟨o,es,ep,e,x⟩:=dd1;exact⟨o,es,ep,bL _ e,x⟩
end
def AQ:List Tr->Option (List (Key×Tr))
 |[]=>some []
 |.tup [k,v]::r=>match jW k,AQ r with
  |some key,some l=>some ((key,v)::l)
  |_,_=>none
 |_=>none
def EJ:List Tr->Rs Tr
 |[.lst ts]=>match AQ ts with
  |some bt=>if bt.length<=100000 then .ok (.bT (lK [] bt))else .bad
  |none=>.bad
 |_=>.bad
theorem H_(h:AQ (aB::ts)=some aF):∃k v key l,aB=.tup [k,v]/\jW k=some key/\AQ ts=some l/\aF=(key,v)::l:=by
 unfold AQ at h;split at h
 ·cases‹aB::ts=[]›
 ·rename_i k v r e;cases e;cases e1:jW k with
  |none=>rw[e1]at h;cases h
  |some key=>
   cases e2:AQ ts with
   |none=>rw[e1,e2]at h;cases h
   |some l=>rw[e1,e2]at h;cases h;exact⟨k,v,key,l,rfl,e1,rfl,rfl⟩
 ·cases h
theorem Gf(I:Inv X U Z H s):∀{vs:List V} {ts:List Tr} {bt:List (Key×Tr)} {cc:List Value},bI X.K (bV B H) vs ts->AQ ts=some bt->Vals vs cc->
  ∃(kvs:List (Key×V)) (ps:List (Key×Value)),dQ X.K (bV B H) kvs bt/\KV kvs ps/\cc.length=ps.length/\∀(j:Nat) (t:Value),cc[j]?=some t->∃ad key k v,t=.ref ad/\s.heap.IsTuple ad #[key,v]/\ml k key=true/\ps[j]?=some (k,v)
 |[],[],_,_,_,e,rv=>by cases e;cases rv;exact⟨[],[],.nil,.nil,rfl,fun j t e=>by simp at e⟩
 |[],_::_,_,_,h,_,_=>by cases h
 |v::vs,ts,bt,cc,h,e,rv=>by
  cases h with
  |cons h r=>
   obtain⟨k,w',key,l,rfl,ek,el,rfl⟩:=H_ e;cases rv with
   |cons h1 rv=>
    obtain⟨kvs,ps,q1,q2,q3,q4⟩:=Gf I r el rv;obtain⟨ad,us,rfl,hq,rr⟩:=h.dI;cases h1;obtain⟨x1,x2,rfl,rk,o9⟩:=zf rr;obtain⟨wZ,Mo,pl,_⟩:=I.tuple (ba.tup bD hq);obtain⟨u1,u2,rfl,r1,r2⟩:=vals2 Mo;cases m_ rk ek;refine⟨(key,_)::kvs,(key,u2)::ps,.cons o9 q1,.cons ⟨rfl,r2⟩ q2,by rw[dg,dg,q3],fun j t et=>?_⟩;cases j with
    |zero=>cases et;exact⟨ad,u1,key,u2,rfl,pl,pd (P:=X.prog) (w:=X.w) r1,rfl⟩
    |succ j=>exact q4 j t et
theorem Gg(hc:X.calm=true):gn X (.type "dict") (rF X EJ):=by
 intro U s Z H xs us Q I rv ⟨B,ts,hb,r,q⟩;have key:∃Ee bt,ts=[.lst Ee]/\AQ Ee=some bt/\bt.length<=100000/\∀v H',ba H H'->Rep X.K (bV B H') v (.bT (lK [] bt))->(∀p,v=.ref p->RU H H' p)->Q v H':=by
  unfold EJ at q;split at q
  ·rename_i Ee;cases e:AQ Ee with
   |none=>rw[e]at q;exact fe q
   |some bt=>
    rw[e]at q;obtain⟨h0,z⟩:=gq q;exact⟨Ee,bt,rfl,e,h0,z⟩
  ·exact fe q
 obtain⟨Ee,bt,rfl,ep,hz,k⟩:=key;obtain⟨x,rfl,h⟩:=fM r;obtain⟨a,vs,rfl,h,rr⟩:=h.lst_inv;obtain⟨u,rfl,ru⟩:=vals1 rv;cases(show u=Value.ref a from ru);obtain⟨z0,cc,n0,rvs,hx⟩:=(show cR X.prog X.w H s.heap a (.lst vs)from I.cP a _ (dX h));obtain⟨kvs,ps,q1,q2,q3,q4⟩:=Gf I rr ep rvs;have hl:kvs.length=bt.length:=q1.length;have hlp:ps.length<=100000:=by rw[<-KV.length q2,hl];exact hz
 refine EI (I.ok.hd hc) hx q3 q4 hlp fun h' vz kp dd=>?_
 have hf:H s.heap.objs.size=none:=I.fresh;have hlm:(iD [] kvs).length<=sizeLine:=by have:=i8 kvs [];rw[wD]at this;rw[dH];omega
 have hsm:(s.heap.objs.size==sysModules)=false:=by
  have:=I.big;exact jT (dB this)
 refine⟨.ref s.heap.objs.size,_,I.laid (t':=vz) (o:=.dK (iD [] kvs)) kp (bu _) (w4 hlm hsm (q2.merge .nil) dd),rfl,k _ _ (ba.upd hf) (.bT (.inl (hb.new hf)) ?_ ?_) fun p' e=>by cases e;exact .upd hf (fun _ _ z=>by cases z)⟩
 ·exact(dQ.merge q1 dQ.nil).keys
 ·exact(dQ.merge q1 dQ.nil).vals.same (bE (ba.upd hf))
section
variable {prog:Program}
def jy(x y:Int×Int):Bool:=decide (x.1<y.1\/(x.1=y.1/\x.2<y.2))
theorem int_lt{x y:Int}{t u:Tok}(h:Q (.bool (decide (x<y))) s):wpAny (model prog w) A (richCompare .Lt (.int x t) (.int y u)) Q E s:=
 CmpOf.ints_lt (prog:=prog) (w:=w) (A:=A) (P:=fun i v=>∃t,v=.int ([x,y].getD i 0) t) (fun i=>[x,y].getD i 0) (fun i v h=>h) 0 1 _ _ _ _ _ ⟨t,rfl⟩ ⟨u,rfl⟩ h
theorem AR{x y:Int×Int}{t1 t2 u1 u2:Tok}{oa ob:Obj}{nb:Nat}{P:PySem.Fin->Shared->Prop}
  (Xo:s.heap.get? a=some oa) (hda:oa.data=.seq #[.int x.1 t1,.int x.2 t2] i) (NN:s.heap.get? au=some ob) (fq:ob.data=.seq #[.int y.1 u1,.int y.2 u2] nb) (hTb:s.TypeIs (.ref au) "tuple")
  (h:P (.done (.ret (.bool (jy x y)))) s):wpAny (model prog w) A (Builtin.«tuple.__lt__» ⟨[.ref a,.ref au],[]⟩) P E s:=by
 show wpAny _ _ (isInstance (.ref au) (.type "tuple")>>=_) _ _ s;refine aP (oR hTb isSubtype_tuple_tuple ?_);simp only[dz,cW,cx];refine aP (wpAny_tupleItemsOf Xo hda ?_);refine aP (wpAny_tupleItemsOf NN fq ?_);refine aP ?_
 show wpAny _ _ (forIn [(Value.int x.1 t1,Value.int y.1 u1),(Value.int x.2 t2,Value.int y.2 u2)] _ _) _ _ s;rw[oO];refine aP (aP (wpAny_eqBool_int ?_));by_cases e1:x.1=y.1
 ·rw[eV.mpr e1];simp only[dz,cW,cx];refine a_ ?_
  dsimp only;rw[oO];refine aP (aP (wpAny_eqBool_int ?_));by_cases e2:x.2=y.2
  ·rw[eV.mpr e2];simp only[dz,cW,cx];refine a_ ?_
   dsimp only;rw[wM];refine a_ (a_ ?_);have e:jy x y=false:=by unfold jy;exact fh (by omega)
   rw[e]at h;exact h
  ·rw[jT e2];simp only[eR,cK];have e:jy x y=decide (x.2<y.2):=by unfold jy;exact wC.mpr (by omega)
   rw[e]at h;exact aP (fo (aP (int_lt (aP (a_ (a_ (a_ (a_ h))))))))
 ·rw[jT e1];simp only[eR,cK];have e:jy x y=decide (x.1<y.1):=by unfold jy;exact wC.mpr (by omega)
  rw[e]at h;exact aP (fo (aP (int_lt (aP (a_ (a_ (a_ (a_ h))))))))
theorem N8{x y:Int×Int}{t1 t2 u1 u2:Tok}{oa ob:Obj}{nb:Nat}(hu:A.units<cLine)
  (Xo:s.heap.get? a=some oa) (hca:oa.cls=.type "tuple") (hda:oa.data=.seq #[.int x.1 t1,.int x.2 t2] i) (NN:s.heap.get? au=some ob) (hcb:ob.cls=.type "tuple") (fq:ob.data=.seq #[.int y.1 u1,.int y.2 u2] nb)
  (h:Q (.bool (jy x y)) s):wpAny (model prog w) A (richCompare .Lt (.ref a) (.ref au)) Q E s:=
 wpAny_richCompare_same_room (op:=.Lt) (T:="tuple") ⟨oa,Xo,hca⟩ ⟨ob,NN,hcb⟩ F.slot_tuple_lt (gJ F.slot_tuple_lt ⟨oa,Xo,hca⟩ F.entry_tuple_lt (AR Xo hda NN fq ⟨ob,NN,hcb⟩ ⟨_,rfl,(fun e=>nomatch e),h⟩) (F.args_tuple_lt_2 _ _)) hu
end
def c_(kf:Nat->Int×Int):Nat->Nat
 |0=>0
 |j+1=>if jy (kf (j+1)) (kf (c_ kf j))=true then j+1 else c_ kf j
section
variable {f l S I:Addr}{fd:FuncData}{k:Nat}{kf:Nat->Int×Int}
theorem CT(G:d5 X.prog X.w X.K X.mg X.base lX k f fd ps (spT X.K h))(bd:Binds X.K fd ps [])(hr:cV (k+1) X.A){v:V}{t:Tr}{p:Int×Int}
  (Iv:Inv X U Z H s) (hq:(au,PySem.W.methodObj (.ref f) (.ref a))∈U) (hb:HB B H) (ro:Rep X.K (bV B H) (.ref a) aB) (rt:Rep X.K (bV B H) v t) (rv:RelV v af) (he:h [aB,t]=.ok (.tup [.int p.1,.int p.2])):
  wpAny (model X.prog X.w) X.A.in1 (call (.ref au) [af]) (fun w' s'=>∃kb H',w'=.ref kb/\Inv X U Z H' s'/\ba H H'/\i7 X.K H' kb [.int p.1,.int p.2]) E s:=by
 have Jn:spT X.K h [.ref a,v] H (fun v' H'=>ba H H'/\Rep X.K (bV B H') v' (.tup [.int p.1,.int p.2])) E0:=⟨B,[aB,t],hb,.cons ro (.cons rt .nil),_,he,fun v' H' sm r=>⟨sm,r⟩⟩;have hl:([.ref a,af]++[]:List Value).length=ps.length:=G.len _ _ _ _ Jn;refine o5 (PySem.W.method_call (Iv.pin _ (dk _ hq)).1 ?_);refine hW (G.run X.A.in1 X.stack s H ⟨[.ref a,af],[]⟩ [.ref a,af] [.ref a,v] _ E0 hr.in1 Iv.QQ.in1 (bd s [.ref a,af] Iv.lH hl) (.cons rfl (.cons rv .nil)) Jn) fun r s' hx=>?_
 match r,hx with
 |.ok (.ret w'),hx=>
  obtain⟨v',H',I',Hm,sm,rep⟩:=Iv.after hx;obtain⟨kb,vs,rfl,hT,rr⟩:=rep.dI;obtain⟨x,y,rfl,r1,r2⟩:=zf rr;rw[r1.int_inv,r2.int_inv]at hT;exact⟨kb,H',Hm,I',sm,ba.tup bD hT⟩
end
section
variable {f l S I:Addr}{fd:FuncData}{k:Nat}{kf:Nat->Int×Int}
theorem CU{p:Int×Int}(Iv:Inv X U Z H s)(hT:i7 X.K H a [.int p.1,.int p.2]):∃ob t1 t2 n,s.heap.get? a=some ob/\ob.cls=.type "tuple"/\ob.data=.seq #[.int p.1 t1,.int p.2 t2] n:=by
 obtain⟨cc,rv,⟨ob,e,hc,n,hd⟩,_⟩:=Iv.tuple hT;obtain⟨u1,u2,rfl,r1,r2⟩:=vals2 rv;obtain⟨t1,rfl⟩:=(show∃t,u1=Value.int p.1 t from r1);obtain⟨t2,rfl⟩:=(show∃t,u2=Value.int p.2 t from r2);exact⟨ob,t1,t2,n,e,hc,hd⟩
theorem Gh{c:HO}{vs:List V}(gV:a≠S)(hT:i7 K H a vs):i7 K (upd H S c) a vs:=by
 rcases hT with(hT|⟨o3,hT⟩)|hT
 ·exact .inl (.inl (by rw[bb gV];exact hT))
 ·exact .inl (.inr ⟨o3,by rw[bb gV];exact hT⟩)
 ·exact .inr hT
theorem KJ{l:List V}(Iv:Inv X U Z H s)(hT:i7 X.K H a ar)(e:H S=some (.lst l)):a≠S:=fun z=>by
 subst z;rcases hT with(hT|⟨aB,hT⟩)|⟨aB,cc,n,hk,_⟩
 ·rw[e]at hT;cases hT
 ·rw[e]at hT;cases hT
 ·rw[(Iv.bs _ _ (Iv.ok.mod.O2 _ _ hk)).2]at e;cases e
theorem Ia(hc:X.calm=true)(G:d5 X.prog X.w X.K X.mg X.base lX k f fd ps (spT X.K h))(bd:Binds X.K fd ps [])(hr:cV (k+1) X.A)(hq:(au,PySem.W.methodObj (.ref f) (.ref a))∈U)
  (hS:ac S=none) (hb:HB B ac) (ro:Rep X.K (bV B ac) (.ref a) aB) (rx:bI X.K (bV B ac) ar ts) (hl:ll X.K ac l ar) (Xp:l≠I)
  (hk:∀i t,ts[i]?=some t->h [aB,t]=.ok (.tup [.int (kf i).1,.int (kf i).2]))
  (hR:∀xb u H s,ar[c_ kf (ar.length - 1)]?=some xb->Inv X U Z H s->ba ac H->RelV xb u->aw (.ok (.ret u)) s):
  ∀(r j:Nat) (s:Shared) (H:Hp) (xb:V) (kb:Addr),ar.length - (j+1)=r->j+1<=ar.length->Inv X U Z H s->ba ac H->H S=some (.lst [xb,.ref kb])->ar[c_ kf j]?=some xb->
   i7 X.K H kb [.int (kf (c_ kf j)).1,.int (kf (c_ kf j)).2]->s.heap.IsListIter I l (j+1)->kD X U H I->
   codeAny (model X.prog X.w) X.A (.builtin "min.loop" ⟨[.ref I,.ref au,.ref S],[]⟩) aw s:=by
 have CV:(toString "min"++toString ".loop":String)="min.loop":=by decide
 intro r
 induction r with
 |zero=>
  intro j s H xb kb SQ hj Iv sm UA CW hT hit yS;have kU:j+1=ar.length:=by omega
  obtain⟨cc,rv,pl,_⟩:=Iv.list (ba.seq sm hl);have b9:cc.length=ar.length:=rv.length.symm;have W:=Walks.list (prog:=X.prog) (w:=X.w) (A:=X.A.in1) (Iv.ok.hd hc) I l Xp cc.toArray;obtain⟨_,wZ,n2,Mo,_,eS⟩:=Iv.yL UA;obtain⟨u,u2,rfl,ru,WO⟩:=vals2 Mo;cases(show u2=Value.ref kb from WO);refine fE wg ?_
  rw[gG mW _];show wpAny _ X.A.in1 (seqItems? (.ref S)>>=_) _ _ _;refine aP (gL eS rfl ?_);show wpAny _ X.A.in1 (tryCatch (pyNext (.ref I)) _>>=_) _ _ _;refine aP (kA (W.done _ _ _ ⟨by rw[cO,b9,<-kU];exact hit,pl.isList⟩ fun h' vz NO=>?_));have I1:Inv X U Z H {s with heap:=h',toks:=vz}:=Iv.qv (ch:=[I]) (fun b hb=>by rw[cX.mp hb];exact yS) NO;obtain⟨_,Xq,n3,Y_,_,eS'⟩:=I1.yL UA;have I2:=I1.MT (sR:=[]) (f:=fun _=>(#[]:Array Value)) (t':=vz) UA eS' rfl .nil (dU _);show wpAny _ X.A.in1 (updateSeq S (fun _=>#[])>>=_) _ _ _;refine aP (oV eS' rfl (aP (mh (a_ ?_))));refine hR xb u _ _ ?_ I2 (sm.Al hS) ru
  rw[<-kU];exact CW
 |succ r ih=>
  intro j s H xb kb SQ hj Iv sm UA CW hT hit yS;have f_:j+1<ar.length:=by omega
  obtain⟨cc,rv,pl,_⟩:=Iv.list (ba.seq sm hl);have b9:cc.length=ar.length:=rv.length.symm;have W:=Walks.list (prog:=X.prog) (w:=X.w) (A:=X.A.in1) (Iv.ok.hd hc) I l Xp cc.toArray;obtain⟨_,wZ,n2,Mo,_,eS⟩:=Iv.yL UA;obtain⟨u,u2,rfl,ru,WO⟩:=vals2 Mo;cases(show u2=Value.ref kb from WO);refine fE wg ?_
  rw[gG mW _];show wpAny _ X.A.in1 (seqItems? (.ref S)>>=_) _ _ _;refine aP (gL eS rfl ?_);show wpAny _ X.A.in1 (tryCatch (pyNext (.ref I)) _>>=_) _ _ _;refine aP (kA (W.item (j+1) _ _ _ (by rw[cO,b9];exact f_) ⟨hit,pl.isList⟩ fun v h' vz hP J' NO=>?_));refine hide fun P go=>?_
  have hv:cc[j+1]?=some v:=by simpa using hP
  obtain⟨xv,SR⟩:∃y,ar[j+1]?=some y:=⟨_,bQ f_⟩
  obtain⟨v',Jg,Xr⟩:=rv.get SR;cases hv.symm.trans Jg;obtain⟨tv,htv,rtv⟩:=rx.xi SR;have I1:Inv X U Z H {s with heap:=h',toks:=vz}:=Iv.qv (ch:=[I]) (fun b hb=>by rw[cX.mp hb];exact yS) NO;obtain⟨oI,hoI,Qm,UB⟩:=id J'.1;have I1p:Inv X ((I,oI)::U) Z H {s with heap:=h',toks:=vz}:=I1.jV fun p hp=>by
   rcases bB.mp hp with rfl|hp
   ·exact⟨hoI,yS.1,yS.2.1,yS.2.2.1,fun v z=>by rw[UB]at z;cases z⟩
   ·exact I1.pin p (dk _ hp)
  refine go ?_
  show wpAny _ X.A.in1 (tryCatch (holding [v] (call (.ref au) [v])) _>>=_) _ _ _;refine aP (kA (fi (dW (CT G bd hr I1p (b_ _ hq) (hb.same sm) (ro.same (bE sm)) (rtv.same (bE sm)) Xr (hk _ _ htv)) (fun w' s2 hw=>?_) fun _ _ x=>x)));obtain⟨kb2,H2,rfl,SS,IL,UC⟩:=hw;refine hide fun P go=>?_
  have nI:=SS.pin (I,oI) (dk _ (cp ..));have I2:Inv X U Z H2 s2:=SS.jV fun p hp=>SS.pin p (dk _ (b_ _ hp));have yT:H2 S=some (.lst [xb,.ref kb]):=IL _ _ UA;obtain⟨_,Xq,n3,Y_,_,Xs⟩:=I2.yL yT;obtain⟨oa,t1,t2,na,ea,ca,da⟩:=CU I2 UC;obtain⟨ob,t3,t4,nb,eb,cb,db⟩:=CU I2 (IL.tup hT);have hu:X.A.in1.units<cLine:=sj (by show X.A.units+1<=X.A.units+16*(k+1)+200;omega) hr.un;have aax:kD X U H2 I:=⟨nI.2.1,yS.2⟩;have SU:ba ac H2:=sm.trans IL;refine go ?_
  show wpAny _ X.A.in1 (tryCatch (holding [v,.ref kb2] (richCompare .Lt (.ref kb2) (.ref kb)>>=_)) _>>=_) _ _ _;refine aP (kA (fi (aP (N8 (x:=kf (j+1)) (y:=kf (c_ kf j)) hu ea ca da eb cb db ?_))));refine aP (fi (oM ?_));refine aP (mh (a_ ?_));by_cases II:jy (kf (j+1)) (kf (c_ kf j))=true
  ·have Xt:c_ kf (j+1)=j+1:=aS II;have I3:=I2.MT (sR:=[v,.ref kb2]) (f:=fun _=>(#[v,.ref kb2]:Array Value)) (ys:=[xv,.ref kb2]) (t':=s2.toks) yT Xs rfl (.cons Xr (.cons rfl .nil)) (by show 2<=sizeLine;decide);simp only[II,cK];refine aP (oV Xs rfl (aP (mh ?_)));rw[CV];have Mn:S≠I:=fun z=>by rw[z,nI.2.1]at yT;cases yT
   have hkS:kb2≠S:=KJ I2 UC yT;refine a_ ⟨gM mW _,ih (j+1) _ _ xv kb2 (by omega) f_ I3 (SU.Al hS) bG (by rw[Xt];exact SR) ?_ ⟨oI,(mY s2.heap _ Mn).trans nI.1,Qm,UB⟩ ⟨by rw[bb Mn.symm];exact nI.2.1,yS.2⟩⟩;rw[Xt];exact Gh hkS UC
  ·have Xt:c_ kf (j+1)=c_ kf j:=aW II;simp only[II,cx];refine aP (mh ?_);rw[CV];refine a_ ⟨gM mW _,ih (j+1) s2 H2 xb kb (by omega) f_ I2 SU yT (by rw[Xt];exact CW) (by rw[Xt];exact IL.tup hT) ⟨oI,nI.1,Qm,UB⟩ aax⟩
end
section
variable {f l S I:Addr}{fd:FuncData}{k:Nat}{xs:List V}{kf:Nat->Int×Int}
theorem Ib(hc:X.calm=true)(G:d5 X.prog X.w X.K X.mg X.base lX k f fd ps (spT X.K h))(bd:Binds X.K fd ps [])(hr:cV (k+1) X.A)(hq:(au,PySem.W.methodObj (.ref f) (.ref a))∈U)
  (Iv:Inv X U Z H s) (hb:HB B H) (ro:Rep X.K (bV B H) (.ref a) aB) (rx:bI X.K (bV B H) xs ts) (hl:ll X.K H l xs) (gV:0<xs.length)
  (hk:∀i t,ts[i]?=some t->h [aB,t]=.ok (.tup [.int (kf i).1,.int (kf i).2])) {Q:VK}
  (hQ:∀xb H',xs[c_ kf (xs.length - 1)]?=some xb->ba H H'->Q xb H'):
  wpAny (model X.prog X.w) X.A (call (.builtin "min") [.ref l] [(Str.ofString "key",.ref au)]) (EP X U Z Q) X.xe s:=by
 have CV:(toString "min"++toString ".loop":String)="min.loop":=by decide
 obtain⟨cc,rv,pl,_⟩:=Iv.list hl;have b9:cc.length=xs.length:=rv.length.symm;have Uz:=pl.isList;obtain⟨ol,PK,_⟩:=id Uz;have hll:l<s.heap.objs.size:=bp PK;refine kmk_tree PySem.F.kind_min PySem.F.plain_min PySem.F.entry_min (kmk_min_key _ _) ?_
 show wpAny _ X.A.in1 (Builtin.Builtins.bindParams "min" ["key","default"] 0 ⟨[],[(Str.ofString "key",.ref au)]⟩>>=_) _ _ s;refine aP (wpAny_of_eq (show Builtin.Builtins.bindParams "min" ["key","default"] 0 ⟨[],[(Str.ofString "key",.ref au)]⟩=pure [some (.ref au),none]from rfl) ?_);refine aP (a_ ?_);refine aP (kn Uz ?_);refine aP (oY ?_ (dU _));rw[CV];have Xp:l≠s.heap.objs.size:=bS hll;have I1:Inv X U Z H {s with heap:=s.heap.push {cls:=.type "list_iterator",data:=.fields #[.ref l,.int 0 0]}}:=Iv.kept (t':=s.toks) fun b u e=>bL _ e;have I2:=I1.MU (cc:=[]) (ys:=[]) (t':=s.toks) .nil (dU _);have hSe:(s.heap.push {cls:=.type "list_iterator",data:=.fields #[.ref l,.int 0 0]}).objs.size=s.heap.objs.size+1:=size_push' ..;have Mn:(s.heap.push {cls:=.type "list_iterator",data:=.fields #[.ref l,.int 0 0]}).objs.size≠s.heap.objs.size:=by rw[hSe];exact l_ _
 have Za:H (s.heap.push {cls:=.type "list_iterator",data:=.fields #[.ref l,.int 0 0]}).objs.size=none:=I1.fresh;have gI:((s.heap.push {cls:=.type "list_iterator",data:=.fields #[.ref l,.int 0 0]}).push {cls:=.type "list",data:=.seq (List.toArray [])}).get? s.heap.objs.size=some {cls:=.type "list_iterator",data:=.fields #[.ref l,.int 0 0]}:=
  bL _ (cf _ rfl)
 generalize hS:(s.heap.push {cls:=.type "list_iterator",data:=.fields #[.ref l,.int 0 0]}).objs.size=S at I2 Mn Za;have yS:kD X U (upd H S (.lst [])) s.heap.objs.size:=Iv.wR (bu _) (by rw[bb Mn.symm];exact Iv.fresh);have Xu:ba H (upd H S (.lst [])):=ba.upd Za;refine a_ ⟨gM mW _,?_⟩;have W:=Walks.list (prog:=X.prog) (w:=X.w) (A:=X.A.in1) (Iv.ok.hd hc) s.heap.objs.size l Xp cc.toArray;obtain⟨_,wZ,n2,Mo,_,eS⟩:=I2.yL bG;cases Mo;obtain⟨sR,Hm,pl',_⟩:=I2.list (ba.seq Xu hl);have ei:sR=cc:=by
  obtain⟨o1,n1,e1,_,_,d1⟩:=pl;obtain⟨o2,n2,e2,_,_,d2⟩:=pl';have e3:((s.heap.push {cls:=.type "list_iterator",data:=.fields #[.ref l,.int 0 0]}).push {cls:=.type "list",data:=.seq (List.toArray [])}).get? l=some o1:=bL _ (bL _ e1);have e2':((s.heap.push {cls:=.type "list_iterator",data:=.fields #[.ref l,.int 0 0]}).push {cls:=.type "list",data:=.seq (List.toArray [])}).get? l=some o2:=e2;rw[e3]at e2';cases e2';rw[d1]at d2;injection d2 with d3 _
  simpa using(cQ Array.toList d3).symm
 subst ei;refine fE wg ?_
 rw[gG mW _];show wpAny _ X.A.in1 (seqItems? (.ref S)>>=_) _ _ _;refine aP (gL eS rfl ?_);show wpAny _ X.A.in1 (tryCatch (pyNext (.ref s.heap.objs.size)) _>>=_) _ _ _;refine aP (kA (W.item 0 _ _ _ (by rw[cO,b9];exact gV) ⟨⟨_,gI,rfl,rfl⟩,pl'.isList⟩ fun v h' vz hP J' NO=>?_));refine hide fun P go=>?_
 have hv:sR[0]?=some v:=by simpa using hP
 obtain⟨xv,SR⟩:∃y,xs[0]?=some y:=⟨_,bQ gV⟩
 obtain⟨v',Jg,Xr⟩:=rv.get SR;cases hv.symm.trans Jg;obtain⟨tv,htv,rtv⟩:=rx.xi SR;have J1:=I2.qv (h':=h') (t':=vz) (ch:=[s.heap.objs.size]) (fun b hb=>by rw[cX.mp hb];exact yS) NO;obtain⟨oI,hoI,Qm,UB⟩:=id J'.1;have J1p:=J1.jV (IV:=(s.heap.objs.size,oI)::U) fun p hp=>by
  rcases bB.mp hp with rfl|hp
  ·exact⟨hoI,yS.1,yS.2.1,yS.2.2.1,fun v z=>by rw[UB]at z;cases z⟩
  ·exact J1.pin p (dk _ hp)
 refine go ?_
 show wpAny _ X.A.in1 (tryCatch (holding [v] (call (.ref au) [v])) _>>=_) _ _ _;refine aP (kA (fi (dW (CT G bd hr J1p (b_ _ hq) (hb.same Xu) (ro.same (bE Xu)) (rtv.same (bE Xu)) Xr (hk _ _ htv)) (fun w' s2 hw=>?_) fun _ _ x=>x)));obtain⟨kb2,H2,rfl,SS,IL,UC⟩:=hw;refine hide fun P go=>?_
 have nI:=SS.pin (s.heap.objs.size,oI) (dk _ (cp ..));have J2:Inv X U Z H2 s2:=SS.jV fun p hp=>SS.pin p (dk _ (b_ _ hp));have yT:H2 S=some (.lst []):=IL _ _ bG;obtain⟨_,Xq,n3,Y_,_,Xs⟩:=J2.yL yT;have J3:=J2.MT (sR:=[v,.ref kb2]) (f:=fun _=>(#[v,.ref kb2]:Array Value)) (ys:=[xv,.ref kb2]) (t':=s2.toks) yT Xs rfl (.cons Xr (.cons rfl .nil)) (by show 2<=sizeLine;decide);have hkS:kb2≠S:=KJ J2 UC yT;have SU:ba H H2:=Xu.trans IL;refine go ?_
 show wpAny _ X.A.in1 (updateSeq S (fun _=>#[v,.ref kb2])>>=_) _ _ _;refine aP (oV Xs rfl ?_);rw[CV];refine a_ ⟨gM mW _,?_⟩;exact Ia hc G bd hr hq Za hb ro rx hl Xp hk (fun xb u H' s' hx I' sm' ru=>⟨xb,H',I',ru,hQ xb H' hx sm'⟩) (xs.length - 1) 0 _ _ xv kb2 rfl gV J3 (SU.Al Za) bG SR (Gh hkS UC)
  ⟨oI,(mY s2.heap _ Mn).trans nI.1,Qm,UB⟩ ⟨by rw[bb Mn.symm];exact nI.2.1,yS.2⟩
end
open Builtin Builtin.ObjectAttr
structure zI(K:Frag)(f:Addr):Prop where
 get:PySem.W.specialIn K (.ref f) "__get__"=some (some (.builtin "function.__get__"))
 tk:PySem.W.takesIn K (.ref f)=some false
theorem CY{dx g:Addr}{fs:List (Str×V)}{b:Bool}(I:Inv X U Z H s)(e:H a=some (.ins au dx fs))(c:DV X.K au)(k:Meth X.K au x g)(l:fs.lookup x=none)(hg:zI X.K g)
  (SV:PySem.W.copiedNames.contains x=false) (h:∀q s',Inv X ((q,PySem.W.methodObj (.ref g) (.ref a))::U) Z H s'->Q (.ref q) s'):wpAny (model X.prog X.w) A (getAttr (.ref a) x b) Q E s:=by
 obtain⟨mA,O,r,_,_,_⟩:=sV I.cP e;have hn:mA x=none:=lG.none_of (by rw[<-l];exact r x);obtain⟨od,J,hl⟩:=O.look;refine PySem.W.get_bind I.lH J (oz (c.get x)).1 (PySem.W.findObj_fn c.hd k.at_ hg.get hg.tk SV (by rw[hl,hn])) (oz (c.get x)).2 (o5 (PySem.W.fn_get (s:={s with toks:=s.toks+1}) I.lH (eV.mp k.fn) (PySem.W.handed_on rfl (h s.heap.objs.size _ ?_))));have I1:Inv X U Z H {s with heap:=s.heap.push (PySem.W.methodObj (.ref g) (.ref a)),toks:=s.toks+1}:=I.kept fun b u e=>bL _ e;refine I1.jV fun p hp=>?_
 rcases bB.mp hp with rfl|hp
 ·exact⟨cf _ rfl,I.fresh,dB I.lt,I.US (bu _),fun v z=>by cases z⟩
 ·exact I1.pin p (dk _ hp)
def keyOf(r:Rs Tr):Option (Int×Int):=match r with
 |.ok (.tup [.int x,.int y])=>some (x,y)
 |_=>none
theorem KL{r:Rs Tr}{p:Int×Int}(h:keyOf r=some p):r=.ok (.tup [.int p.1,.int p.2]):=by
 unfold keyOf at h;split at h
 ·cases h;rfl
 ·cases h
def keysOf(h:List Tr->Rs Tr)(o:Tr):List Tr->Option (List (Int×Int))
 |[]=>some []
 |t::ts=>(keyOf (h [o,t])).bind fun k=>(keysOf h o ts).map fun ks=>k::ks
theorem zJ{o:Tr}:∀{ts:List Tr} {ks:List (Int×Int)},keysOf h o ts=some ks->∀i t,ts[i]?=some t->h [o,t]=.ok (.tup [.int (ks.getD i (0,0)).1,.int (ks.getD i (0,0)).2])
 |[],_,_,i,t,e=>by simp at e
 |u::ts,ks,hk,i,t,e=>by
  rw[keysOf]at hk;cases e1:keyOf (h [o,u])with
  |none=>rw[e1]at hk;cases hk
  |some k=>
   rw[e1]at hk;cases e2:keysOf h o ts with
   |none=>rw[e2]at hk;cases hk
   |some r=>
    rw[e2]at hk;cases hk;cases i with
    |zero=>simp at e;subst e;exact KL e1
    |succ i=>exact zJ e2 i t (by simpa using e)
def vf(c m:Str)(h:List Tr->Rs Tr)(tl o:Tr):Rs Tr:=match tl,o with
 |.lst ts,.ob x fs=>if x=c/\DI fs m=true/\0<ts.length then match keysOf h (.ob x fs) ts with
  |some ks=>kS ts[c_ (fun i=>ks.getD i (0,0)) (ts.length - 1)]?
  |none=>.bad
  else .bad
 |_,_=>.bad
def Gi(c m:Str)(h:List Tr->Rs Tr)(rl ro:Rs Tr):Rs Tr:=rl.bind fun tl=>ro.bind fun o=>vf c m h tl o
theorem Ic{m:Str}{o:Tr}(q:Fi X H (vf av m h aB o) aA):∃ts fs ks t,aB=.lst ts/\o=.ob av fs/\DI fs m=true/\0<ts.length/\keysOf h (.ob av fs) ts=some ks/\ts[c_ (fun i=>ks.getD i (0,0)) (ts.length - 1)]?=some t/\aA t:=by
 unfold vf at q;split at q
 ·rename_i ts x fs;by_cases hif:x=av/\DI fs m=true/\0<ts.length
  rotate_left
  ·rw[aW hif]at q;exact fe q
  rw[aS hif]at q;obtain⟨rfl,h2,h3⟩:=hif;have z:=q;cases e:keysOf h (.ob x fs) ts with
  |none=>rw[e]at z;exact fe z
  |some ks=>
   rw[e]at z;cases e2:ts[c_ (fun i=>ks.getD i (0,0)) (ts.length - 1)]? with
   |none=>simp only[e2]at z;exact fe z
   |some t=>simp only[e2]at z;exact⟨ts,fs,ks,t,rfl,rfl,h2,h3,e,e2,z⟩
 ·exact fe q
section
variable {m:Str}{fd:FuncData}{k:Nat}{kp:Pos}{O:bO->Rs Tr}
theorem KN(D:MethAt X.K av m ai ps a fd)(Bn:zI X.K a)(G:d5 X.prog X.w X.K X.mg X.base lX k a fd ps (spT X.K h))(hr:cV (k+1) X.A)(hm:X.mg "min"=none)(hl:PE X e (tP X F))(ho:PE X o (tP X O))
  (hc:X.calm=true:=by rfl) (hg:Gl X "min":=by rfl) (cz:bq [e]=true:=by rfl) (hb:isCall o=false:=by rfl) (SV:PySem.W.copiedNames.contains m=false:=by decide+kernel):
  PE X (.Call (.Name "min" p) [e] [⟨some "key",.Attribute o m b8,kp⟩] pos) (tP X fun Y=>Gi av m h (F Y) (O Y)):=by
 intro U s Z H Q I ⟨B,Y,hB,r,q⟩;refine l8 (ux (u:=.builtin "min") I hg hm rfl ?_ (by decide) (by decide));refine callWith_kw (d7 (lp hl rE (bF _ _ (bc cz).1) pos U s Z H (fun vs H1=>∃tl,bI X.K (bV B H1) vs [tl]/\ba H H1/\Fi X H ((O Y).bind fun o=>vf av m h tl o) fun t=>∀v H',ba H H'->Rep X.K (bV B H') v t->Q v H') I ?_) fun us s1 ⟨vs,H1,I1,rv,tl,rl,sm,k1⟩=>?_) (by rw[bF _ _ (bc cz).1];rfl) (cL cz)
 ·exact⟨B,Y,hB,r,q.bind.mono fun tl qt v H1 s1 r1=>⟨tl,.cons r1 .nil,s1,qt⟩⟩
 obtain⟨y,rfl,rl1⟩:=fM rl;refine kws_cons (Fl (gb hb) (d7 (ho U s1 Z H1 (fun x H2=>∃o,Rep X.K (bV B H2) x o/\ba H1 H2/\Fi X H (vf av m h tl o) fun t=>∀v H',ba H H'->Rep X.K (bV B H') v t->Q v H') I1 ⟨B,Y,hB.same sm,r.same sm,(k1.bind.same sm).mono fun o qo v H2 s2 r2=>⟨o,r2,s2,qo⟩⟩) fun u2 s2 ⟨x,H2,I2,rx,ot,ro,IL,k2⟩=>?_));obtain⟨ts,fs,ks,t,rfl,rfl,IP,SW,hks,CW,kq⟩:=Ic k2;obtain⟨a1,xs,rfl,IG,FL⟩:=rl1.lst_inv;obtain⟨a2,dx,gZ,rfl,hh,ek,IJ⟩:=ro.An;obtain⟨w1,rfl,rw1⟩:=vals1 rv;cases(show w1=Value.ref a1 from rw1);cases(show u2=Value.ref a2 from rx);refine CY I2 (dX hh) D.cl D.mt (AJ ek IJ IP) Bn SV fun q s3 I3=>kws_nil ?_
 have sl:bI X.K (bV B H2) xs ts:=FL.same (bE IL);refine d7 (Ib (H:=H2) (B:=B) (xs:=xs) (ts:=ts) (kf:=fun i=>ks.getD i (0,0)) hc G D.bd hr (cp ..) I3 ((hB.same sm).same IL) (.ob hh ek IJ) sl (.of (IL _ _ (dX IG))) (by rw[sl.length];exact SW) (zJ hks) fun xb H3 hx SU=>?_) fun w3 s4 ⟨v3,H3,I4,r3,q3⟩=>⟨v3,H3,I4.jV fun p hp=>I4.pin p (dk _ (b_ _ hp)),r3,q3⟩;rw[sl.length]at hx;obtain⟨t',e',rt'⟩:=sl.xi hx;cases CW.symm.trans e';exact kq xb H3 ((sm.trans IL).trans SU) (rt'.same (bE SU))
end
def SX:Tr->Option Int->Option Int->Rs Tr
 |.tup ts,lo,hi=>.ok (.tup (Au ts lo hi))
 |t,lo,hi=>slT t lo hi
def AS(r:Rs Tr)(lo hi:Rs (Option Int)):Rs Tr:=r.bind fun t=>lo.bind fun l=>hi.bind fun h=>SX t l h
theorem EK{ts:List ag}{lo hi:Option Int}(h:ng ts.length lo hi=true):Au ts lo hi=ts:=by
 unfold ng at h;rw[bP]at h;unfold Au;rw[eq_of_beq h.1,eq_of_beq h.2,List.drop_zero,Nat.sub_zero,List.take_length]
section
variable {P1 P2:bO->Rs (Option Int)}{lo hi:Option Expr}
inductive Xv(X:Cx)(x:V)(lo:Option Int)(hi:Option Int)(H:Hp)(Q:VK):Prop
 |mk (B:eW) (t:Tr):HB B H->Rep X.K (bV B H) x t->(Fi X H (SX t lo hi) fun t=>∀v H',ba H H'->Rep X.K (bV B H') v t->Q v H')->Xv X x lo hi H Q
theorem Xw:Uk X (Xv X):=by
 intro U s Z H x v vl vu lo hi sl Q I rx hs pl pu ⟨B,t,hb,r,q⟩;by_cases hw:∃ts,t=.tup ts/\ng ts.length lo hi=true
 ·obtain⟨ts,rfl,hw⟩:=hw;have q':∀v H',ba H H'->Rep X.K (bV B H') v (.tup (Au ts lo hi))->Q v H':=q;rw[EK hw]at q';have r0:=r;cases r with
  |@tup a vs _ h rr=>
   cases rx;obtain⟨cc,r2,ht,hz⟩:=I.tuple h.up;have b9:cc.toArray.size=ts.length:=by rw[cO,<-r2.length];exact rr.length
   refine⟨"tuple",_,wa.lookup,ht.typeIs,?_⟩;unfold ng at hw;rw[bP]at hw;exact HT.qM ht hs pl pu (by rw[b9];exact⟨eq_of_beq hw.1,eq_of_beq hw.2⟩) ⟨.ref a,H,I,rfl,q' _ H (ba.refl H) r0⟩
 ·have e:SX t lo hi=slT t lo hi:=by
   cases t with
   |tup ts=>
    have:¬ng ts.length lo hi=true:=fun z=>hw ⟨ts,rfl,z⟩;exact(aW this).symm
   |_=>rfl
  rw[e]at q;exact aaf U s Z H x v vl vu lo hi sl Q I rx hs pl pu ⟨B,t,hb,r,q⟩
theorem Xx(he:PE X e (tP X F))(hl:PO X lo (tO X P1))(hu:PO X hi (tO X P2)):PE X (.Subscript e (.Slice lo hi none p) pos) (tP X fun Y=>AS (F Y) (P1 Y) (P2 Y)):=
 (Jo Xw he hl hu).weak fun Z H Q ⟨B,Y,hb,r,q⟩=>⟨B,Y,hb,r,q.bind.mono fun t qt v H1 s1 r1=>⟨B,Y,hb.same s1,r.same s1,(qt.bind.same s1).mono fun l ql H2 s2=>⟨B,Y,hb.same (s1.trans s2),r.same (s1.trans s2),(ql.bind.same (s1.trans s2)).mono fun h qh H3 s3=>
  ⟨B,t,hb.same ((s1.trans s2).trans s3),r1.same (bE (s2.trans s3)),(qh.same ((s1.trans s2).trans s3)).mono fun t qt v H4 s4 r4=>qt v H4 (((s1.trans s2).trans s3).trans s4) r4⟩⟩⟩⟩
end
def pI{α:Type}(n:Nat)(lt:Nat->Nat->Bool):PySem.W.KasT α->Option α
 |.ret a=>some a
 |.ask i j k=>if i<n/\j<n/\i≠j then pI n lt (k (lt i j))else none
theorem zK{α:Type}{n:Nat}{lt:Nat->Nat->Bool}{cmp:Nat->Nat->(Bool->Shared->Prop)->Shared->Prop}{Q:α->Shared->Prop}(hc:∀i j C,i<n->j<n->i≠j->C (lt i j) s->cmp i j C s):∀(t:PySem.W.KasT α) {a:α},pI n lt t=some a->Q a s->t.kasWp cmp Q s
 |.ret b,a,e,h=>by cases e;exact h
 |.ask i j k,a,e,h=>by
  unfold pI at e;by_cases z:i<n/\j<n/\i≠j
  ·rw[aS z]at e;exact hc i j _ z.1 z.2.1 z.2.2 (zK hc (k (lt i j)) e h)
  ·rw[aW z]at e;cases e
theorem Inv.adopt {b:Addr}{o:HO}(I:Inv X U Z H s)(h0:X.f9.heap.objs.size<=b)(f:kD X U H b)(new:cR X.prog X.w (upd H b o) s.heap b o):Inv X U Z (upd H b o) s:=by
 obtain⟨hn,hL,_,_,hC,hP⟩:=f;refine⟨I.ok,I.os,I.bare,⟨I.base.keep,I.base.slot,fun c u e n hx=>?_,I.base.there,fun c xs e=>?_,fun c u v e=>?_,fun c ps e=>?_⟩,I.loc,I.cell,?_,fun x c e=>?_,fun p hp=>?_,fun c u e=>?_,I.len⟩
 ·rw[bb (bS (cU (bp e) h0))];exact I.base.free c u e n hx
 ·have q:=I.base.mn c xs e;rw[bb (bM q hn)];exact q
 ·have q:=I.base.kT c u v e;rw[bb (bM q hn)];exact q
 ·obtain⟨more,q⟩:=I.base.m6 c ps e;exact⟨more,by rw[bb (bM q hn)];exact q⟩
 ·rw[bb hL.symm];exact I.free
 ·rw[bb (hC x c e)];exact I.fI x c e
 ·obtain⟨e,n,r⟩:=I.pin p hp;exact⟨e,by rw[bb (hP p hp)];exact n,r⟩
 ·by_cases z:c=b
  ·subst z;rw[bG]at e;cases e;exact new
  ·rw[bb z]at e;exact(I.cP c u e).o6 (fun _ _ _ q=>q) (fun d q=>by rw[bb (bM q hn)];exact q) fun d xs q=>by rw[bb (bM q hn)];exact q
def ra(H:Hp):List (Addr×List V)->Hp
 |[]=>H
 |p::r=>ra (upd H p.1 (.tup p.2)) r
theorem xW{H:Hp}:∀{l:List (Addr×List V)},(l.map (·.1)).Nodup->(∀p∈l,H p.1=none)->ba H (ra H l)/\∀p∈l,ra H l p.1=some (.tup p.2)
 |[],_,_=>⟨ba.refl H,fun p m=>(nomatch m)⟩
 |p::l,nd,hn=>by
  rw[bH,gK]at nd;have hp:H p.1=none:=hn p (cp ..);obtain⟨s,k⟩:=xW (H:=upd H p.1 (.tup p.2)) (l:=l) nd.2 fun q m=>by
   rw[bb fun z=>nd.1 (by rw[<-z];exact fV m)];exact hn q (b_ _ m)
  refine⟨(ba.upd hp).trans s,fun q m=>?_⟩;rcases bB.mp m with rfl|m
  ·exact s _ _ bG
  ·exact k q m
theorem Inv.C0:∀{l:List (Addr×List V)} {H:Hp},Inv X U Z H s->(l.map (·.1)).Nodup->(∀p∈l,X.f9.heap.objs.size<=p.1/\kD X U H p.1/\p.2.length<=sizeLine/\∃cc:List Value,Vals p.2 cc/\IsTup s.heap p.1 cc.toArray)->Inv X U Z (ra H l) s
 |[],H,I,_,_=>I
 |p::l,H,I,nd,h=>by
  rw[bH,gK]at nd;obtain⟨h0,hf,hz,cc,rv,it⟩:=h p (cp ..);refine Inv.C0 (H:=upd H p.1 (.tup p.2)) (I.adopt h0 hf ⟨hz,cc,rv,it⟩) nd.2 fun q m=>?_
  obtain⟨q0,qf,r⟩:=h q (b_ _ m);exact⟨q0,⟨by rw[bb fun z=>nd.1 (by rw[<-z];exact fV m)];exact qf.1,qf.2⟩,r⟩
def vg(v d:Addr):HO:=.ext fun h=>h.IsItemsView v d
section
variable {to:TE}
def SY(to:TE):TE:=fun Z H Q=>to Z H fun x H1=>∃d kvs,x=.ref d/\Rd H1 d (.dK kvs)/\∀v,H1 v=none->Q (.ref v) (upd H1 v (vg v d))
theorem KO(ho:PE X o to)(o_:attributeBase o "items" X.env (eval o X.env)=eval o X.env)(fJ:(b8.endLine==p.line)=true):PE X (.Call (.Attribute o "items" b8) [] [] p) (SY to):=by
 intro U s Z H Q I h;refine wpAny_Call_method0_late o_ fJ (d7 (ho U s Z H _ I h) fun v s1 ⟨x,H1,I1,r1,d,kvs,ex,hd,q1⟩=>?_);subst ex;cases(show v=Value.ref d from r1);obtain⟨hz,hs,vs,rv,hm⟩:=(show cR X.prog X.w H1 s1.heap d (.dK kvs)from hd.ok I1.cP);have hm':=hm;obtain⟨ob,es,ep,e,ex,_⟩:=hm;refine⟨"dict","dict.items",p7,PySem.F.slot_dict_items,PySem.F.type_dict_items,⟨ob,e,ex.1⟩,fun a e2=>by cases e2;exact⟨ob,e,ex.2.1⟩,mX rfl (PySem.evalArgs_none ?_)⟩;refine jh PySem.F.slot_dict_items ⟨ob,e,ex.1⟩ PySem.F.entry_dict_items (PySem.F.args_dict_items_1 _) (meets_dict_items (bY X.prog X.w) d hs) ⟨⟨vs,hm'⟩,?_⟩;refine⟨.ref s1.heap.objs.size,_,I1.laid (t':=s1.toks) (o:=vg s1.heap.objs.size d) (fun b u e=>bL _ e) (bu _) ?_,rfl,q1 _ I1.fresh⟩;have hv:(s1.heap.push {cls:=.type "dict_items",data:=.fields #[.ref d]}).IsItemsView s1.heap.objs.size d:=⟨_,cf _ rfl,rfl,rfl⟩;exact⟨hv,⟨_,cf _ rfl⟩,fun h1 h2 ⟨o1,e1,r1⟩ k=>⟨o1,k o1 e1,r1⟩⟩
end
def xX(ss:List Str)(i j:Nat):Bool:=decide ((ss.getD i "").cps.toList<(ss.getD j "").cps.toList)
def gW(ss:List Str):Option (List Nat):=if ss.length<2 then some (List.range ss.length)else(pI ss.length (xX ss) (PySem.W.kas_sort ss.length)).bind fun p=>if p.toList.all (fun i=>decide (i<ss.length))=true/\p.toList.length<=64 then some p.toList else none
theorem EL{p:List Nat}(h:gW ps=some p):p.length<=64:=by
 unfold gW at h;split at h
 ·cases h;rw[sx];omega
 ·cases e:pI ps.length (xX ps) (PySem.W.kas_sort ps.length)with
  |none=>rw[e]at h;cases h
  |some q=>
   rw[e]at h;by_cases z:q.toList.all (fun i=>decide (i<ps.length))=true/\q.toList.length<=64
   ·have h':(if q.toList.all (fun i=>decide (i<ps.length))=true/\q.toList.length<=64 then some q.toList else none)=some p:=h;rw[aS z]at h';cases h';exact z.2
   ·have h':(if q.toList.all (fun i=>decide (i<ps.length))=true/\q.toList.length<=64 then some q.toList else none)=some p:=h;rw[aW z]at h';cases h'
theorem C1{ox oy:Obj}{b:Str}{t u:Tok}{q:Value}{k:Nat}{Q:Bool->Shared->Prop}(hx:s.heap.get? a=some ox)(dx:ox.data=.seq #[.str av t,af] i) (hy:s.heap.get? au=some oy) (dy:oy.data=.seq #[.str b u,q] k) (gV:av≠b)
  (h:Q (decide (av.cps.toList<b.cps.toList)) s):wpAny (model P w) A (keyLt' (tuples' true) (.ref a) (.ref au)) Q E s:=by
 refine PySem.W.kat_lt hx dx hy dy (PySem.W.kat_cons (wpAny_eqBool_str ?_));rw[fh gV];exact PySem.W.kat_no (oneLt_str h)
section
variable {prog:Program}
theorem vC{P:PySem.Fin->Shared->Prop}(ho:s.heap.get? a=some (seqObj "list" aq.toArray i))(h2:aq.length<2)
  (h:∀h' c,(∀b o,b≠a->s.heap.get? b=some o->h'.get? b=some o)->h'.get? a=some (seqObj "list" aq.toArray c)->P (.done (.ret .none)) {s with heap:=h'}):
  wpAny (model prog w) A (Builtin.«list.sort» ⟨[.ref a],[]⟩) P E s:=by
 rw[list_sort_plain];have ha:a<s.heap.objs.size:=bp ho;refine aP (listItems_at ho rfl ?_);refine aP (listUpdate_at ho rfl ?_ (by rw[cO,dH];omega) (dU _));obtain⟨e1,PD⟩:∃e1,(s.heap.update a (Obj.mapSeq fun _=>#[])).get? a=some (seqObj "list" #[] e1):=⟨_,get?_update_seq ho (fun _=>#[])⟩;refine aP (seqEpoch_at PD rfl ?_);refine aP (wpAny_newTuple ?_ (by rw[dH];simp;omega));refine aP (oY ?_ (dU _));refine fi ?_
 have ho6:(((s.heap.update a (Obj.mapSeq fun _=>#[])).push (seqObj "tuple" aq.toArray 0)).push (seqObj "list" #[] 0)).get? a=some (seqObj "list" #[] e1):=by
  rw[Heap.get?_push_ne _ _ _ (by rw[size_push',Heap.size_update];exact bS (lh ha)),Heap.get?_push_ne _ _ _ (by rw[Heap.size_update];exact bS ha)];exact PD
 show wpAny (model prog w) A _ P E {s with heap:=((s.heap.update a (Obj.mapSeq fun _=>#[])).push (seqObj "tuple" aq.toArray 0)).push (seqObj "list" #[] 0)};dsimp only;have h2':aq.toArray.size<2:=by simpa using h2
 rw[aS h2',aS h2'];refine aP (a_ ?_);rw[StateT.run_pure];refine aP (a_ ?_);dsimp only;refine aP (seqEpoch_at ho6 rfl ?_);refine aP (listUpdate_at ho6 rfl ?_ (dU _) (by rw[Array.size_map];show(pairsOf aq).size<=_;rw[pairsOf_size,dH];omega));simp only[sq,cW,cx];refine a_ ?_
 have eo:(aq.toArray.zip aq.toArray).map (·.2)=aq.toArray:=by
  apply Array.toList_inj.mp;simp only[Array.toList_map,Array.toList_zip];exact List.map_snd_zip (bu _)
 obtain⟨e,he⟩:=sortedHeap_at (out:=(aq.toArray.zip aq.toArray).map (·.2)) ho;refine h (sortedHeap s.heap a aq ((aq.toArray.zip aq.toArray).map (·.2))) e (fun b o hb q=>(sortedHeap_old hb (bp q)).trans q) ?_
 rw[he,eo]
end
theorem N9{kvs:List (Key×V)}{vs:List (Key×Value)}(r:KV kvs vs){k:Key}{v:V}(e:kvs[i]?=some (k,v)):∃u,vs[i]?=some (k,u)/\RelV v u:=by
 have r':Paired _ kvs vs:=r
 clear r
 induction r' generalizing i with
 |nil=>simp at e
 |cons h t ih=>
  cases i with
  |zero=>
   simp at e;rename_i a b _ _;obtain⟨h1,h2⟩:=h;obtain⟨b1,b2⟩:=b;subst e;exact⟨b2,by simpa using h1.symm,h2⟩
  |succ i=>obtain⟨u,x,y⟩:=ih (i:=i) (by simpa using e);exact⟨u,by simpa using x,y⟩
theorem xY{b:Addr}:∀{l:List (Addr×List V)} {H:Hp},b∉l.map (·.1)->ra H l b=H b
 |[],_,_=>rfl
 |p::l,H,h=>by
  rw[bH]at h;show ra (upd H p.1 (.tup p.2)) l b=_;rw[xY fun z=>h (b_ _ z),bb fun z=>h (by rw[z];exact cp ..)]
theorem zL(f:Nat->Addr):∀p:List Nat,Vals (p.map fun i=>V.ref (f i)) (p.map fun i=>Value.ref (f i))
 |[]=>.nil
 |i::p=>.cons rfl (zL f p)
def AU(h:Heap)(L D:Addr):List (Addr×Obj):=(EF h L).filter fun p=>decide (p.1≠D)
theorem jn{b:Addr}{o:Obj}:(b,o)∈AU aa a au↔b≠a/\b≠au/\aa.get? b=some o:=by
 unfold AU;rw[fY,EG,hU];exact⟨fun z=>⟨z.1.1,z.2,z.1.2⟩,fun z=>⟨⟨z.1,z.2.2⟩,z.2.1⟩⟩
theorem xZ{h:Heap}:∀{as:List Addr} {ss:List Str},as.length=ss.length->(∀(i:Nat) (a:Addr) (z:Str),as[i]?=some a->ss[i]?=some z->∃t x,h.get? a=some {cls:=.type "tuple",data:=.seq #[.str z t,x]})->∃fs:List Value,PySem.W.KatTups h (as.map Value.ref) fs/\fs.length=ss.length/\∀v∈fs,∃z t,v=Value.str z t
 |[],[],_,_=>⟨[],.nil,rfl,fun v m=>(nomatch m)⟩
 |[],_::_,e,_=>by cases e
 |_::_,[],e,_=>by cases e
 |a::as,z::ss,e,k=>by
  obtain⟨t,x,g⟩:=k 0 a z rfl rfl;obtain⟨fs,h1,h2,h3⟩:=xZ (as:=as) (ss:=ss) (by simpa using e) fun i b y e1 e2=>k (i+1) b y (by simpa using e1) (by simpa using e2);refine⟨.str z t::fs,.cons g rfl rfl rfl h1,by rw[dg,dg,h2],fun v m=>?_⟩;rcases bB.mp m with rfl|m
  ·exact⟨z,t,rfl⟩
  ·exact h3 v m
theorem KQ{α β:Type}:∀{xs:List α} {ys:List β} {p:α×β},p∈xs.zip ys->∃i:Nat,xs[i]?=some p.1/\ys[i]?=some p.2
 |[],_,_,h=>by simp at h
 |_::_,[],_,h=>by simp at h
 |x::xs,y::ys,p,h=>by
  rw[List.zip_cons_cons]at h;rcases bB.mp h with rfl|h
  ·exact⟨0,rfl,rfl⟩
  ·obtain⟨i,a,b⟩:=KQ h;exact⟨i+1,by simpa using a,by simpa using b⟩
section
theorem yU(hc:X.calm=true):gn X (.builtin "sorted") (fun xs H Q=>∃(v d:Addr) (kvs:List (Key×V)) (ss:List Str) (p:List Nat),xs=[.ref v]/\H v=some (vg v d)/\Rd H d (.dK kvs)/\kvs.map (·.1)=ss.map Sum.inr/\ss.length<64/\gW ss=some p/\
  ∀(as:List Addr) (D:Addr),as.length=kvs.length->as.Nodup->(∀a∈as,H a=none)->D∉as->H D=none->Q (.ref D) (upd (ra H (as.zip (kvs.map fun q=>[kV q.1,q.2]))) D (.lst (p.map fun i=>V.ref (as.getD i 0))))):=by
 intro U s Z H xs us Q I r h;obtain⟨v,d,kvs,ss,p,rfl,hv,hd,hk,Es,hp,q⟩:=h;obtain⟨u,rfl,ru⟩:=vals1 r;cases(show u=Value.ref v from ru);obtain⟨hz,hs,vs,rv,hm⟩:=(show cR X.prog X.w H s.heap d (.dK kvs)from hd.ok I.cP);obtain⟨ep,hm⟩:=hm.dictAt;have Xy:s.heap.IsItemsView v d:=(show cR X.prog X.w H s.heap v (vg v d)from I.cP v _ hv).1;have Xz:=rO rv;have hsl:kvs.length=ss.length:=by have q:=cQ List.length hk;rw[bj,bj]at q;exact q
 have hnd:ss.Nodup:=by
  obtain⟨_,_,_,_,_,_,_,nd⟩:=hm;have e:vs.map (·.1)=ss.map Sum.inr:=by
   rw[<-hk];refine oE fun i=>?_
   rw[bW,bW];cases e:kvs[i]? with
   |none=>
    have h1:vs[i]?=none:=iV.mpr (by rw[<-Xz];exact iV.mp e)
    rw[h1];rfl
   |some p=>
    obtain⟨z,e6⟩:=Ay rv (k:=p.1) (v:=p.2) e;rw[e6];rfl
  rw[e]at nd;exact List.Pairwise.of_map Sum.inr (fun a b z e=>z (by rw[e])) nd
 refine call_function_entry kind_sorted plain_sorted entry_sorted (args_sorted1 _) ?_
 unfold Builtin.«sorted»;refine aP (m:=checkCount "sorted" 1 1 _) (a_ ?_);refine aP (PySem.W.kdx_collect (A:=X.A.in1) (knd:=bY X.prog X.w) (kvs:=vs) (ep:=ep) (I.ok.hd hc) Xy hm (by rw[<-Xz];exact hz) fun h1 tk as Zb hl hG=>?_);refine aP (oY ?_ (by rw[bj,hl,<-Xz];exact hz));have Fd:(h1.push (seqObj "list" (as.map Value.ref).toArray 0)).get? h1.objs.size=some (seqObj "list" (as.map Value.ref).toArray 0):=cf _ rfl;have PZ:∀i a,as[i]?=some a->∃z y t,ss[i]?=some z/\kvs[i]?=some (Sum.inr z,y)/\∃x,RelV y x/\h1.get? a=some {cls:=.type "tuple",data:=.seq #[.str z t,x]}:=fun i a e=>by
  obtain⟨key,k,x,e1,e2,e3⟩:=hG.pairs i a e;have hi:i<kvs.length:=by rw[Xz];exact(fT.mp e1).1
  have e4:kvs[i]?=some kvs[i]:=bQ hi
  generalize kvs[i]=kv at e4;obtain⟨x',e6,rx⟩:=N9 rv (k:=kv.1) (v:=kv.2) e4;rw[e1]at e6;cases e6;have e7:(kvs.map (·.1))[i]?=some kv.1:=by rw[bW,e4];rfl
  rw[hk,bW]at e7;cases e8:ss[i]? with
  |none=>rw[e8]at e7;cases e7
  |some z=>
   rw[e8]at e7;have e9:Sum.inr z=kv.1:=by simpa using e7
   obtain⟨t,rfl⟩:∃t,key=Value.str z t:=by
    rw[<-e9]at e2;exact Value.isStrOf_shape e2
   exact⟨z,kv.2,t,e8,by rw[e4,e9],x,rx,e3⟩
 obtain⟨m,Rc,_⟩:=id I.loc;have hL:X.env.locals<s.heap.objs.size:=I.lt;have Zc:∀a∈as,s.heap.objs.size<=a:=fun a ha=>dA (hG.above a ha);have aD:∀a∈as,a≠h1.objs.size:=fun a ha=>bS (hG.there ha);have aL:∀a∈as,a≠X.env.locals:=fun a ha=>dB (cU hL (Zc a ha));have asz:∀b o,s.heap.get? b=some o->b<h1.objs.size:=fun b o e=>bp (Zb b o e);have J:Inv X U Z H {s with heap:=h1,toks:=tk}:=I.kept Zb;have S0:H h1.objs.size=none:=J.fresh;have hDf:kD X U H h1.objs.size:=J.wR (bu _) S0;have hD0:X.f9.heap.objs.size<=h1.objs.size:=J.sz;have hDL:h1.objs.size≠X.env.locals:=dB J.lt;have KR:as.length=ss.length:=by rw[hl,<-Xz,hsl]
 have nda:as.Nodup:=hG.rise.imp fun h=>bS h;have hkl:(as.zip (kvs.map fun q=>[kV q.1,q.2])).map (·.1)=as:=List.map_fst_zip (by rw[bj,KR,hsl];exact bu _);have fin:∀h' c,(∀b o,b≠X.env.locals->b≠h1.objs.size->(h1.push (seqObj "list" (as.map Value.ref).toArray 0)).get? b=some o->h'.get? b=some o)->h'.Ns X.env.locals m->
   h'.get? h1.objs.size=some (seqObj "list" (p.map fun i=>Value.ref (as.getD i 0)).toArray c)->EP X U Z Q (.ref h1.objs.size) {s with heap:=h',toks:=tk}:=by
  intro h' c kp O4 hD;have kp1:∀b o,b≠X.env.locals->b≠h1.objs.size->h1.get? b=some o->h'.get? b=some o:=fun b o n1 n2 e=>kp b o n1 n2 (bL _ e);have I1:Inv X U Z H {s with heap:=h',toks:=tk}:=I.KH Rc O4 fun b o n e=>kp1 b o n (bS (asz b o e)) (Zb b o e);have yS:∀b,s.heap.objs.size<=b->kD X U H b:=fun b hb=>I.wR hb (I.cP.fresh hb);have I2:=I1.C0 (l:=as.zip (kvs.map fun q=>[kV q.1,q.2])) (by rw[hkl];exact nda) fun t ht=>by
   obtain⟨i,e1,e2⟩:=KQ ht;obtain⟨z,y,vz,_,e4,x,rx,e5⟩:=PZ i t.1 e1;have ha:t.1∈as:=dS e1;rw[bW,e4]at e2;have e6:[V.str z,y]=t.2:=Option.some.inj e2;refine⟨cw I.sz (Zc _ ha),yS _ (Zc _ ha),by rw[<-e6];show 2<=sizeLine;decide,[.str z vz,x],by rw[<-e6];exact .cons ⟨vz,rfl⟩ (.cons rx .nil),⟨_,kp1 _ _ (aL _ ha) (aD _ ha) e5,rfl,_,rfl⟩⟩
  have hDn:ra H (as.zip (kvs.map fun q=>[kV q.1,q.2])) h1.objs.size=none:=by
   rw[xY (by rw[hkl];exact fun z=>aD _ z rfl)];exact S0
  have nZ:p.length<=sizeLine:=cw (EL hp) (by decide);refine⟨.ref h1.objs.size,_,I2.adopt (o:=.lst (p.map fun i=>V.ref (as.getD i 0))) hD0 ⟨hDn,hDf.2⟩ ⟨by rw[bj];exact nZ,_,c,zL _ p,hD⟩,rfl,q as h1.objs.size (by rw[KR,hsl]) nda (fun a ha=>I.cP.fresh (Zc a ha)) (fun z=>aD _ z rfl) S0⟩
 refine aP (fi (gJ slot_list_sort ⟨_,Fd,rfl⟩ entry_list_sort ?_ (args_list_sort _)));have XB:(h1.push (seqObj "list" (as.map Value.ref).toArray 0)).Ns X.env.locals m:=by
  obtain⟨o,es,IU,ho,r'⟩:=Rc;exact⟨o,es,IU,bL _ (Zb _ _ ho),r'⟩
 by_cases h2:ss.length<2
 ·have ep:p=List.range ss.length:=by
   unfold gW at hp;rw[aS h2]at hp;exact(Option.some.inj hp).symm
  have eo:as.map Value.ref=p.map fun i=>Value.ref (as.getD i 0):=by
   rw[ep,<-KR];refine oE fun i=>?_
   rw[bW,bW];by_cases hi:i<as.length
   ·rw[List.getElem?_range hi,bQ hi];simp[hi]
   ·rw[iV.mpr (by omega),iV.mpr (by rw[sx];omega)]
    rfl
  refine vC Fd (by rw[bj,KR];exact h2) fun h' c kp hD=>⟨_,rfl,a_ ⟨_,rfl,?_⟩⟩;refine fin h' c (fun b o _ n e=>kp b o n e) ?_ (by rw[<-eo];exact hD)
  obtain⟨o,es,IU,ho,r'⟩:=XB;exact⟨o,es,IU,kp _ _ hDL.symm ho,r'⟩
 ·obtain⟨q9,er,uw,ep⟩:∃q9:Array Nat,pI ss.length (xX ss) (PySem.W.kas_sort ss.length)=some q9/\q9.toList.all (fun i=>decide (i<ss.length))=true/\p=q9.toList:=by
   unfold gW at hp;rw[aW h2]at hp;cases e:pI ss.length (xX ss) (PySem.W.kas_sort ss.length)with
   |none=>rw[e]at hp;cases hp
   |some q9=>
    rw[e]at hp;have PH:(if q9.toList.all (fun i=>decide (i<ss.length))=true/\q9.toList.length<=64 then some q9.toList else none)=some p:=hp;by_cases z:q9.toList.all (fun i=>decide (i<ss.length))=true/\q9.toList.length<=64
    ·rw[aS z]at PH;exact⟨q9,rfl,z.1,(Option.some.inj PH).symm⟩
    ·rw[aW z]at PH;cases PH
  have F:Fr AO X.env.locals (h1.push (seqObj "list" (as.map Value.ref).toArray 0)) m:=⟨XB,(fun b o e=>by rw[pH]at e;cases e),dU _⟩;have N:News AO X.env.locals (h1.push (seqObj "list" (as.map Value.ref).toArray 0)) (AU (h1.push (seqObj "list" (as.map Value.ref).toArray 0)) X.env.locals h1.objs.size):=fun t ht=>by
   obtain⟨n1,n2,e⟩:=jn.mp (show(t.1,t.2)∈_ from ht);exact⟨e,n1,pH _⟩
  refine PySem.W.kat_list_sort (s:={s with heap:=h1.push (seqObj "list" (as.map Value.ref).toArray 0),toks:=tk}) F N Fd hDL (pH _) (fun t ht=>(jn.mp (show(t.1,t.2)∈_ from ht)).2.1) (by rw[bj,KR];omega) (by rw[bj,KR];exact Es) fun e1 h' F' N'=>?_
  have tp:∀(i:Nat) (a:Addr) (z:Str),as[i]?=some a->ss[i]?=some z->∃t x,h'.get? a=some {cls:=.type "tuple",data:=.seq #[.str z t,x]}:=fun i a z ea ez=>by
   obtain⟨z',y,t,e3,_,x,_,e5⟩:=PZ i a ea;rw[ez]at e3;cases e3;have ha:a∈as:=dS ea;exact⟨t,x,(N' (a,_) (b_ _ (jn.mpr ⟨aL a ha,aD a ha,bL _ e5⟩))).1⟩
  obtain⟨fs,kt,fl,aay⟩:=xZ KR tp;refine PySem.W.kat_kind (T:=.type "str") kt (by rw[fl];omega) (fun v hv=>by obtain⟨z,t,rfl⟩:=aay v hv;exact .of_pure rfl) (by decide) ?_
  rw[show(Value.type "str" !=Value.type "tuple")=true by decide,bj,KR];refine zK (fun i j C hi hj Am hC=>?_) _ er ?_
  ·have ei:as[i]?=some as[i]:=bQ (by rw[KR];exact hi)
   have ej:as[j]?=some as[j]:=bQ (by rw[KR];exact hj)
   generalize as[i]=a at ei;generalize as[j]=b at ej;have zi:ss[i]?=some ss[i]:=bQ hi
   have zj:ss[j]?=some ss[j]:=bQ hj
   obtain⟨t1,x1,g1⟩:=tp i a _ ei zi;obtain⟨t2,x2,g2⟩:=tp j b _ ej zj;have va:(as.map Value.ref).getD i Value.none=Value.ref a:=by rw[d_,bW,ei];rfl
   have vb:(as.map Value.ref).getD j Value.none=Value.ref b:=by rw[d_,bW,ej];rfl
   show wpAny _ _ (keyLt' _ ((as.map Value.ref).getD i Value.none) ((as.map Value.ref).getD j Value.none)) _ _ _;rw[va,vb];refine C1 g1 rfl g2 rfl (fun e=>Am (sQ hnd zi (by rw[zj,e]))) ?_
   have e9:xX ss i j=decide (ss[i].cps.toList<ss[j].cps.toList):=by
    unfold xX;rw[d_,d_,zi,zj]
    rfl
   rw[<-e9];exact hC
  ·refine PySem.W.KasFin.intro F' N' (.head fun t ht=>(jn.mp (show(t.1,t.2)∈_ from ht)).2.1) fun h'' c F'' N''=>⟨_,rfl,a_ ⟨_,rfl,?_⟩⟩;have eo:(q9.toList.map fun i=>(as.map Value.ref).getD i Value.none)=p.map fun i=>Value.ref (as.getD i 0):=by
    rw[ep];refine gH fun i hi=>?_
    have Y0:i<as.length:=by rw[KR];exact ee (dm.mp uw i hi)
    rw[d_,d_,bW,bQ Y0]
    rfl
   refine fin h'' c (fun b o n1 n2 e=>(N'' (b,o) (b_ _ (jn.mpr ⟨n1,n2,e⟩))).1) F''.ns ?_
   rw[<-eo];exact(N'' _ (cp ..)).1
def rb:List (Key×Tr)->Option (List Str)
 |[]=>some []
 |(.inr z,_)::r=>(rb r).map fun s=>z::s
 |_=>none
theorem tX:∀{bt:List (Key×Tr)} {ss:List Str},rb bt=some ss->bt.map (·.1)=ss.map Sum.inr
 |[],_,h=>by cases h;rfl
 |(.inr z,_)::r,ss,h=>by
  have h':(rb r).map (fun s=>z::s)=some ss:=h;cases e:rb r with
  |none=>rw[e]at h';cases h'
  |some s=>rw[e]at h';cases h';rw[bH,bH,tX e]
 |(.inl _,_)::_,_,h=>by cases h
def vR:Tr->Rs Tr
 |.bT bt=>kS ((rb bt).bind fun ss=>if ss.length<64/\(ss.all fun z=>decide (z.length<=cS))=true then(gW ss).map fun p=>Tr.lst (p.map fun i=>.tup [.str (ss.getD i ""),(bt.map (·.2)).getD i .cu])else none)
 |_=>.bad
theorem EM(q:Fi X H (vR aB) aA):∃bt ss p,aB=.bT bt/\rb bt=some ss/\ss.length<64/\(∀z∈ss,z.length<=cS)/\gW ss=some p/\aA (.lst (p.map fun i=>.tup [.str (ss.getD i ""),(bt.map (·.2)).getD i .cu])):=by
 cases aB with
 |bT bt=>
  obtain⟨x,e,kx⟩:=gc q;cases e1:rb bt with
  |none=>rw[e1]at e;cases e
  |some ss=>
   rw[e1]at e;have e':(if ss.length<64/\(ss.all fun z=>decide (z.length<=cS))=true then(gW ss).map fun p=>Tr.lst (p.map fun i=>.tup [.str (ss.getD i ""),(bt.map (·.2)).getD i .cu])else none)=some x:=e;by_cases z:ss.length<64/\(ss.all fun z=>decide (z.length<=cS))=true
   ·rw[aS z]at e';cases e2:gW ss with
    |none=>rw[e2]at e';cases e'
    |some p=>
     rw[e2]at e';cases e';exact⟨bt,ss,p,rfl,e1,z.1,fun y hy=>ee (dm.mp z.2 y hy),e2,kx⟩
   ·rw[aW z]at e';cases e'
 |_=>exact fe q
theorem zM{p:List Nat}(h:gW ps=some p):∀i∈p,i<ps.length:=by
 unfold gW at h;split at h
 ·cases h;exact fun i hi=>sG.mp hi
 ·cases e:pI ps.length (xX ps) (PySem.W.kas_sort ps.length)with
  |none=>rw[e]at h;cases h
  |some q=>
   rw[e]at h;have h':(if q.toList.all (fun i=>decide (i<ps.length))=true/\q.toList.length<=64 then some q.toList else none)=some p:=h;by_cases z:q.toList.all (fun i=>decide (i<ps.length))=true/\q.toList.length<=64
   ·rw[aS z]at h';cases h';exact fun i hi=>ee (dm.mp z.1 i hi)
   ·rw[aW z]at h';cases h'
variable {p1 dt:Pos}
theorem Gj{W:Vw}{f:Nat->V}{g:Nat->Tr}:∀{p:List Nat},(∀i∈p,Rep K W (f i) (g i))->bI K W (p.map f) (p.map g)
 |[],_=>.nil
 |i::p,h=>.cons (h i (cp ..)) (Gj fun j m=>h j (b_ _ m))
theorem KU(hs:X.mg "sorted"=none)(ho:PE X o (tP X F))(hc:X.calm=true:=by rfl) (hg:Gl X "sorted":=by rfl) (hb:isCall o=false:=by rfl) (fJ:(b8.endLine==dt.line)=true:=by rfl):
  PE X (.Call (.Name "sorted" p1) [.Call (.Attribute o "items" b8) [] [] dt] [] pos) (tP X fun Y=>(F Y).bind vR):=
 (o8 (yU hc) hg hs rfl (lp (KO ho (gb hb) fJ) rE (bF _ _ rfl)) (by decide) (by decide) (bF _ _ rfl) (cL (es:=[]) rfl)).weak fun Z H Q ⟨B,Y,hb,r,q⟩=>⟨B,Y,hb,r,q.bind.mono fun t qt v H1 s1 rv=>by
  obtain⟨bt,ss,p,rfl,e1,Es,htx,e2,k⟩:=EM qt;cases rv with
  |@bT a kvs _ h ek rr=>
   refine⟨a,kvs,rfl,Rd.same bD h,fun vw hvw=>⟨vw,a,kvs,ss,p,rfl,bG,Rd.same (ba.upd hvw) (Rd.same bD h),by rw[ek];exact tX e1,Es,e2,fun as D hl hnd hn hD hDn=>?_⟩⟩;have Ax:=hb.same s1;have sv:ba H1 (upd H1 vw (vg vw a)):=ba.upd hvw;have NL:=Ax.same sv;have hlz:(as.zip (kvs.map fun q=>[kV q.1,q.2])).map (·.1)=as:=List.map_fst_zip (by rw[bj,hl];exact bu _);obtain⟨st,gt⟩:=xW (H:=upd H1 vw (vg vw a)) (l:=as.zip (kvs.map fun q=>[kV q.1,q.2])) (by rw[hlz];exact hnd) fun t ht=>hn t.1 (sC ht).1;have hDt:ra (upd H1 vw (vg vw a)) (as.zip (kvs.map fun q=>[kV q.1,q.2])) D=none:=by rw[xY (by rw[hlz];exact hD)];exact hDn
   have sd:=ba.upd (o:=.lst (p.map fun i=>V.ref (as.getD i 0))) hDt;refine k _ _ (((s1.trans sv).trans st).trans sd) (.lst (vs:=p.map fun i=>V.ref (as.getD i 0)) ?_ (Gj fun i hi=>?_))
   ·exact((NL.same st).new hDt)
   ·have XC:=zM e2 i hi;have ekl:kvs.length=ss.length:=by
     have q9:=cQ List.length (ek.trans (tX e1));rw[bj,bj]at q9;exact q9
    have hia:i<as.length:=by rw[hl,ekl];exact XC
    have Vx:i<kvs.length:=by rw[ekl];exact XC
    have ea:as.getD i 0=as[i]:=by rw[d_,bQ hia];rfl
    have ez:ss.getD i ""=ss[i]:=by rw[d_,bQ XC];rfl
    have ekz:kvs[i].1=Sum.inr ss[i]:=by
     have q9:=cQ (fun l=>l[i]?) (ek.trans (tX e1));simp only[bW,bQ Vx,bQ XC,de]at q9;exact Option.some.inj q9
    have hm:(as[i],[V.str ss[i],kvs[i].2])∈as.zip (kvs.map fun q=>[kV q.1,q.2]):=by
     have q9:(as.zip (kvs.map fun q=>[kV q.1,q.2]))[i]?=some (as[i],[V.str ss[i],kvs[i].2]):=by
      rw[List.getElem?_zip_eq_some];refine⟨bQ hia,?_⟩;rw[bW,bQ Vx];show some [kV kvs[i].1,kvs[i].2]=_;rw[ekz];rfl
     exact dS q9
    have g1:=gt _ hm;have nB:B.hd as[i]=false:=NL.free (hn _ (kr hia));have g2:(bV B (upd (ra (upd H1 vw (vg vw a)) (as.zip (kvs.map fun q=>[kV q.1,q.2]))) D (.lst (p.map fun i=>V.ref (as.getD i 0))))).H as[i]=some (.tup [V.str ss[i],kvs[i].2]):=by
     rw[fL nB];exact sd _ _ g1
    obtain⟨tv,et,rt⟩:=rr.xi (i:=i) (v:=kvs[i].2) (by rw[bW,bQ Vx];rfl);have etd:(bt.map (·.2)).getD i .cu=tv:=by rw[d_,et];rfl
    rw[ea,ez,etd];exact .tup (.of g2) (.cons (.str _ (htx _ (kr XC))) (.cons (rt.same (bE ((sv.trans st).trans sd))) .nil))⟩
end
structure QE(X:Cx)(e:Expr)(F:bO->Rs Tr):Prop where
 h:PE X e (tP X F)
structure QT(X:Cx)(e:Expr)(F:bO->Rs Bool):Prop where
 h:PT X e (tQ X F)
structure QW(X:Cx)(e:Expr)(F:bO->Rs Bool):Prop where
 h:PW X e (tQ X F)
structure QA(X:Cx)(e:List Expr)(F:bO->Rs (List Tr)):Prop where
 h:PA X e (B7 X F)
structure QS(X:Cx)(e:Stmt)(F:bO->Rs Out):Prop where
 h:PS X e (tS X F)
structure QB(X:Cx)(e:List Stmt)(F:bO->Rs Out):Prop where
 h:n_ X e (tS X F)
structure QG(X:Cx)(e:Expr)(F:n6):Prop where
 h:PG X e (tG X F)
structure Zd(X:Cx)(e:List Expr)(F:List Tr->bO->Rs bO):Prop where
 h:MC X e (Ur X F)
structure QI(X:Cx)(tg e:Expr)(F:bO->Rs (List Tr)):Prop where
 h:PI X tg e (tI X F)
structure QJ(X:Cx)(tg e:Expr)(F:bO->Rs (List Tr)):Prop where
 h:PI X tg e (tJ X F)
structure QO(X:Cx)(e:Option Expr)(F:bO->Rs (Option Int)):Prop where
 h:PO X e (tO X F)
structure QF(X:Cx)(e:List Expr)(F:bO->Rs Bool):Prop where
 h:PF X e (tQ X F)
structure ZE(X:Cx)(e:Expr)(F:bO->Ab->Rz Tr):Prop where
 h:PE X e (tE X F)
structure NE(X:Cx)(e:Expr)(F:bO->Rs Tr):Prop where
 h:PE X e (tF X F)
structure ZT(X:Cx)(e:Expr)(F:bO->Ab->Rz Bool):Prop where
 h:PT X e (PB X F)
structure ZL(X:Cx)(e:List Expr)(F:bO->Ab->Rz (List Tr)):Prop where
 h:PA X e (Mm X F)
structure ZS(X:Cx)(e:Stmt)(F:bO->Ab->Rz Out):Prop where
 h:PS X e (tZ X F)
structure ZB(X:Cx)(e:List Stmt)(F:bO->Ab->Rz Out):Prop where
 h:n_ X e (tZ X F)
structure C5(X:Cx)(scope:Scope)(N':List Str)(tg elt:Expr)(ifs:List Expr)(T:n6)(A:bO->Rs Bool)(F:bO->Rs Tr):Prop where
 all:∀s H ex,QG (tH X scope N' s H ex) tg T/\QF (tH X scope N' s H ex) ifs A/\QE (tH X scope N' s H ex) elt F
theorem C5.to {scope:Scope}{N':List Str}{elt:Expr}{ifs:List Expr}{T:n6}{A:bO->Rs Bool}(b:C5 X scope N' tg elt ifs T A F):Nf X scope N' tg elt ifs T A F:=
 ⟨fun s H ex=>⟨(b.all s H ex).1.h,(b.all s H ex).2.1.h,(b.all s H ex).2.2.h⟩⟩
section
variable {b:Expr}{E:bO->Rs Tr}
theorem aN(i:Nat)(hN:X.N[i]?=some x:=by rfl) (hv:YI X.env.scope x:=by first|exact Or.inl rfl|exact Or.inr (Or.inl rfl)|exact Or.inr (Or.inr rfl)) (hd:Db x:=by decide) (DL:(x==("__classdict__":Str))=false:=by decide):QE X (.Name x pos) (fun Y=>xm Y i):=⟨Vy i hN hv hd DL⟩
theorem bz{i:Int}{j pos}:QE X (.Constant (.int i) j pos) (fun _=>.ok (.int i)):=⟨Vz⟩
theorem yV{b:Bool}{j pos}:QE X (.Constant (.bool b) j pos) (fun _=>.ok (.bl b)):=⟨Z9⟩
theorem fN{j pos}:QE X (.Constant .none j pos) (fun _=>.ok .cu):=⟨VA⟩
theorem aR{j pos}(hz:x.length<=cS:=by decide):QE X (.Constant (.str x) j pos) (fun _=>.ok (.str x)):=⟨VB hz⟩
theorem C6(hm:X.mg x=none)(hv:bootBuiltins x=some (.type ay):=by rfl) (hg:Gl X x:=by rfl) (hn:x≠"__name__":=by decide) (hd:Db x:=by decide):QE X (.Name x pos) (fun _=>.ok (.ty ay)):=⟨Z_ hm hv hg hn hd⟩
theorem fb{op:Operator}(ho:Bz X (binaryOp op) aC)(ha:QE X e F)(hb:QE X b G):QE X (.BinOp e op b pos) (fun Y=>Hd aC (F Y) (G Y)):=⟨VD ho ha.h hb.h⟩
theorem zN{op:CmpOp}(ho:Bz X (compareOp op) aC)(ha:QE X e F)(hb:QE X b G)(hm:behindInMarks op b=false:=by first|exact Ae _|rfl|with_unfolding_all rfl):QE X (.Compare e [op] [b] pos) (fun Y=>Hd aC (F Y) (G Y)):=⟨VE ho ha.h hb.h hm⟩
theorem bA{op:CmpOp}(ho:Bz X (compareOp op) aC)(ha:QE X e F)(hb:QE X b G)(hm:behindInMarks op b=false:=by first|exact Ae _|rfl|with_unfolding_all rfl):QT X (.Compare e [op] [b] pos) (fun Y=>YV (Hd aC (F Y) (G Y))):=⟨VF ho ha.h hb.h hm⟩
theorem mG(ha:QE X e F)(he:my e=true:=by rfl):QT X e (fun Y=>(F Y).bind pj):=⟨VG ha.h he⟩
end
section
variable {E:bO->Rs Tr}{A:bO->Rs Bool}
theorem x6(ha:QT X e A):QT X (.UnaryOp .Not e pos) (fun Y=>He (A Y)):=⟨VH ha.h⟩
theorem iH(ha:QT X e A):QW X (.BoolOp .And [e] pos) A:=⟨Rp ha.h⟩
theorem vh(ha:QT X e A):QW X (.BoolOp .Or [e] pos) A:=⟨VJ ha.h⟩
theorem mH(ha:QT X e A)(hb:QW X (.BoolOp .And (o::az) pos) aE):QW X (.BoolOp .And (e::o::az) pos) (fun Y=>Hf (A Y) (aE Y)):=⟨w_and ha.h hb.h⟩
theorem C7(ha:QT X e A)(hb:QW X (.BoolOp .Or (o::az) pos) aE):QW X (.BoolOp .Or (e::o::az) pos) (fun Y=>VI (A Y) (aE Y)):=⟨w_or ha.h hb.h⟩
theorem eK{op}(h:QW X (.BoolOp op az pos) A):QT X (.BoolOp op az pos) A:=⟨Rq h.h⟩
theorem KW(ha:QE X e F)(hb:QE X (.BoolOp .And (o::az) pos) G):QE X (.BoolOp .And (e::o::az) pos) (fun Y=>VL (F Y) (G Y)):=⟨VM ha.h hb.h⟩
theorem P0{op}(h:QE X e F):QE X (.BoolOp op [e] pos) F:=⟨VN h.h⟩
theorem C8(hc:QT X tg A)(ha:QE X e F)(hb:QE X o G):QE X (.IfExp tg e o pos) (fun Y=>JF (A Y) (F Y) (G Y)):=⟨Z' hc.h ha.h hb.h⟩
end
section
variable {E:bO->Rs Tr}{B:bO->Rs Bool}{c9:List Expr}
theorem aX:QA X [] (fun _=>.ok []):=⟨FD⟩
theorem aO(ha:QE X o F)(hr:QA X az L)(hs:isStar o=false:=by rfl):QA X (o::az) (fun Y=>xp (F Y) (L Y)):=⟨Ap ha.h hr.h hs⟩
theorem bZ{x1}(h:QA X az L):QE X (.Tuple az x1 pos) (fun Y=>Aq (L Y)):=⟨VO h.h⟩
theorem pJ(h:QA X az L):QE X (.List az pos) (fun Y=>yN (L Y)):=⟨VP h.h⟩
theorem cG(hc:lr X (.builtin ay) h)(hm:X.mg x=none)(ha:QA X (e::az) L)(hv:bootBuiltins x=some (.builtin ay):=by rfl) (hg:Gl X x:=by rfl) (hn:x≠"__name__":=by decide) (fq:Db x:=by decide) (cz:bq (e::az)=true:=by rfl):QE X (.Call (.Name x p) (e::az) [] pos) (fun Y=>dv h (L Y)):=⟨M' hc hm ha.h hv hg hn fq cz⟩
theorem eD(hc:lr X (.type ay) h)(hm:X.mg x=none)(ha:QA X (e::az) L)(hv:bootBuiltins x=some (.type ay):=by rfl) (hg:Gl X x:=by rfl) (hn:x≠"__name__":=by decide) (fq:Db x:=by decide) (cz:bq (e::az)=true:=by rfl):QE X (.Call (.Name x p) (e::az) [] pos) (fun Y=>dv h (L Y)):=⟨JG hc hm ha.h hv hg hn fq cz⟩
theorem XD{fd:FuncData}(D:zc X.K X.mg x ai ps a fd)(G:d5 X.prog X.w X.K X.mg X.base lX i a fd ps (spT X.K h))(hr:cV i X.A)(ha:QA X (e::az) L)(hg:Gl X x:=by rfl) (fq:Db x:=by decide) (cz:bq (e::az)=true:=by rfl):QE X (.Call (.Name x p) (e::az) [] pos) (fun Y=>dv h (L Y)):=⟨VQ D G hr ha.h hg fq cz⟩
end
section
variable {c:Expr}{G G':bO->Rs Out}
theorem dF:QB X [] (fun Y=>.ok (.nx Y)):=⟨VR⟩
theorem bK(h1:QS X ai G)(h2:QB X ah G'):QB X (ai::ah) (fun Y=>B9 (G Y) G'):=⟨Rt h1.h h2.h⟩
theorem cn(h1:QS X ai G):QB X [ai] G:=⟨VS h1.h⟩
theorem fc{i:Nat}(he:QE X e F)(hN:X.N.Nodup:=by assumption) (hi:X.N[i]?=some x:=by rfl) (hx:Loc X.env.scope x:=by first|exact Or.inl rfl|exact Or.inr rfl) (hs:rJ e=false:=by rfl) (hf:yE X x:=by first|exact .inl rfl|exact .inr rfl|assumption):QS X (.Assign [.Name x p] e pos) (fun Y=>JH i (F Y) Y):=⟨VU he.h hN hi hx hs hf⟩
theorem cC(he:QE X e F):QS X (.Return (some e) pos) (fun Y=>JI (F Y)):=⟨VW he.h⟩
theorem fO(hc:QT X c aE)(ha:QB X ah G)(hb:QB X aj G'):QS X (.If c ah aj pos) (fun Y=>Uq (aE Y) (G Y) (G' Y)):=⟨aaa hc.h ha.h hb.h⟩
theorem fk(i:Nat)(hN:X.N.Nodup:=by assumption) (hi:X.N[i]?=some x:=by rfl) (hx:Loc X.env.scope x:=by first|exact Or.inl rfl|exact Or.inr rfl) (hf:yE X x:=by first|exact .inl rfl|exact .inr rfl|assumption):QG X (.Name x pos) (gN i):=⟨Ru i hN hi hx hf⟩
theorem Gk:Zd X [] (D9 []):=⟨VX⟩
theorem pK{i:Nat}{is:List Nat}(h2:Zd X az (D9 is))(hN:X.N.Nodup:=by assumption) (hi:X.N[i]?=some x:=by rfl) (hx:Loc X.env.scope x:=by first|exact Or.inl rfl|exact Or.inr rfl) (hf:yE X x:=by first|exact .inl rfl|exact .inr rfl|assumption) (hs:(assignEach (.Name x pos::az) X.env).map (·.2)=assign (.Name x pos) X.env::(assignEach az X.env).map (·.2):=by rfl):Zd X (.Name x pos::az) (D9 (i::is)):=⟨Rv h2.h hN hi hx hf hs⟩
theorem Gm{is:List Nat}(h:Zd X az (D9 is))(hc:X.calm=true:=by rfl) (hn:(assignEach az X.env).length=is.length:=by rfl) (cz:(assignEach az X.env).findIdx? (·.1)=none:=by rfl):QG X (.Tuple az i pos) (gT is):=⟨VY h.h hc hn cz⟩
theorem XF{T:n6}(hg:QG X tg T)(he:QE X e F)(hs:swapsWithSole [tg] e pos.line X.env=pure false:=by rfl) (hw:swappedStores [tg] e X.env=pure none:=by rfl) (h1:(assignEach [tg] X.env).map (·.2)=[assign tg X.env]:=by rfl):QS X (.Assign [tg] e pos) (fun Y=>Rw T (F Y) Y):=⟨VZ hg.h he.h hs hw h1⟩
theorem nT(hl:QE X e F):QI X tg e (fun Y=>JJ (F Y)):=⟨V0 hl.h⟩
end
section
variable {G G':bO->Rs Out}
theorem KY(hm:X.mg "range"=none)(ha:QA X [e] L)(hg:Gl X "range":=by rfl) (hs:bq [e]=true:=by rfl):QI X tg (.Call (.Name "range" p) [e] [] pos) (fun Y=>FH (L Y)):=⟨JK hm ha.h hg hs⟩
end
section
variable {b c:Expr}{G G':bO->Rs Out}{A:bO->Rs Bool}{N':List Str}{ix:List (Option Nat)}{T:n6}
theorem zO:QF X [] (fun _=>.ok true):=⟨V2⟩
theorem vi(h:QT X c A):QF X [c] A:=⟨V3 h.h⟩
theorem Ie(Lk:gz X N' ix ax)(hi:QI X tg o L)(kU:C5 X ax N' tg e az T A F)(hT:jx T)(hc:X.calm=true:=by rfl) (hs:isSet o=false:=by rfl):QE X (.ListComp e [⟨tg,o,az,0⟩] ax pos) (fun Y=>u4 ix T A F (L Y) Y):=⟨aac Lk hi.h kU.to hT hc hs⟩
theorem N_{i:Nat}(Lk:gz X N' ix ax)(hit:QI X tg o L)(kU:C5 X ax N' tg e az T A F)(hT:jx T)(hN:X.N.Nodup:=by assumption) (hc:X.calm=true:=by rfl) (hi:X.N[i]?=some x:=by rfl) (hx:Loc X.env.scope x:=by first|exact Or.inl rfl|exact Or.inr rfl) (Ha:swapsWith (.ListComp e [⟨tg,o,az,0⟩] ax pos) (some (.Name x p)) b8.line X.env=pure true:=by rfl) (hs:isSet o=false:=by rfl) (hf:yE X x:=by first|exact .inl rfl|exact .inr rfl|assumption):QS X (.Assign [.Name x p] (.ListComp e [⟨tg,o,az,0⟩] ax pos) b8) (fun Y=>JH i (u4 ix T A F (L Y) Y) Y):=⟨Ng Lk hit.h kU.to hT hN hc hi hx Ha hs hf⟩
end
section
variable {b:Expr}
theorem bR(hu:X.A.units+1<cLine)(ha:QE X o F)(hb:QE X b G)(hs:sX b:=by exact fun _ _=>rfl):QE X (.Subscript o b pos) (fun Y=>Hd jI (F Y) (G Y)):=⟨aae hu ha.h hb.h hs⟩
theorem pL:QO X none (fun _=>.ok none):=⟨RJ⟩
theorem pM(h:QE X e F):QO X (some e) (fun Y=>Nw (F Y)):=⟨RK h.h⟩
end
theorem P4(ha:QE X e F):QE X (.UnaryOp .USub e pos) (fun Y=>(F Y).bind RM):=⟨V8 ha.h⟩
section
variable {E:bO->Rs Tr}{keys:List (Option Expr)}{P:bO->Rs (List (Tr×Tr))}
theorem KZ(h:QP X pos keys az P)(uw:keys.all (·.isSome)=true:=by rfl) (hl:keys.length=az.length:=by rfl) (h0:keys.isEmpty=false:=by rfl) (M0:keys.length<=15:=by decide):QE X (.Dict keys az pos) (fun Y=>V9 (P Y)):=⟨RP h uw hl h0 M0⟩
theorem S1(hu:X.A.units+1<cLine)(ho:QE X o F)(he:QE X e G)(hb:isCall o=false:=by rfl) (cz:bq [e]=true:=by rfl) (hl:(b8.endLine==p.line)=true:=by rfl):QE X (.Call (.Attribute o "get" b8) [e] [] p) (fun Y=>JO (F Y) (G Y)):=⟨RQ hu ho.h he.h hb cz hl⟩
theorem K0(hu:X.A.units+1<cLine)(ho:QE X o F)(he:QE X e G)(hf:QE X am E)(hb:isCall o=false:=by rfl) (cz:bq [e,am]=true:=by rfl) (hl:(b8.endLine==p.line)=true:=by rfl):QE X (.Call (.Attribute o "get" b8) [e,am] [] p) (fun Y=>JP (F Y) (G Y) (E Y)):=⟨RR hu ho.h he.h hf.h hb cz hl⟩
end
section
variable {a:Expr}{keys:List (Option Expr)}{P:bO->Rs (List (Tr×Tr))}
theorem XG(g:Av X.K X.w X.mg x bt)(ha:QE X a F)(hg:Gl X x:=by rfl) (hd:Db x:=by decide) (hs:MX a:=by exact fun _ _=>rfl):QE X (.Subscript (.Name x p) a pos) (fun Y=>(F Y).bind (RS bt)):=⟨V_ g ha.h hg hd hs⟩
end
theorem XH(hm:X.mg "zip"=none)(ha:QA X [e,o] L)(hg:Gl X "zip":=by rfl) (hs:bq [e,o]=true:=by rfl):QI X (.Tuple az i b8) (.Call (.Name "zip" p) [e,o] [] pos) (fun Y=>zpW (L Y)):=⟨WQ hm ha.h hg hs⟩
theorem iI(h:QE X e F):QE X (.FormattedValue e (-1) none pos) (fun Y=>(F Y).bind NR):=⟨Si h.h⟩
theorem Gn(hl:QE X e F):QJ X tg e (fun Y=>J4 (F Y)):=⟨Wq hl.h⟩
section
variable {b:Expr}{es:List Expr}{N':List Str}{ix:List (Option Nat)}{T:n6}
theorem P5(Lk:gz X N' ix ax)(hi:QJ X tg o L)(kU:C5 X ax N' tg e az T aE F)(hT:jx T)(hc:X.calm=true:=by rfl) (hs:isSet o=false:=by rfl):QE X (.ListComp e [⟨tg,o,az,0⟩] ax pos) (fun Y=>u4 ix T aE F (L Y) Y):=⟨Wr Lk hi.h kU.to hT hc hs⟩
theorem S2{G:bO->Rs Out}(hi:QJ X tg o L)(hg:QG X tg T)(hb:QB X ah G)(hp:PassesOwn (model X.prog X.w) X.A X.env X.xe:=by exact oU) (hc:X.calm=true:=by rfl) (hs:isSet o=false:=by rfl):QS X (.For tg o ah [] pos) (fun Y=>FG T G (L Y) Y):=⟨R7 hi.h hg.h hb.h hp hc hs⟩
end
theorem XI{h:List Tr->Tr->Rs Tr}(slot:Slot "list" x ay)(MS:typeOf (.builtin ay)=pure (.type "method_descriptor"))(hm:QX X ay (WY X h))(ho:QE X o F)(he:QE X e G)(pa:PlainAttrs "list":=by exact r6) (o_:isCall o=false:=by rfl) (cz:bq [e]=true:=by rfl) (fJ:(b8.endLine==pos.line)=true:=by rfl):QE X (.Call (.Attribute o x b8) [e] [] pos) (fun Y=>lmR h (F Y) (G Y)):=⟨aat slot MS hm ho.h he.h pa o_ cz fJ⟩
section
variable {dt:Pos}
theorem XJ(hu:X.A.units+1<cLine)(g:Ko X.K X.mg x ts)(he:QE X e G)(hg:Gl X x:=by rfl) (hd:Db x:=by decide) (cz:bq [e]=true:=by rfl) (fJ:(b8.endLine==dt.line)=true:=by rfl):QE X (.Call (.Attribute (.Name x p) "index" b8) [e] [] dt) (fun Y=>(G Y).bind (vA ts)):=⟨W0 hu g he.h hg hd cz fJ⟩
theorem XM{x1}(hu:X.A.units+1<cLine)(ht:QA X az L)(he:QE X e G)(cz:bq [e]=true:=by rfl) (fJ:(b8.endLine==dt.line)=true:=by rfl):QE X (.Call (.Attribute (.Tuple az x1 pos) "index" b8) [e] [] dt) (fun Y=>(L Y).bind fun ts=>if ts.length<=e_ then(G Y).bind (vA ts)else .bad):=⟨W3 hu ht.h he.h cz fJ⟩
end
section
variable {dt:Pos}{fd:FuncData}{k:Nat}
theorem S3(D:MethAt X.K x av ai ps a fd)(G:d5 X.prog X.w X.K X.mg X.base lX k a fd ps (spT X.K h))(hr:cV k X.A)(ho:QE X o F)(ha:QA X (e::az) L){pl:Sem Bool}(cz:bq (e::az)=true:=by rfl) (ht:eval (.Call (.Attribute o av b8) (e::az) [] pos) X.env=sP pos b8 o av (e::az) X.env pl:=by rfl):QE X (.Call (.Attribute o av b8) (e::az) [] pos) (fun Y=>vd x av h (F Y) (L Y)):=⟨Sr D G hr ho.h ha.h cz ht⟩
theorem Oa(D:MethAt X.K x av ai ps a fd)(G:d5 X.prog X.w X.K X.mg X.base lX k a fd ps (spT X.K h))(hr:cV k X.A)(ho:QE X o F){pl:Sem Bool}(ht:eval (.Call (.Attribute o av b8) [] [] pos) X.env=sP pos b8 o av [] X.env pl:=by rfl):QE X (.Call (.Attribute o av b8) [] [] pos) (fun Y=>vd x av h (F Y) (.ok [])):=⟨NV D G hr ho.h ht⟩
end
section
variable {p2:Pos}
theorem S4(hs:X.mg "sorted"=none)(hm:X.mg "set"=none)(hl:QE X e F)(hc:X.calm=true:=by rfl) (hg:Gl X "sorted":=by rfl) (KC:Gl X "set":=by rfl) (cz:bq [e]=true:=by rfl):QE X (.Call (.Name "sorted" p) [.Call (.Name "set" p2) [e] [] b8] [] pos) (fun Y=>(F Y).bind pF):=⟨SN hs hm hl.h hc hg KC cz⟩
end
theorem S5(T:AN X.K X.w X.mg x ps)(hg:Gl X x:=by rfl) (fq:Db x:=by decide):QI X tg (.Name x p) (fun _=>.ok (ps.map .str)):=⟨SO T hg fq⟩
theorem aT(h:QE X e F):ZE X e (fun Y A=>gs (F Y) A):=⟨RV h.h⟩
theorem bg(h:QE X e F):ZE X e (fun Y A=>rW (F (dc A Y)) A):=⟨RW h.h⟩
theorem ck(h:QT X e aE):ZT X e (fun Y A=>gs (aE (dc A Y)) A):=⟨NG h.h⟩
theorem fP(h:NE X e F):ZE X e (fun Y A=>uG (F (dc A Y)) A):=⟨Wd h.h⟩
section
variable {c:Expr}{G:bO->Ab->Rz Out}{P:bO->Ab->Rz Bool}
theorem dr:ZB X [] (fun Y A=>.ok (.nx Y) A):=⟨We⟩
theorem bh(h1:ZS X ai G)(h2:ZB X ah aJ):ZB X (ai::ah) (fun Y A=>Ej (G Y A) aJ):=⟨RX h1.h h2.h⟩
theorem bN(h1:ZS X ai G):ZB X [ai] G:=⟨Wf h1.h⟩
theorem vj:ZE X e (fun _ _=>.bad):=⟨Wg⟩
theorem gB{i:Nat}(he:ZE X e aH)(hN:X.N.Nodup:=by assumption) (hi:X.N[i]?=some x:=by rfl) (hx:Loc X.env.scope x:=by first|exact Or.inl rfl|exact Or.inr rfl) (hs:rJ e=false:=by rfl) (hf:yE X x:=by first|exact .inl rfl|exact .inr rfl|assumption):ZS X (.Assign [.Name x p] e pos) (fun Y A=>Aw i (aH Y A) Y):=⟨Wh he.h hN hi hx hs hf⟩
theorem eM(he:ZE X e aH):ZS X (.Return (some e) pos) (fun Y A=>JU (aH Y A)):=⟨Wi he.h⟩
theorem S6:ZS X (.Return none pos) (fun _ A=>.ok (.ret .cu) A):=⟨RZ⟩
theorem cH(he:ZE X e aH)(hs:rJ e=false:=by rfl):ZS X (.Expr e pos) (fun Y A=>qV (aH Y A) Y):=⟨R0 he.h hs⟩
theorem fm(hc:ZT X c P)(h1:ZB X ah G)(h2:ZB X aj aJ):ZS X (.If c ah aj pos) (fun Y A=>YZ (P Y A) (G Y) (aJ Y)):=⟨aah hc.h h1.h h2.h⟩
theorem P6{T:n6}(hg:QG X tg T)(hT:jx T)(he:ZE X e aH)(hs:swapsWithSole [tg] e pos.line X.env=pure false:=by rfl) (hw:swappedStores [tg] e X.env=pure none:=by rfl) (h1:(assignEach [tg] X.env).map (·.2)=[assign tg X.env]:=by rfl):ZS X (.Assign [tg] e pos) (fun Y A=>JV T (aH Y A) Y):=⟨Wj hg.h hT he.h hs hw h1⟩
theorem Gp{T:n6}(hi:QI X tg e L)(hg:QG X tg T)(hT:jx T)(hb:ZB X ah G)(hp:PassesOwn (model X.prog X.w) X.A X.env X.xe:=by first|exact oU|exact wK) (hc:X.calm=true:=by rfl) (hs:isSet e=false:=by rfl):ZS X (.For tg e ah [] pos) (fun Y A=>F2 T G (gs (L Y) A) Y):=⟨Wk hi.h hg.h hT hb.h hp hc hs⟩
end
theorem bJ:ZL X [] (fun _ A=>.ok [] A):=⟨JY⟩
theorem aV(h1:ZE X e aH)(hr:ZL X az aG)(hs:isStar e=false:=by rfl):ZL X (e::az) (fun Y A=>F4 (aH Y A) (aG Y)):=⟨F5 h1.h hr.h hs⟩
section
variable {r:V->List V->Hp->VK->Prop}{h:Nat->List Tr->Ab->Rz Tr}
theorem zP(slot:Slot "list" x ay)(MS:typeOf (.builtin ay)=pure (.type "method_descriptor"))(hm:ZU X ay r)(hz:WrZ X r h)(ho:ZE X o aH)(ha:ZL X (e::az) aG)(pa:PlainAttrs "list":=by exact r6) (o_:isCall o=false:=by rfl) (cz:bq (e::az)=true:=by rfl) (hn:(e::az).length<30:=by decide) (fJ:(b8.endLine==p.line)=true:=by rfl):ZE X (.Call (.Attribute o x b8) (e::az) [] p) (fun Y A=>mtL h (aH Y A) (aG Y)):=⟨Wm slot MS hm hz ho.h ha.h pa o_ cz hn fJ⟩
end
theorem x8(h:QA X az L):NE X (.List az pos) (fun Y=>yN (L Y)):=⟨Wn h.h⟩
theorem lO:NE X (.Dict [] [] pos) (fun _=>.ok (.bT [])):=⟨R5⟩
section
variable {a b:Expr}{es:List Expr}{N':List Str}{ix:List (Option Nat)}{T:n6}{W:bO->Rs (List Tr)}
theorem S7(Lk:gz X N' ix ax)(hi:QI X tg am W)(kU:C5 X ax N' tg o az T aE F)(hT:jx T)(hc:X.calm=true:=by rfl) (hs:isSet am=false:=by rfl):NE X (.ListComp o [⟨tg,am,az,0⟩] ax pos) (fun Y=>u4 ix T aE F (W Y) Y):=⟨aai Lk hi.h kU.to hT hc hs⟩
theorem Ob{i:Nat}(Lk:gz X N' ix ax)(hit:QI X tg am W)(kU:C5 X ax N' tg o az T aE F)(hT:jx T)(hN:X.N.Nodup:=by assumption) (hc:X.calm=true:=by rfl) (hi:X.N[i]?=some x:=by rfl) (hx:Loc X.env.scope x:=by first|exact Or.inl rfl|exact Or.inr rfl) (Ha:swapsWith (.ListComp o [⟨tg,am,az,0⟩] ax pos) (some (.Name x p)) b8.line X.env=pure true:=by rfl) (hs:isSet am=false:=by rfl) (hf:yE X x:=by first|exact .inl rfl|exact .inr rfl|assumption):ZS X (.Assign [.Name x p] (.ListComp o [⟨tg,am,az,0⟩] ax pos) b8) (fun Y A'=>Aw i (uG (u4 ix T aE F (W (dc A' Y)) (dc A' Y)) A') Y):=⟨NI Lk hit.h kU.to hT hN hc hi hx Ha hs hf⟩
theorem x9(hc:gn X (.type ay) (rF X h))(hm:X.mg x=none)(ha:QA X (e::es) L)(hv:bootBuiltins x=some (.type ay):=by rfl) (hg:Gl X x:=by rfl) (hn:x≠"__name__":=by decide) (fq:Db x:=by decide) (cz:bq (e::es)=true:=by rfl):NE X (.Call (.Name x p) (e::es) [] pos) (fun Y=>dv h (L Y)):=⟨J0 hc hm ha.h hv hg hn fq cz⟩
end
section
variable {h:List Tr->Ab->Rz Tr}{fd:FuncData}{k:Nat}
theorem XN(D:zc X.K X.mg x ai ps a fd)(G:d5 X.prog X.w X.K X.mg X.base (uF X.prog X.w) k a fd ps (ve X.K h))(hr:cV k X.A)(ha:ZL X (e::az) aG)(hx:X.ex=[]:=by rfl) (hg:Gl X x:=by rfl) (fq:Db x:=by decide) (cz:bq (e::az)=true:=by rfl):ZE X (.Call (.Name x p) (e::az) [] pos) (fun Y A=>(aG Y A).bind h):=⟨W6 D G hr ha.h hx hg fq cz⟩
end
section
variable {h:List Tr->Ab->Rz Tr}{fd:FuncData}{k:Nat}
theorem S8(D:MethAt X.K x av ai ps a fd)(G:d5 X.prog X.w X.K X.mg X.base (uF X.prog X.w) k a fd ps (ve X.K h))(hr:cV k X.A)(ho:ZE X o aH)(ha:ZL X (e::az) aG){pl:Sem Bool}(hx:X.ex=[]:=by rfl) (cz:bq (e::az)=true:=by rfl) (ht:eval (.Call (.Attribute o av b8) (e::az) [] pos) X.env=sP pos b8 o av (e::az) X.env pl:=by rfl):ZE X (.Call (.Attribute o av b8) (e::az) [] pos) (fun Y A=>qX x av h (aH Y A) (aG Y)):=⟨Ss D G hr ho.h ha.h hx cz ht⟩
theorem Oc(D:MethAt X.K x av ai ps a fd)(G:d5 X.prog X.w X.K X.mg X.base (uF X.prog X.w) k a fd ps (ve X.K h))(hr:cV k X.A)(ho:ZE X o aH){pl:Sem Bool}(hx:X.ex=[]:=by rfl) (ht:eval (.Call (.Attribute o av b8) [] [] pos) X.env=sP pos b8 o av [] X.env pl:=by rfl):ZE X (.Call (.Attribute o av b8) [] [] pos) (fun Y A=>qX x av h (aH Y A) fun A=>.ok [] A):=⟨NX D G hr ho.h hx ht⟩
end
theorem ja(D:qY X.K X.mg x)(ha:ZL X (e::az) aG)(hx:X.ex=[]:=by rfl) (hc:X.calm=true:=by rfl) (hg:Gl X x:=by rfl) (fq:Db x:=by decide) (cz:bq (e::az)=true:=by rfl):ZS X (.Raise (some (.Call (.Name x p) (e::az) [] b8)) none pos) (fun Y A=>Ez x (aG Y A)):=⟨NZ D ha.h hx hc hg fq cz⟩
theorem dh(T:iA X.K ps x)(he:QE X e F)(hb:attributeBase e x X.env (eval e X.env)=eval e X.env:=by first|exact gb rfl|rfl):QE X (.Attribute e x pos) (fun Y=>(F Y).bind (jJ ps x)):=⟨Su T he.h hb⟩
theorem nr(T:iA X.K ps x)(he:ZE X e aI)(hb:attributeBase e x X.env (eval e X.env)=eval e X.env:=by first|exact gb rfl|rfl):ZE X (.Attribute e x pos) (fun Y A=>vB ps x (aI Y A)):=⟨Sv T he.h hb⟩
theorem pN(T:iA X.K ps x)(ho:ZE X o aI)(hv:ZE X tg aH):ZS X (.Assign [.Attribute o x p] tg pos) (fun Y A=>W8 ps x (aH Y A) (aI Y) Y):=⟨W9 T ho.h hv.h⟩
section
variable {b i:Expr}{E:bO->Ab->Rz Tr}
theorem tY(hu:X.A.units+1<cLine)(h1:ZE X e aH)(h2:ZE X b aI)(hs:sX b:=by exact fun _ _=>rfl):ZE X (.Subscript e b pos) (fun Y A=>N1 jI (aH Y A) (aI Y)):=⟨aau hu h1.h h2.h hs⟩
theorem ib(hu:X.A.units+1<cLine)(ho:ZE X o aH)(hi:ZE X i aI)(hv:ZE X tg E):ZS X (.Assign [.Subscript o i p] tg pos) (fun Y A=>Sw (E Y A) (aH Y) (aI Y) Y):=⟨Sx hu ho.h hi.h hv.h⟩
end
section
variable {E:bO->Ab->Rz Tr}
theorem K1(ho:ZE X o aH)(he:ZE X e aI)(hb:isCall o=false:=by rfl) (cz:bq [e]=true:=by rfl) (hl:(b8.endLine==p.line)=true:=by rfl):ZE X (.Call (.Attribute o "pop" b8) [e] [] p) (fun Y A=>Kq (aH Y A) (aI Y)):=⟨Sy ho.h he.h hb cz hl⟩
theorem S9(ho:ZE X o aH)(he:ZE X e aI)(hf:ZE X tg E)(hb:isCall o=false:=by rfl) (cz:bq [e,tg]=true:=by rfl) (hl:(b8.endLine==p.line)=true:=by rfl):ZE X (.Call (.Attribute o "pop" b8) [e,tg] [] p) (fun Y A=>Ks (aH Y A) (aI Y) (E Y)):=⟨SA ho.h he.h hf.h hb cz hl⟩
end
section
variable {E:bO->Ab->Rz Tr}{c:Str}{h:List Tr->Ab->Rz Tr}{fd:FuncData}{k:Nat}
theorem S_(D:xT X.K X.mg c ps a fd)(aI:d5 X.prog X.w X.K X.mg X.base (uF X.prog X.w) k a fd ps (ve X.K h))(hr:cV (k+1) X.A)(ha:ZL X (e::az) aG)(hx:X.ex=[]:=by rfl) (hg:Gl X c:=by rfl) (fq:Db c:=by decide) (cz:bq (e::az)=true:=by rfl):ZE X (.Call (.Name c p) (e::az) [] pos) (fun Y A=>xR c h (aG Y A)):=⟨SD D aI hr ha.h hx hg fq cz⟩
theorem Od(D:xT X.K X.mg c ps a fd)(aI:d5 X.prog X.w X.K X.mg X.base (uF X.prog X.w) k a fd ps (ve X.K h))(hr:cV (k+1) X.A)(hx:X.ex=[]:=by rfl) (hg:Gl X c:=by rfl) (fq:Db c:=by decide):ZE X (.Call (.Name c p) [] [] pos) (fun _ A=>xR c h (.ok [] A)):=⟨N2 D aI hr hx hg fq⟩
end
section
variable {b:Expr}{es:List Expr}{N':List Str}{ix:List (Option Nat)}{T:n6}
theorem K2{i:Nat}(Lk:gz X N' ix ax)(hit:QJ X tg o L)(kU:C5 X ax N' tg e az T aE F)(hT:jx T)(hN:X.N.Nodup:=by assumption) (hc:X.calm=true:=by rfl) (hi:X.N[i]?=some x:=by rfl) (hx:Loc X.env.scope x:=by first|exact Or.inl rfl|exact Or.inr rfl) (Ha:swapsWith (.ListComp e [⟨tg,o,az,0⟩] ax pos) (some (.Name x p)) b8.line X.env=pure true:=by rfl) (hs:isSet o=false:=by rfl) (hf:yE X x:=by first|exact .inl rfl|exact .inr rfl|assumption):ZS X (.Assign [.Name x p] (.ListComp e [⟨tg,o,az,0⟩] ax pos) b8) (fun Y A'=>Aw i (uG (u4 ix T aE F (L (dc A' Y)) (dc A' Y)) A') Y):=⟨Kx Lk hit.h kU.to hT hN hc hi hx Ha hs hf⟩
end
section
variable {P:bO->Ab->Rz Bool}{hp:Pos}{G2:bO->Ab->Rz Out}
theorem K3(h:ZE X e aH)(he:my e=true:=by rfl):ZT X e (fun Y A=>SG (aH Y A)):=⟨SH h.h he⟩
theorem K4(h:ZT X e P):ZT X (.UnaryOp .Not e pos) (fun Y A=>SI (P Y A)):=⟨eq_not h.h⟩
end
section
variable {P:bO->Ab->Rz Bool}{hp:Pos}{abg:Stmt}{G2:bO->Ab->Rz Out}
theorem K5:QE X e (fun _=>.bad):=⟨Xj⟩
theorem XO:QS X ai (fun _=>.bad):=⟨Xk⟩
end
section
variable {p2:Pos}{c:Str}{tab:List (Str×Bool)}{cv:V}
theorem lP(T:iB X.K (.ref (clsAt X.K c)) tab)(hm:X.mg c=some (.ref (clsAt X.K c)))(hi:X.mg "isinstance"=none)(he:QE X e F)(hg:Gl X c:=by rfl) (KC:Gl X "isinstance":=by rfl) (fq:Db c:=by decide) (cz:bq [e,.Name c p2]=true:=by rfl):QE X (.Call (.Name "isinstance" p) [e,.Name c p2] [] pos) (fun Y=>(F Y).bind (HW tab)):=⟨SK T hm hi he.h hg KC fq cz⟩
theorem Ta(T:iB X.K (.type ay) tab)(hm:X.mg c=none)(hi:X.mg "isinstance"=none)(he:QE X e F)(hv:bootBuiltins c=some (.type ay):=by rfl) (hg:Gl X c:=by rfl) (hn:c≠"__name__":=by decide) (KC:Gl X "isinstance":=by rfl) (fq:Db c:=by decide) (cz:bq [e,.Name c p2]=true:=by rfl):QE X (.Call (.Name "isinstance" p) [e,.Name c p2] [] pos) (fun Y=>(F Y).bind (HW tab)):=⟨SM T hm hi he.h hv hg hn KC fq cz⟩
end
theorem XQ(ho:ZE X o aH)(he:ZE X e aI)(hb:isCall o=false:=by rfl) (cz:bq [e]=true:=by rfl) (hl:(b8.endLine==p.line)=true:=by rfl):ZE X (.Call (.Attribute o "update" b8) [e] [] p) (fun Y A=>Xm (aH Y A) (aI Y)):=⟨Xn ho.h he.h hb cz hl⟩
section
variable {fd:FuncData}{k:Nat}{kp:Pos}{O:bO->Rs Tr}
theorem K6(D:MethAt X.K x av ai ps a fd)(Bn:zI X.K a)(G:d5 X.prog X.w X.K X.mg X.base lX k a fd ps (spT X.K h))(hr:cV (k+1) X.A)(hm:X.mg "min"=none)(hl:QE X e F)(ho:QE X o O)(hc:X.calm=true:=by rfl) (hg:Gl X "min":=by rfl) (cz:bq [e]=true:=by rfl) (hb:isCall o=false:=by rfl) (SV:PySem.W.copiedNames.contains av=false:=by decide+kernel):QE X (.Call (.Name "min" p) [e] [⟨some "key",.Attribute o av b8,kp⟩] pos) (fun Y=>Gi x av h (F Y) (O Y)):=⟨KN D Bn G hr hm hl.h ho.h hc hg cz hb SV⟩
end
section
variable {P1 P2:bO->Rs (Option Int)}{lo hi:Option Expr}
theorem vk(he:QE X e F)(hl:QO X lo P1)(hu:QO X hi P2):QE X (.Subscript e (.Slice lo hi none p) pos) (fun Y=>AS (F Y) (P1 Y) (P2 Y)):=⟨Xx he.h hl.h hu.h⟩
end
section
variable {dt:Pos}
theorem K7(hs:X.mg "sorted"=none)(ho:QE X o F)(hc:X.calm=true:=by rfl) (hg:Gl X "sorted":=by rfl) (hb:isCall o=false:=by rfl) (fJ:(b8.endLine==dt.line)=true:=by rfl):QE X (.Call (.Name "sorted" p) [.Call (.Attribute o "items" b8) [] [] dt] [] pos) (fun Y=>(F Y).bind vR):=⟨KU hs ho.h hc hg hb fJ⟩
end
theorem AV{keys:List (Option Expr)}{P:bO->Rs (List (Tr×Tr))}(hk:QE X e F)(hv:QE X o G)(hr:QP X pos keys az P):QP X pos (some e::keys) (o::az) fun Y=>Po (F Y) (G Y) (P Y):=NC hk.h hv.h hr
theorem yF.okQ {base:Heap}{qual:Str}{st:Stmt}{f:Addr}{fd:FuncData}{N:List Str}{k:Nat}(Fn:yF K x qual st f fd)(S:gO N ps (bC st))(len:∀ts t,h ts=.ok t->ts.length=ps.length)
  (kE:∀(fH:Value) (A:Around) (outer:List Env) (s:Shared) (H:Hp) (E:XK),cV k (A.deeper (envOfC qual (bC st) s.heap.objs.size f fH))->
   ∃G,QB (n5 lX P w K mg base N qual (bC st) f fH A outer s H E).IH (fF st) G/\∀ts t,h ts=.ok t->dE (G (startT N.length ts))=.ok t):d5 P w K mg base lX (k+1) f fd ps (spT K h):=
 Fn.okT S len fun fH A outer s H E hr=>let⟨G,h,q⟩:=kE fH A outer s H E hr;⟨G,h.h,q⟩
theorem yF.aaz {base:Heap}{qual:Str}{st:Stmt}{f:Addr}{fd:FuncData}{N:List Str}{k:Nat}(Fn:yF K x qual st f fd)(S:gO N ps (bC st))(len:∀ts t,h ts=.ok t->ts.length=ps.length)
  (kE:∀(fH:Value) (A:Around) (outer:List Env) (s:Shared) (H:Hp) (E:XK),cV k (A.deeper (envOfC qual (bC st) s.heap.objs.size f fH))->
   ∃G,ZB (n5 lX P w K mg base N qual (bC st) f fH A outer s H E).IH (fF st) G/\∀ts t,h ts=.ok t->jk ts=true/\xB (G (startT N.length ts) [])=.ok t):d5 P w K mg base lX (k+1) f fd ps (spT K h):=
 Fn.okZ S len fun fH A outer s H E hr=>let⟨G,h,q⟩:=kE fH A outer s H E hr;⟨G,h.h,q⟩
theorem nu{keys:List (Option Expr)}{P:bO->Ab->Rz (List (Tr×Tr))}(hk:ZE X e aH)(hv:ZE X o aI)(hr:SF X pos keys az P):SF X pos (some e::keys) (o::az) fun Y A=>PX (aH Y A) (aI Y) (P Y):=Kw hk.h hv.h hr
theorem K8{keys:List (Option Expr)}{P:bO->Ab->Rz (List (Tr×Tr))}(h:SF X pos keys az P)(uw:keys.all (·.isSome)=true:=by rfl) (hl:keys.length=az.length:=by rfl) (h0:keys.isEmpty=false:=by rfl) (M0:keys.length<=15:=by decide):ZE X (.Dict keys az pos) (fun Y A=>Xh (P Y) A):=⟨N5 h uw hl h0 M0⟩
structure JQ(X:Cx)(es:List Expr)(J:bO->Str->Rs Tr):Prop where
 h:PJ X es J
theorem rf:JQ X [] fun _ acc=>CC acc:=⟨WR⟩
theorem dM{J:bO->Str->Rs Tr}(h:QE X e F)(hr:JQ X az J):JQ X (e::az) fun Y acc=>nQ (F Y) (J Y) acc:=⟨Sj h.h hr.h⟩
theorem lQ{J:bO->Str->Rs Tr}(h:JQ X (e::o::az) J):QE X (.JoinedStr (e::o::az) pos) (fun Y=>J Y Str.empty):=⟨NS h.h⟩
theorem Oe{c n:Str}{G2:bO->Ab->Rz Out}(Tc:qA X.K X.mg c ps)(hb:∀pn E',ZB (X.kH pn E') ah aJ)(hs:∀pn e,ZB (X.pG pn e) (ai::aj) G2)(hN:X.N.Nodup)(hi:X.N[i]?=some n:=by rfl) (hl:X.env.scope.names.lookup n=some .local:=by rfl)
  (cz:X.stack=X.env::X.outer:=by rfl) (hf:X.env.frame=some X.env.locals:=by rfl) (hx:X.ex=[]:=by rfl) (Mz:yE X n:=by exact .inl rfl) (hg:Gl X c:=by rfl) (fq:Db c:=by decide):
  ZS X (.Try ah [.ExceptHandler (some (.Name c p)) (some n) (ai::aj) b8] [] [] pos) (fun Y A=>EB X.N.length i ps (aJ Y A) G2):=⟨Ku Tc (fun pn E'=>(hb pn E').h) (fun pn e=>(hs pn e).h) hN hi hl cz hf hx Mz hg fq⟩
theorem yF.aaA {base:Heap}{qual:Str}{st:Stmt}{f:Addr}{fd:FuncData}{N:List Str}{k:Nat}{h:List Tr->Ab->Rz Tr}(Fn:yF K x qual st f fd)(S:gO N ps (bC st))(len:∀ts A,h ts A≠ .bad->ts.length=ps.length)
  (kE:∀(fH:Value) (A:Around) (outer:List Env) (s:Shared) (H:Hp) (E:XK),cV k (A.deeper (envOfC qual (bC st) s.heap.objs.size f fH))->
   ∃G,ZB (n5 (uF P w) P w K mg base N qual (bC st) f fH A outer s H E) (fF st) G/\∀ts A,h ts A≠ .bad->h ts A=cM (G (startT N.length ts) A)):d5 P w K mg base (uF P w) (k+1) f fd ps (ve K h):=
 Fn.okS S len fun fH A outer s H E hr=>let⟨G,h,q⟩:=kE fH A outer s H E hr;⟨G,h.h,q⟩
def K9(K:Frag)(D:Addr):Bool:=decide (findIn K (.ref D) "__getattribute__"=some (some (.builtin "BaseException.__getattribute__")))&&(decide (findIn K (.ref D) "__getattr__"=some none)&&(decide (findIn K (.ref D) "__class__"=some (some (.builtin "object.__class__")))&&(decide (mroIn K D (.type "object")=some true)&&decide (mroIn K D (.type "BaseException")=some true))))
theorem Of{K:Frag}{D:Addr}(h:K9 K D=true):AM K D:=by
 unfold K9 at h;rw[bP,bP,bP,bP]at h;exact⟨ee h.1,ee h.2.1,ee h.2.2.1,ee h.2.2.2.1,ee h.2.2.2.2⟩
def XR(K:Frag)(u:Value)(tab:List (Str×Bool)):Bool:=tab.all fun p=>decide (kitOne K (.ref (clsAt K p.1)) u=some p.2)
def XT(K:Frag)(xs:List Str):Bool:=xs.all fun x=>K9 K (clsAt K x)&&(clsIn K (clsAt K x)).isSome
theorem iJ{α:Type}{z:Str}:∀{l:List (Str×α)} {a:α},l.lookup z=some a->(z,a)∈l
 |[],_,h=>by cases h
 |(y,b)::l,a,h=>by
  rw[cE]at h;cases e:(z==y)with
  |true=>rw[e]at h;cases h;rw[eq_of_beq e];exact cp ..
  |false=>rw[e]at h;exact b_ _ (iJ h)
theorem Tb{K:Frag}{tab:List (Str×Bool)}{xs:List Str}(h:XR K af tab=true)(q:XT K xs=true)(e:tab.map (·.1)=xs):iB K af tab:=⟨fun x b hx=>by
 have m:=iJ hx;have h1:=ee (dm.mp h _ m);have mx:x∈xs:=by rw[<-e];exact fV m
 have h2:=dm.mp q x mx;rw[bP]at h2;exact⟨h1,Of h2.1,h2.2⟩⟩
def XU(K:Frag)(c:Str)(xs:List Str):Bool:=xs.all fun x=>decide (exmOne K (.ref (clsAt K x)) (.ref (clsAt K c))=some true)
theorem K_{K:Frag}{xs:List Str}(m:mg av=some (.ref (clsAt K av)))(h:XU K av xs=true):qA K mg av xs:=⟨m,fun x hx=>ee (dm.mp h x hx)⟩
theorem XW{P:List Value->Prop}(h:P []):∀us:List Value,us.length=0->P us
 |[],_=>h
theorem XX{P:List Value->Prop}(h:∀a us,us.length=i->P (a::us)):∀us:List Value,us.length=i+1->P us
 |a::us,e=>h a us (Nat.succ.inj e)
theorem XY{P:List Value->Prop}(h:∀a,P [a]):∀us:List Value,us.length=1->P us:=XX fun a=>XW (P:=fun l=>P (a::l)) (h a)
theorem XZ{P:List Value->Prop}(h:∀a b,P [a,b]):∀us:List Value,us.length=2->P us:=XX fun a=>XY (P:=fun l=>P (a::l)) (h a)
theorem X0{P:List Value->Prop}(h:∀a b c,P [a,b,c]):∀us:List Value,us.length=3->P us:=XX fun a=>XZ (P:=fun l=>P (a::l)) (h a)
theorem X1{P:List Value->Prop}(h:∀a b c d,P [a,b,c,d]):∀us:List Value,us.length=4->P us:=XX fun a=>X0 (P:=fun l=>P (a::l)) (h a)
theorem Ze{P:List Value->Prop}(h:∀a b c d e,P [a,b,c,d,e]):∀us:List Value,us.length=5->P us:=XX fun a=>X1 (P:=fun l=>P (a::l)) (h a)
section
variable {K:Frag}{f:Str}{C:Addr}
def Og(K:Frag)(C:Addr):Bool:=plainGet K C Str.empty&&(hasDictIn K C&&(plainOver K C&&decide (findIn K (.ref C) "__setattr__"=some (some (.builtin "object.__setattr__")))))
theorem K'(h:Og K C=true):DV K C:=by
 unfold Og at h;rw[bP,bP,bP]at h;exact⟨h.1,h.2.1,h.2.2.1,ee h.2.2.2⟩
def aaB(K:Frag)(C:Addr)(fs:List Str):Bool:=fs.all fun f=>decide (findIn K (.ref C) f=some none)
end
theorem Ei.gk {K:Frag}{bt:List (Str×Tr)}{ep:Nat}(h:Ei K w es kvs bt)(hm:mg x=some (.ref a))(hl:K.lookup a=some ⟨.type "dict",none,.dict es.toArray ep,#[]⟩) (hs:(a==sysModules)=false) (hn:(kvs.map (·.1)).Nodup) (hz:∀z∈kvs.map (·.1),z.length<=cS):AN K w mg x (kvs.map (·.1)):=
 ⟨a,kvs,hm,⟨hs,_,_,_,hl,⟨rfl,rfl,rfl⟩,rfl,fun prog=>⟨fun e he=>h.keys prog e (by simpa using he),h.pairs prog,hn⟩⟩,rfl,hz⟩
structure Df where
 c:Option Str
 x:Str
 q:Str
 st:Stmt
 ps:List Str
def mtA(K:Frag)(c m:Str):Addr:=match findIn K (.ref (clsAt K c)) m with
 |some (some (.ref a))=>a
 |_=>0
def fdA(K:Frag)(a:Addr):FuncData:=match K.lookup a with
 |some ⟨_,_,.func d,_⟩=>d
 |_=>default
def isF(K:Frag)(a:Addr):Bool:=match K.lookup a with
 |some ⟨_,_,.func _,_⟩=>true
 |_=>false
theorem Td{K:Frag}(h:isF K a=true):∃oc od Jm,K.lookup a=some ⟨oc,od,.func (fdA K a),Jm⟩:=by
 unfold isF at h;unfold fdA;split at h
 ·rename_i e;rw[e];exact⟨_,_,_,rfl⟩
 ·cases h
namespace Df
def adr(K:Frag)(d:Df):Addr:=match d.c with
 |none=>clsAt K d.x
 |some c=>mtA K c d.x
def fd(K:Frag)(d:Df):FuncData:=fdA K (d.adr K)
def re(d:Df)(f:FuncData):FuncData:=fnOf d.x d.q (vL d.st) (fF d.st) (bC d.st) .none f.kwdefaults f.doc f.pyModule f.annotations f.code f.closureTuple
def isAt(K:Frag)(d:Df):Bool:=match d.c with
 |none=>decide (nsIn K mainGlobals d.x=some (some (.ref (d.adr K))))
 |some c=>decide (findIn K (.ref (clsAt K c)) d.x=some (some (.ref (d.adr K))))&&(isFn K (.ref (d.adr K))&&Og K (clsAt K c))
def P7(K:Frag)(d:Df):Bool:=isF K (d.adr K)&&(codeIn K (d.fd K).code d.q&&(keepIn K (.ref (d.adr K))&&d.isAt K))
structure Ok(K:Frag)(mg:Str->Option Value)(d:Df):Prop where
 fn:yF K d.x d.q d.st (d.adr K) (d.fd K)
 m0:d.c=none->mg d.x=some (.ref (d.adr K))
 m1:∀c,d.c=some c->Meth K (clsAt K c) d.x (d.adr K)/\DV K (clsAt K c)
theorem of{K:Frag}{d:Df}(X:K.In aa)(G:aa.Ns mainGlobals mg)(e:d.fd K=d.re (d.fd K))(k:d.P7 K=true):d.Ok K mg:=by
 unfold P7 at k;rw[bP,bP,bP]at k;obtain⟨k1,k2,k3,k4⟩:=k;obtain⟨oc,od,Jm,l⟩:=Td k1;refine⟨⟨⟨oc,od,_,_,_,_,_,_,Jm,e,l,k2⟩,k3⟩,fun z=>?_,fun c z=>?_⟩<;>unfold isAt at k4<;>rw[z]at k4
 ·exact mg_of X G (ee k4)
 ·rw[bP,bP]at k4;exact⟨⟨ee k4.1,k4.2.1,k3⟩,K' k4.2.2⟩
end Df
theorem La{K:Frag}{h:Heap}(X:K.In h)(G:h.Ns mainGlobals mg):∀{ds:List Df},ds.map (Df.fd K)=ds.map (fun d=>d.re (d.fd K))->ds.all (Df.P7 K)=true->∀d∈ds,d.Ok K mg
 |[],_,_,d,m=>nomatch m
 |a::ds,e,k,d,m=>by
  rw[hV,bP]at k;rw[bH,bH]at e;injection e with e1 e2
  rcases bB.mp m with rfl|m
  ·exact Df.of X G e1 k.1
  ·exact La X G e2 k.2 d m
section
variable {K:Frag}{d:Df}{N:List Str}{k:Nat}
structure x_(P:Program)(w:World)(K:Frag)(mg:Str->Option Value)(aa:Heap)(CX:BO)(i:Nat)(d:Df)(sp:Sp):Prop where
 ok:d5 P w K mg aa CX i (d.adr K) (d.fd K) d.ps sp
 bd:Binds K (d.fd K) d.ps []
 df:d.Ok K mg
abbrev Zf(d:Df):Prop:=∀(kV doc pm:Value) (an:Option Addr) (fH ct:Value) (us:List Value),us.length=d.ps.length->bindArgs (fnOf d.x d.q (vL d.st) (fF d.st) (bC d.st) .none kV doc pm an fH ct) ⟨us,[]⟩=pure (d.ps.zip us)
abbrev cxD(CX:BO)(P:Program)(w:World)(K:Frag)(mg:Str->Option Value)(aa:Heap)(N:List Str)(d:Df):=n5 CX P w K mg aa N d.q (bC d.st) (d.adr K)
abbrev Lb(K:Frag)(d:Df)(k:Nat)(fH:Value)(A:Around)(s:Shared):Prop:=cV k (A.deeper (envOfC d.q (bC d.st) s.heap.objs.size (d.adr K) fH))
theorem ig(N:List Str){a b:Nat}(D:d.Ok K mg)(hb:N.Nodup->∀fH A outer s H E,Lb K d k fH A s->ZB (cxD (uF P w) P w K mg aa N d fH A outer s H E) (fF d.st) aJ)(S:gO N d.ps (bC d.st):=by exact⟨rfl,rfl,rfl,by decide+kernel,rfl,by decide+kernel,by decide+kernel⟩) (B:Zf d:=by exact fun _ _ _ _ _ _=>by first|exact XW rfl|exact XY fun _=>rfl|exact XZ fun _ _=>rfl|exact X0 fun _ _ _=>rfl|exact X1 fun _ _ _ _=>rfl|exact Ze fun _ _ _ _ _=>rfl) (ha:d.ps.length=a:=by rfl) (hn:N.length=b:=by rfl):
  x_ P w K mg aa (uF P w) (k+1) d (ve K (fG a b aJ)):=by
 subst ha;subst hn;exact⟨yF.aaA D.fn S (fun ts A e=>CK e) fun fH A outer s H E hr=>⟨aJ,hb S.nd fH A outer s H E hr,fun ts A e=>NW e⟩,D.fn.binds B,D⟩
theorem jz(N:List Str){a b:Nat}{G:bO->Rs Out}(D:d.Ok K mg)(hb:N.Nodup->∀fH A outer s H E,Lb K d k fH A s->QB (cxD lX P w K mg aa N d fH A outer s H E).IH (fF d.st) G)(S:gO N d.ps (bC d.st):=by exact⟨rfl,rfl,rfl,by decide+kernel,rfl,by decide+kernel,by decide+kernel⟩) (B:Zf d:=by exact fun _ _ _ _ _ _=>by first|exact XW rfl|exact XY fun _=>rfl|exact XZ fun _ _=>rfl|exact X0 fun _ _ _=>rfl|exact X1 fun _ _ _ _=>rfl|exact Ze fun _ _ _ _ _=>rfl) (ha:d.ps.length=a:=by rfl) (hn:N.length=b:=by rfl):
  x_ P w K mg aa lX (k+1) d (spT K (qU a b G)):=by
 subst ha;subst hn;exact⟨yF.okQ D.fn S (fun ts t e=>NA e) fun fH A outer s H E hr=>⟨G,hb S.nd fH A outer s H E hr,fun ts t e=>RN e⟩,D.fn.binds B,D⟩
theorem aaC(N:List Str){a b:Nat}(D:d.Ok K mg)(hb:N.Nodup->∀fH A outer s H E,Lb K d k fH A s->ZB (cxD lX P w K mg aa N d fH A outer s H E).IH (fF d.st) aJ)(S:gO N d.ps (bC d.st):=by exact⟨rfl,rfl,rfl,by decide+kernel,rfl,by decide+kernel,by decide+kernel⟩) (B:Zf d:=by exact fun _ _ _ _ _ _=>by first|exact XW rfl|exact XY fun _=>rfl|exact XZ fun _ _=>rfl|exact X0 fun _ _ _=>rfl|exact X1 fun _ _ _ _=>rfl|exact Ze fun _ _ _ _ _=>rfl) (ha:d.ps.length=a:=by rfl) (hn:N.length=b:=by rfl):
  x_ P w K mg aa lX (k+1) d (spT K (Cp a b aJ)):=by
 subst ha;subst hn;exact⟨yF.aaz D.fn S (fun ts t e=>JZ e) fun fH A outer s H E hr=>⟨aJ,hb S.nd fH A outer s H E hr,fun ts t e=>NH e⟩,D.fn.binds B,D⟩
theorem aaD(D:d.Ok K mg)(B:Zf d:=by exact fun _ _ _ _ _ _=>by first|exact XW rfl|exact XY fun _=>rfl|exact XZ fun _ _=>rfl|exact X0 fun _ _ _=>rfl|exact X1 fun _ _ _ _=>rfl|exact Ze fun _ _ _ _ _=>rfl):x_ P w K mg aa lX k d (spT K fun _=>.bad):=
 ⟨⟨fun vs H Q E ⟨_,ts,_,_,t,e,_⟩=>(nomatch e),fun A outer s H args us vs Q E _ _ _ _ ⟨_,ts,_,_,t,e,_⟩=>(nomatch e)⟩,D.fn.binds B,D⟩
theorem x_.toZ (C:x_ P w K mg aa lX i d (spT K h)):x_ P w K mg aa (uF P w) i d (ve K fun ts A=>gs (h ts) A):=⟨C.ok.toZ,C.bd,C.df⟩
theorem x_.da {CX:BO}{sp:Sp}(C:x_ P w K mg aa CX i d sp)(hc:d.c=none)(hx:d.x=x)(hq:d.q=x):zc K mg x d.st d.ps (d.adr K) (d.fd K):=
 ⟨by have f:=C.df.fn;rw[hx,hq]at f;exact f,C.bd,by have m:=C.df.m0 hc;rw[hx]at m;exact m⟩
theorem x_.ma {CX:BO}{sp:Sp}{c m:Str}(C:x_ P w K mg aa CX i d sp)(hc:d.c=some c)(hx:d.x=m):MethAt K c m d.st d.ps (d.adr K) (d.fd K):=
 ⟨⟨d.q,by have f:=C.df.fn;rw[hx]at f;exact f⟩,C.bd,by have m:=(C.df.m1 c hc).1;rw[hx]at m;exact m,(C.df.m1 c hc).2⟩
structure Ig(K:Frag)(mg:Str->Option Value)(c:Str):Prop where
 m:makesIn K (clsAt K c)=true
 k:keepIn K (.ref (clsAt K c))=true
 g:mg c=some (.ref (clsAt K c))
theorem x_.mk' {CX:BO}{sp:Sp}{c:Str}(C:x_ P w K mg aa CX i d sp)(M:Ig K mg c)(hc:d.c=some c)(hx:d.x="__init__"):xT K mg c d.ps (d.adr K) (d.fd K):=
 ⟨by have m:=(C.df.m1 c hc).1;rw[hx]at m;exact⟨M.m,m.at_,m.fn,M.k⟩,C.bd,M.g⟩
end
section
variable {d:Df}{k:Nat}{kp:Pos}{c m:Str}
section
variable {O:bO->Rs Tr}(C:x_ X.prog X.w X.K X.mg X.base lX i d (spT X.K h))
include C
theorem eE(hr:cV k X.A)(ha:QA X (e::az) L)(hn:i<=k:=by first|decide|omega) (hc:d.c=none:=by rfl) (hx:d.x=x:=by rfl) (hq:d.q=x:=by rfl) (hg:Gl X x:=by rfl) (fq:Db x:=by decide) (cz:bq (e::az)=true:=by rfl):QE X (.Call (.Name x p) (e::az) [] pos) (fun Y=>dv h (L Y)):=
 XD (C.da hc hx hq) (C.ok.mono hn) hr ha hg fq cz
theorem jA(hr:cV k X.A)(ho:QE X o F)(ha:QA X (e::az) L)(hn:i<=k:=by first|decide|omega) (hc:d.c=some c:=by rfl) (hx:d.x=m:=by rfl) {pl:Sem Bool} (cz:bq (e::az)=true:=by rfl) (ht:eval (.Call (.Attribute o m b8) (e::az) [] pos) X.env=sP pos b8 o m (e::az) X.env pl:=by rfl):QE X (.Call (.Attribute o m b8) (e::az) [] pos) (fun Y=>vd c m h (F Y) (L Y)):=
 S3 (C.ma hc hx) (C.ok.mono hn) hr ho ha cz ht
theorem qC(hr:cV k X.A)(ho:QE X o F)(hn:i<=k:=by first|decide|omega) (hc:d.c=some c:=by rfl) (hx:d.x=m:=by rfl) {pl:Sem Bool} (ht:eval (.Call (.Attribute o m b8) [] [] pos) X.env=sP pos b8 o m [] X.env pl:=by rfl):QE X (.Call (.Attribute o m b8) [] [] pos) (fun Y=>vd c m h (F Y) (.ok [])):=
 Oa (C.ma hc hx) (C.ok.mono hn) hr ho ht
theorem Lc(Bn:zI X.K (d.adr X.K))(hr:cV (k+1) X.A)(hm:X.mg "min"=none)(hl:QE X tg F)(ho:QE X o O)(hn:i<=k:=by first|decide|omega) (hc:d.c=some c:=by rfl) (hx:d.x=m:=by rfl) (ca:X.calm=true:=by rfl) (hg:Gl X "min":=by rfl) (cz:bq [tg]=true:=by rfl) (hb:isCall o=false:=by rfl) (SV:PySem.W.copiedNames.contains m=false:=by decide+kernel):
  QE X (.Call (.Name "min" p) [tg] [⟨some "key",.Attribute o m b8,kp⟩] pos) (fun Y=>Gi c m h (F Y) (O Y)):=
 K6 (C.ma hc hx) Bn (C.ok.mono hn) hr hm hl ho ca hg cz hb SV
end
section
variable {F:bO->Ab->Rz Tr}{L:bO->Ab->Rz (List Tr)}{h:List Tr->Ab->Rz Tr}(C:x_ X.prog X.w X.K X.mg X.base (uF X.prog X.w) i d (ve X.K h))
include C
theorem gC(hr:cV k X.A)(ha:ZL X (e::az) L)(hn:i<=k:=by first|decide|omega) (hc:d.c=none:=by rfl) (hx:d.x=x:=by rfl) (hq:d.q=x:=by rfl) (he:X.ex=[]:=by rfl) (hg:Gl X x:=by rfl) (fq:Db x:=by decide) (cz:bq (e::az)=true:=by rfl):ZE X (.Call (.Name x p) (e::az) [] pos) (fun Y A=>(L Y A).bind h):=
 XN (C.da hc hx hq) (C.ok.mono hn) hr ha he hg fq cz
theorem dN(hr:cV k X.A)(ho:ZE X o F)(ha:ZL X (e::az) L)(hn:i<=k:=by first|decide|omega) (hc:d.c=some c:=by rfl) (hx:d.x=m:=by rfl) {pl:Sem Bool} (he:X.ex=[]:=by rfl) (cz:bq (e::az)=true:=by rfl) (ht:eval (.Call (.Attribute o m b8) (e::az) [] pos) X.env=sP pos b8 o m (e::az) X.env pl:=by rfl):ZE X (.Call (.Attribute o m b8) (e::az) [] pos) (fun Y A=>qX c m h (F Y A) (L Y)):=
 S8 (C.ma hc hx) (C.ok.mono hn) hr ho ha he cz ht
theorem AW(hr:cV k X.A)(ho:ZE X o F)(hn:i<=k:=by first|decide|omega) (hc:d.c=some c:=by rfl) (hx:d.x=m:=by rfl) {pl:Sem Bool} (he:X.ex=[]:=by rfl) (ht:eval (.Call (.Attribute o m b8) [] [] pos) X.env=sP pos b8 o m [] X.env pl:=by rfl):ZE X (.Call (.Attribute o m b8) [] [] pos) (fun Y A=>qX c m h (F Y A) fun A=>.ok [] A):=
 Oc (C.ma hc hx) (C.ok.mono hn) hr ho he ht
theorem Te(M:Ig X.K X.mg c)(hr:cV (k+1) X.A)(ha:ZL X (e::az) L)(hn:i<=k:=by first|decide|omega) (hc:d.c=some c:=by rfl) (hx:d.x="__init__":=by rfl) (he:X.ex=[]:=by rfl) (hg:Gl X c:=by rfl) (fq:Db c:=by decide) (cz:bq (e::az)=true:=by rfl):ZE X (.Call (.Name c p) (e::az) [] pos) (fun Y A=>xR c h (L Y A)):=
 S_ (C.mk' M hc hx) (C.ok.mono hn) hr ha he hg fq cz
theorem Oh(M:Ig X.K X.mg c)(hr:cV (k+1) X.A)(hn:i<=k:=by first|decide|omega) (hc:d.c=some c:=by rfl) (hx:d.x="__init__":=by rfl) (he:X.ex=[]:=by rfl) (hg:Gl X c:=by rfl) (fq:Db c:=by decide):ZE X (.Call (.Name c p) [] [] pos) (fun _ A=>xR c h (.ok [] A)):=
 Od (C.mk' M hc hx) (C.ok.mono hn) hr he hg fq
end
end
theorem Tf(nn:Nat){c n:Str}{i:Nat}{G2:bO->Ab->Rz Out}(Tc:qA X.K X.mg c ps)(hb:∀pn E',ZB (X.kH pn E') ah aJ)(hs:∀pn e,ZB (X.pG pn e) (ai::aj) G2)(hN:X.N.Nodup)(hi:X.N[i]?=some n:=by rfl) (hl:X.env.scope.names.lookup n=some .local:=by rfl)
  (cz:X.stack=X.env::X.outer:=by rfl) (hf:X.env.frame=some X.env.locals:=by rfl) (hx:X.ex=[]:=by rfl) (Mz:yE X n:=by exact .inl rfl) (hg:Gl X c:=by rfl) (hnn:X.N.length=nn:=by rfl) (fq:Db c:=by decide):
  ZS X (.Try ah [.ExceptHandler (some (.Name c p)) (some n) (ai::aj) b8] [] [] pos) (fun Y A=>EB nn i ps (aJ Y A) G2):=by
 subst hnn;exact Oe Tc hb hs hN hi hl cz hf hx Mz hg fq
def Ld(r:Rs Tr):Rs (List Tr):=match r with
 |.ok (.lst ts)=>if mB ts=true then .ok ts else .bad
 |_=>.bad
def Gq:Tr->Tr->Rs Tr
 |.lst a,.lst b=>if a.length+b.length<=e_ then .ok (.lst (a++b))else .bad
 |_,_=>.bad
section
variable {b:Expr}{T:n6}
inductive tIn(X:Cx)(W:bO->Ab->Rs (List Tr))(Z:St)(H:Hp)(R:It->Hp->Prop):Prop
 |mk (B:eW) (A:Ab) (Y:bO):HA X.K B A H->cB X.K B H Z Y->fy Y->(Fi X H (W Y A) fun ts=>∀J H',ba H H'->lu X.K B J H' ts->R J H')->tIn X W Z H R
theorem X2(h:PE X e (tF X F)):PI X tg e (tIn X fun Y A=>Ld (F (dc A Y))):=by
 intro U s Z H R I ⟨B,A,Y,ha,r,n,q⟩;refine d7 (h U s Z H (fun x H1=>∃p vs ts,x=.ref p/\ba H H1/\(bV B H1).H p=some (.lst vs)/\bI X.K (bV B H1) vs ts/\∀J H',ba H H'->lu X.K B J H' ts->R J H') I ⟨B.un,dc A Y,Ck ha.hb,r.NF ha n,?_⟩) fun v s1 ⟨x,H1,I1,r1,p,vs,ts,ex,sm,hp,rr,k⟩=>?_
 ·have q:Fi X H (Ld (F (dc A Y))) _:=q;cases e:F (dc A Y)with
  |bad=>rw[e]at q;exact q
  |exc c=>rw[e]at q;exact fe q
  |ok t=>
   rw[e]at q;intro v H' s rv fr;have jH:=ha.same s;have q:=q;unfold Ld at q;split at q
   ·rename_i e;cases e;obtain⟨p,vs,rfl,h,rr⟩:=rv.lst_inv;obtain⟨f,q'⟩:=gq q;have h1:H' p=some (.lst vs):=bD _ _ h;exact⟨p,vs,_,rfl,s,by rw[fL (ha.hb.free (fr p rfl).1)];exact h1,pB (lx.un jH) rr f,q'⟩
   ·exact q.elim
 ·subst ex;cases r1;obtain⟨cc,rv,pl,hz⟩:=I1.list (ll.of (bD _ _ hp));refine kn pl.isList ?_
  refine⟨s1.heap.objs.size,[s1.heap.objs.size],_,_,H1,rfl,I1.kept (t':=s1.toks) fun b o e=>bL _ e,y4 p _,⟨_,cf _ rfl,rfl,rfl⟩,fun b hb=>?_,k _ H1 sm (xq hp rr)⟩;have e:b=s1.heap.objs.size:=by simpa using hb
  subst e;exact I1.wR (bu _) (I1.cP.fresh (bu _))
theorem Tg(ha:PE X am (tP X F))(hb:PE X b (tP X G)):PE X (.BinOp am .Add b pos) (tF X fun Y=>Hd Gq (F Y) (G Y)):=
 (O8 (Jq (X:=X)) ha hb).weak fun Z H Q ⟨B,Y,hb,r,q⟩=>⟨B,Y,hb,r,q.bind.mono fun x qx v H1 s1 r1=>⟨B,Y,hb.same s1,r.same s1,(qx.bind.same s1).mono fun y qy u H2 s2 r2=>by
  have sm:=s1.trans s2;unfold Gq at qy;split at qy
  ·have f:=gq qy;obtain⟨_,_,e1,h1,FL⟩:=(r1.same (bE s2)).lst_inv;obtain⟨_,_,e2,h2,IJ⟩:=r2.lst_inv;exact⟨_,_,_,_,e1,e2,bD _ _ h1,bD _ _ h2,by rw[FL.length,IJ.length,<-iE];exact f.1,fun p hp=>f.2 (.ref p) _ (sm.Al (sm.free hp)) (.yP ((hb.same s1).same s2) hp (FL.append IJ)) fun p' e=>by cases e;exact .upd (sm.free hp) (fun _ _ z=>by cases z)⟩
  ·exact qy.elim⟩⟩
theorem Th(ha:QE X am F)(hb:QE X b G):NE X (.BinOp am .Add b pos) (fun Y=>Hd Gq (F Y) (G Y)):=⟨Tg ha.h hb.h⟩
theorem Ti(h:NE X e F)(hg:QG X tg T)(hT:jx T)(hb:ZB X ah aJ)(hp:PassesOwn (model X.prog X.w) X.A X.env X.xe:=by first|exact oU|exact wK) (hc:X.calm=true:=by rfl)
  (hs:isSet e=false:=by rfl):ZS X (.For tg e ah [] pos) (fun Y A=>F2 T aJ (gs (Ld (F (dc A Y))) A) Y):=
 ⟨(DP hp hc (X2 h.h) hg.h hb.h (f' hs)).weak fun D Z H ⟨B0,H0,B,A,Y,BA,g,ha,r,n,q⟩=>⟨B,A,Y,ha,r,n,(mD (gA.bind q)).mono fun ts qt J H1 s1 gt=>by
   have g1:Grows B0 H0 B H1:=g.trans BA (.of s1);have Ax:HB B H1:=ha.hb.same s1;refine⟨fun i m di H'=>m=ts.length - i/\i<=ts.length/\∃B' A' g9,Grows B H1 B' H'/\HA X.K B' A' H'/\cB X.K B' H' di g9/\fy g9/\gA (XE X B0 H0) (rN T aJ (ts.drop i) g9 A') (u6 X D B0 H0),⟨_,rfl,dU _,B,A,Y,.refl,ha.same s1,r.same s1,n,qt⟩,?_⟩
   rintro i m di H' ⟨rfl,hi,B',A',g9,g',jH,r',n',q'⟩
   by_cases f_:i<ts.length
   ·rw[oh f_]at q';refine .inr ⟨gt.go i B' H' f_ g'.jw jH.hb,fun vK H2=>∃B2 A2 g_,Grows B H1 B2 H2/\HA X.K B2 A2 H2/\cB X.K B2 H2 vK g_/\fy g_/\gA (XE X B0 H0) (rN T aJ (ts.drop (i+1)) g_ A2) (u6 X D B0 H0),
     fun vK H2 x=>⟨ts.length - (i+1),by omega,rfl,f_,x⟩,fun x H2 hx=>?_⟩
    obtain⟨s2,t,et,rt⟩:=gt.Fj i B' H' x H2 f_ g'.jw jH.hb hx;have RC:ts[i]=t:=by rw[bQ f_]at et;exact Option.some.inj et
    rw[RC]at q';have g2:Grows B H1 B' H2:=g'.trans Ax (.of s2);refine JW hT Ax g2 (jH.same s2) (r'.same s2) n' rt (gA.bind q') fun qS MF H3 q1 g3 F3 r3 n3 _=>?_
    refine⟨B,H1,B',A',qS,Ax,g3,F3,r3,n3,((gA.bind q1).imp fun c A'' x=>x.grow BA g1).mono fun o A4 qo=>?_⟩;cases o with
    |nx g_=>exact fun JX B4 H4 g4 Ek r4 n4=>⟨B4,A4,g_,g4,Ek,r4,n4,qo⟩
    |ct g_=>exact fun JX B4 H4 g4 Ek r4 n4=>⟨B4,A4,g_,g4,Ek,r4,n4,qo⟩
    |bk g_=>exact fun JX B4 H4 g4 Ek r4 n4=>qo JX B4 H4 (g1.trans BA g4) Ek r4 n4
    |ret t=>exact fun v B4 H4 g4 Ek r4=>qo v B4 H4 (g1.trans BA g4) Ek r4
   ·have e:i=ts.length:=by omega
    subst e;rw[oK]at q';exact .inl ⟨gt.stop B' H' g'.jw,q' di B' H' (g1.trans BA g') jH r' n'⟩⟩⟩
end
section
variable {A A':Ab}{n:Nat}{Y:bO}{t:Tr}
theorem Le:aU n A (.tup ts)=.tup ts:=by cases n<;>rfl
theorem rS{z:Str}:aU n A (.str z)=.str z:=by cases n<;>rfl
theorem Lf{z:Int}:aU n A (.int z)=.int z:=by cases n<;>rfl
theorem Lg{z:Bool}:aU n A (.bl z)=.bl z:=by cases n<;>rfl
theorem Tj:aU n A .cu=.cu:=by cases n<;>rfl
theorem Tn{ns:List Int}:aU n A (.uZ ns)=.uZ ns:=by cases n<;>rfl
theorem gw(h:A[i]?=some (.ins x bt)):aU (n+1) A (.at i)=.ob x (bt.map fun p=>(p.1,aU n A p.2)):=by simp only[aU,h]
theorem kI(h:A[i]?=some (.lst ts)):aU (n+1) A (.at i)=.lst (ts.map (aU n A)):=by simp only[aU,h]
theorem fQ(h:A[i]?=some (.bT aF)):aU (n+1) A (.at i)=.bT (aF.map fun p=>(p.1,aU n A p.2)):=by simp only[aU,h]
def jK(ts:List Tr):Prop:=∀t∈ts,∃us,t=.tup us
theorem vS(h:jK ts):ts.map (aU n A)=ts:=by
 conv=>rhs;rw[<-kB ts]
 exact gH fun t ht=>by obtain⟨us,rfl⟩:=h t ht;exact Le
def gu(bt:List (Key×Tr)):Prop:=∀p∈bt,∀n A,aU n A p.2=p.2
theorem ij{bt:List (Key×Tr)}(h:gu bt):(bt.map fun p=>(p.1,aU n A p.2))=bt:=by
 conv=>rhs;rw[<-kB bt]
 exact gH fun p hp=>by rw[h p hp];rfl
structure Ext(A A':Ab)(pins:List (Nat×Ao)):Prop where
 le:A.length<=A'.length
 at':∀k o,A[k]?=some o->A'[k]?=some ((pins.lookup k).getD o)
theorem Ext.refl:Ext A A []:=⟨bu _,fun k o e=>e⟩
theorem Ext.trans {A2:Ab}{pins V:List (Nat×Ao)}(a:Ext A A' pins)(b:Ext A' A2 V):Ext A A2 (V++pins):=⟨cw a.le b.le,fun k o e=>by
 rw[b.at' k _ (a.at' k o e),List.lookup_append];cases V.lookup k<;>rfl⟩
theorem Ext.put {o o':Ao}(h:A[i]?=some o'):Ext A (A.set i o) [(i,o)]:=⟨by rw[ky];exact bu _,fun k x e=>by
 by_cases hk:k=i
 ·subst hk;rw[om (fT.mp e).1];simp only[List.lookup,bX,Option.getD]
 ·rw[lY (Ne.symm hk),e];have:(k==i)=false:=by simpa using hk
  simp only[List.lookup,this,Option.getD]⟩
theorem Ext.push {o:Ao}:Ext A (A++[o]) []:=⟨by simp,fun k x e=>by rw[og (fT.mp e).1,e];rfl⟩
theorem ly{o:Ao}:(A++[o])[A.length]?=some o:=by simp
end
section
variable {β:Type}{A:Ab}{Y:bO}{x y t u:Tr}{a:ag}
theorem cY:(∀(a:ag) (f:ag->Rs β),(Rs.ok a).bind f=f a)/\(∀(a:ag) (A:Ab) (f:ag->Ab->Rz β),(Rz.ok a A).bind f=f a A)/\(∀(aB:Tr) (A:Ab) (f:ag->Ab->Rz β),(Rz.exc aB A:Rz ag).bind f=.exc aB A):=⟨fun _ _=>rfl,fun _ _ _=>rfl,fun _ _ _=>rfl⟩
theorem hJ(a:ag)(A:Ab):gs (.ok a) A=.ok a A:=rfl
theorem ev:(∀Y A G,Ej (.ok (.nx Y) A) G=G Y A)/\(∀t A G,Ej (.ok (.ret t) A) G=.ok (.ret t) A)/\(∀aB A G,Ej (.exc aB A) G=.exc aB A)
  /\(∀i t A Y,Aw i (.ok t A) Y=.ok (.nx (Y.set i (.sh t))) A)/\(∀i aB A Y,Aw i (.exc aB A) Y=.exc aB A)
  /\(∀t A Y,qV (.ok t A) Y=.ok (.nx Y) A)/\(∀aB A Y,qV (.exc aB A) Y=.exc aB A)/\(∀t A,JU (.ok t A)=.ok (.ret t) A)/\(∀aB A,JU (.exc aB A)=.exc aB A)
  /\(∀Y A,cM (.ok (.nx Y) A)=.ok .cu A)/\(∀t A,cM (.ok (.ret t) A)=.ok t A)/\(∀aB A,cM (.exc aB A)=.exc aB A)
  /\(∀x A l,F4 (.ok x A) l=(l A).bind fun xs A=>.ok (x::xs) A)/\(∀x l,xp (.ok x) l=l.bind fun xs=>.ok (x::xs))
  /\(∀h x y,Hd h (.ok x) (.ok y)=h x y)/\(∀h l,dv h (.ok l)=h l)/\(∀b,YV (.ok (.bl b))=.ok b)
  /\(∀A a b,YZ (.ok true A) a b=a A)/\(∀A a b,YZ (.ok false A) a b=b A)/\(∀a b,Uq (.ok true) a b=a)/\(∀a b,Uq (.ok false) a b=b)
  /\(∀aB Y n,xm (aB::Y) (n+1)=xm Y n)/\(∀t Y,xm (.sh t::Y) 0=.ok t)/\(∀A t Y,dc A (.sh t::Y)=.sh (aU 5 A t)::dc A Y)/\(∀A Y,dc A (.no::Y)=.no::dc A Y)/\(∀A,dc A []=[])
  /\(Aq (.ok [])=.ok (.tup []))/\(∀a,Aq (.ok [a])=.ok (.tup [a]))/\(∀a b,Aq (.ok [a,b])=.ok (.tup [a,b]))/\(∀a b aB,Aq (.ok [a,b,aB])=.ok (.tup [a,b,aB]))/\(∀a b aB d,Aq (.ok [a,b,aB,d])=.ok (.tup [a,b,aB,d]))/\(∀a b aB d e,Aq (.ok [a,b,aB,d,e])=.ok (.tup [a,b,aB,d,e]))
  /\(∀ts,zG [.lst ts]=.ok (.int ts.length))/\(∀ts,zG [.tup ts]=.ok (.int ts.length))/\(∀ts,zG [.bT ts]=.ok (.int ts.length))
  /\(∀i j,yQ (.int i) (.int j)=.ok (.int (i+j)))/\(∀x t A,Ez x (.ok [t] A)=.exc (.str x) A)/\(∀i,RM (.int i)=.ok (.int (-i)))
  /\(∀i A,rW (.ok (.int i)) A=.ok (.int i) A)/\(∀z A,rW (.ok (.str z)) A=.ok (.str z) A)/\(∀b A,rW (.ok (.bl b)) A=.ok (.bl b) A)/\(∀A,rW (.ok .cu) A=.ok .cu A)/\(∀i A,rW (.ok (.at i)) A=.ok (.at i) A)
  /\(∀b,Hf (.ok true) b=b)/\(∀b,Hf (.ok false) b=.ok false)/\(∀b,VI (.ok true) b=.ok true)/\(∀b,VI (.ok false) b=b)/\(∀b,He (.ok b)=.ok (!b))/\(∀a b,JF (.ok true) a b=a)/\(∀a b,JF (.ok false) a b=b)
  /\(∀z bt,Ho (.str z) (.bT bt)=.ok (.bl (eN bt (.inr z)).isSome))/\(∀z bt,Nr (.str z) (.bT bt)=.ok (.bl (!(eN bt (.inr z)).isSome)))/\(∀z,NR (.str z)=.ok (.str z))/\(∀z y,eqC (.str z) (.str y)=.ok (.bl (z==y)))/\(∀i j,eqC (.int i) (.int j)=.ok (.bl (i==j)))/\(∀i j,gtC (.int i) (.int j)=.ok (.bl (decide (j<i))))
  /\(∀Y,dE (.ok (.nx Y))=.ok .cu)/\(∀t,dE (.ok (.ret t))=.ok t)/\(∀t,JI (.ok t)=.ok (.ret t))/\(∀Y G,B9 (.ok (.nx Y)) G=G Y)/\(∀t G,B9 (.ok (.ret t)) G=.ok (.ret t))/\(∀i t Y,JH i (.ok t) Y=.ok (.nx (Y.set i (.sh t)))):=by
 refine⟨?_,?_,?_,?_,?_,?_,?_,?_,?_,?_,?_,?_,?_,?_,?_,?_,?_,?_,?_,?_,?_,?_,?_,?_,?_,?_,?_,?_,?_,?_,?_,?_,?_,?_,?_,?_,?_,?_,?_,?_,?_,?_,?_,?_,?_,?_,?_,?_,?_,?_,?_,?_,?_,?_,?_,?_,?_,?_,?_,?_,?_,?_⟩<;>intros<;>rfl
theorem iz:(∀n A ts,aU n A (.tup ts)=.tup ts)/\(∀n A z,aU n A (.str z)=.str z)/\(∀n A i,aU n A (.int i)=.int i)/\(∀n A b,aU n A (.bl b)=.bl b)/\(∀n A,aU n A .cu=.cu)/\(∀n A ns,aU n A (.uZ ns)=.uZ ns):=⟨fun _ _ _=>Le,fun _ _ _=>rS,fun _ _ _=>Lf,fun _ _ _=>Lg,fun _ _=>Tj,fun _ _ _=>Tn⟩
variable {z:Str}{bt:List (Key×Tr)}
theorem EN{F:Nat->List Tr->Ab->Rz Tr}{l:Ab->Rz (List Tr)}(h:A[i]?=some (.lst ts)):mtL F (.ok (.at i) A) l=(l A).bind fun us A=>F i us A:=by
 show(if Wl A i=true then(l A).bind fun us A=>F i us A else .bad)=_;exact aS (by unfold Wl;rw[h])
theorem EO(h:A[i]?=some (.lst ts))(hl:ts.length<e_):R4 i [t] A=.ok .cu (A.set i (.lst (ts++[t]))):=by
 show(match A[i]? with|some (.lst ts)=>if ts.length<e_ then Rz.ok Tr.cu (A.set i (.lst (ts++[t])))else .bad|_=>.bad)=_;rw[h];exact aS hl
def putD(A:Ab)(t tk tv:Tr)(Y:bO):Rz Out:=match CM A t tk tv with
 |some A'=>.ok (.nx Y) A'
 |none=>.bad
theorem rV{o k:Ab->Rz Tr}:Sw (.ok t A) o k Y=(o A).bind fun u A=>(k A).bind fun tk A=>putD A u tk t Y:=rfl
theorem pO(h:A[i]?=some (.bT bt))(hl:bt.length<e_):putD A (.at i) (.str z) t Y=.ok (.nx Y) (A.set i (.bT (lJ bt (.inr z) t))):=by
 have:CM A (.at i) (.str z) t=some (A.set i (.bT (lJ bt (.inr z) t))):=by
  show(match A[i]? with|some (.bT bt)=>if bt.length<e_ then some (A.set i (.bT (lJ bt (.inr z) t)))else none|_=>none)=_;rw[h];exact aS hl
 unfold putD;rw[this]
def Gr(i:Nat)(tk:Tr)(A:Ab):Rz Tr:=match jW tk with
 |some key=>if mF A i=true then match eN (n8 A i) key with
  |some v=>.ok v (A.set i (.bT (h_ (n8 A i) key)))
  |none=>.bad
  else .bad
 |none=>.bad
theorem Gs{k:Ab->Rz Tr}(h:A[i]?=some (.bT bt)):Kq (.ok (.at i) A) k=(k A).bind fun tk A=>Gr i tk A:=by
 have e:mF A i=true:=by unfold mF;rw[h]
 show(if mF A i=true then(k A).bind fun tk A=>Gr i tk A else .bad)=_;exact aS e
theorem Gu{v:Tr}(h:A[i]?=some (.bT bt))(hv:eN bt (.inr z)=some v):Gr i (.str z) A=.ok v (A.set i (.bT (h_ bt (.inr z)))):=by
 have e:mF A i=true:=by unfold mF;rw[h]
 have g:n8 A i=bt:=by unfold n8;rw[h]
 unfold Gr;simp only[e,cK,jW,g,hv]
def Gv(x:Ab->Rz Tr)(i:Nat)(tk:Tr)(A:Ab):Rz Tr:=match jW tk with
 |some key=>(x A).bind fun tx A=>if mF A i=true then match eN (n8 A i) key with
  |some v=>.ok v (A.set i (.bT (h_ (n8 A i) key)))
  |none=>.ok tx A
  else .bad
 |none=>.bad
theorem Oi{k x:Ab->Rz Tr}(h:A[i]?=some (.bT bt)):Ks (.ok (.at i) A) k x=(k A).bind fun tk A=>Gv x i tk A:=by
 have e:mF A i=true:=by unfold mF;rw[h]
 show(if mF A i=true then(k A).bind fun tk A=>Gv x i tk A else .bad)=_;exact aS e
theorem Ih(hv:eN bt (.inr z)=none):h_ bt (.inr z)=bt:=oA.mpr fun p hp=>by
 unfold eN at hv;rw[Option.map_eq_none_iff,List.find?_eq_none]at hv;simpa using hv p hp
theorem To{o:Ao}(h:A[i]?=some o):A.set i o=A:=by
 apply oE;intro k;by_cases hk:i=k
 ·subst hk;rw[om (fT.mp h).1,h]
 ·rw[lY hk]
theorem Oj{x:Ab->Rz Tr}(hx:x A=.ok .cu A)(h:A[i]?=some (.bT bt)):Gv x i (.str z) A=.ok ((eN bt (.inr z)).getD .cu) (A.set i (.bT (h_ bt (.inr z)))):=by
 have e:mF A i=true:=by unfold mF;rw[h]
 have g:n8 A i=bt:=by unfold n8;rw[h]
 unfold Gv;simp only[jW,hx,Rz.bind,e,cK,g];cases hv:eN bt (.inr z)with
 |some v=>rfl
 |none=>rw[Ih hv,To h];rfl
theorem ER{y:Str}(h:z.length<=1000)(hy:y.length<=1000):(fun acc=>nQ (.ok (.str z)) (fun acc=>nQ (.ok (.str y)) (fun acc=>CC acc) acc) acc) Str.empty=.ok (.str (Str.empty++z++y)):=by
 have l1:(Str.empty++z).length<=cS:=by rw[oj];show 0+z.length<=1000000;omega
 have l2:(Str.empty++z++y).length<=cS:=by rw[oj,oj];show 0+z.length+y.length<=1000000;omega
 show(if(Str.empty++z).length<=cS then nQ (.ok (.str y)) (fun acc=>CC acc) (Str.empty++z)else .bad)=_;rw[aS l1];show(if(Str.empty++z++y).length<=cS then CC (Str.empty++z++y)else .bad)=_;rw[aS l2];exact aS l2
end
def roomF(i:Nat):List (Str×Tr):=[("log",.at (i+1)),("ranks",.at (i+2)),("entries",.at (i+3)),("chosen",.at (i+4)),("banned",.at (i+5)),("invited",.at (i+6)),("read_marks",.at (i+7)),("said_by_key",.at (i+8))]
structure bx(A:Ab)(i:Nat)(rows:List Tr)(rk en ch bn iv:List (Key×Tr)):Prop where
 o:A[i]?=some (.ins "Room" (roomF i))
 lg:A[i+1]?=some (.lst rows)
 rk:A[i+2]?=some (.bT rk)
 en:A[i+3]?=some (.bT en)
 ch:A[i+4]?=some (.bT ch)
 bn:A[i+5]?=some (.bT bn)
 iv:A[i+6]?=some (.bT iv)
structure dY(rows:List Tr)(rk en ch bn iv:List (Key×Tr)):Prop where
 lg:jK rows
 rk:gu rk
 en:gu en
 ch:gu ch
 bn:gu bn
 iv:gu iv
section
variable {A:Ab}{rows:List Tr}{en ch bn iv:List (Key×Tr)}
theorem bx.aaE (h:bx A i rows aF en ch bn iv)(f:dY rows aF en ch bn iv):jJ ["Room"] "log" (aU 5 A (.at i))=.ok (.lst rows):=by
 rw[gw h.o];show Rs.ok (aU 4 A (.at (i+1)))=_;rw[kI h.lg,vS f.lg]
theorem bx.t7 (h:bx A i rows aF en ch bn iv)(f:dY rows aF en ch bn iv):jJ ["Room"] "ranks" (aU 5 A (.at i))=.ok (.bT aF):=by
 rw[gw h.o];show Rs.ok (aU 4 A (.at (i+2)))=_;rw[fQ h.rk,ij f.rk]
theorem bx.aaF (h:bx A i rows aF en ch bn iv)(f:dY rows aF en ch bn iv):jJ ["Room"] "entries" (aU 5 A (.at i))=.ok (.bT en):=by
 rw[gw h.o];show Rs.ok (aU 4 A (.at (i+3)))=_;rw[fQ h.en,ij f.en]
theorem bx.X3 (h:bx A i rows aF en ch bn iv)(f:dY rows aF en ch bn iv):jJ ["Room"] "chosen" (aU 5 A (.at i))=.ok (.bT ch):=by
 rw[gw h.o];show Rs.ok (aU 4 A (.at (i+4)))=_;rw[fQ h.ch,ij f.ch]
theorem bx.Tp (h:bx A i rows aF en ch bn iv)(f:dY rows aF en ch bn iv):jJ ["Room"] "banned" (aU 5 A (.at i))=.ok (.bT bn):=by
 rw[gw h.o];show Rs.ok (aU 4 A (.at (i+5)))=_;rw[fQ h.bn,ij f.bn]
theorem bx.X4 (h:bx A i rows aF en ch bn iv)(f:dY rows aF en ch bn iv):jJ ["Room"] "invited" (aU 5 A (.at i))=.ok (.bT iv):=by
 rw[gw h.o];show Rs.ok (aU 4 A (.at (i+6)))=_;rw[fQ h.iv,ij f.iv]
theorem bx.aaG (h:bx A i rows aF en ch bn iv):vB ["Room"] "log" (.ok (.at i) A)=.ok (.at (i+1)) A:=by unfold vB Rz.bind;simp only[h.o];rfl
theorem bx.Tq (h:bx A i rows aF en ch bn iv):vB ["Room"] "ranks" (.ok (.at i) A)=.ok (.at (i+2)) A:=by unfold vB Rz.bind;simp only[h.o];rfl
theorem bx.aaH (h:bx A i rows aF en ch bn iv):vB ["Room"] "entries" (.ok (.at i) A)=.ok (.at (i+3)) A:=by unfold vB Rz.bind;simp only[h.o];rfl
theorem bx.aaI (h:bx A i rows aF en ch bn iv):vB ["Room"] "invited" (.ok (.at i) A)=.ok (.at (i+6)) A:=by unfold vB Rz.bind;simp only[h.o];rfl
theorem bx.call (h:bx A i rows aF en ch bn iv){m:Str}(hm:DI (roomF i) m=true)(F:List Tr->Ab->Rz Tr)(l:Ab->Rz (List Tr)):qX "Room" m F (.ok (.at i) A) l=(l A).bind fun ts A=>F (.at i::ts) A:=by
 show(match A[i]? with|some (.ins x fs)=>if x="Room"/\DI fs m=true then(l A).bind fun ts A=>F (.at i::ts) A else .bad|_=>.bad)=_;rw[h.o];exact aS ⟨rfl,hm⟩
theorem Ext.same {A':Ab}{pins:List (Nat×Ao)}{k:Nat}{o:Ao}(e:Ext A A' pins)(h:A[k]?=some o)(n:pins.lookup k=none):A'[k]?=some o:=by rw[e.at' k o h,n];rfl
theorem Ext.new {A':Ab}{pins:List (Nat×Ao)}{k:Nat}{o o':Ao}(e:Ext A A' pins)(h:A[k]?=some o)(n:pins.lookup k=some o'):A'[k]?=some o':=by rw[e.at' k o h,n];rfl
variable {A':Ab}{cD:List Tr}{d':List (Key×Tr)}
theorem jv{j:Nat}{o:Ao}(h:i≠j):[(j,o)].lookup i=none:=by
 have:(i==j)=false:=by simpa using h
 simp only[List.lookup,this]
theorem Ol{o:Ao}:[(i,o)].lookup i=some o:=by simp only[List.lookup,bX]
theorem bx.e_0 (h:bx A i rows aF en ch bn iv)(e:Ext A A' []):bx A' i rows aF en ch bn iv:=⟨e.same h.o rfl,e.same h.lg rfl,e.same h.rk rfl,e.same h.en rfl,e.same h.ch rfl,e.same h.bn rfl,e.same h.iv rfl⟩
theorem bx.Ts (h:bx A i rows aF en ch bn iv)(e:Ext A A' [(i+1,.lst cD)]):bx A' i cD aF en ch bn iv:=⟨e.same h.o (jv (by omega)),e.new h.lg Ol,e.same h.rk (jv (by omega)),e.same h.en (jv (by omega)),e.same h.ch (jv (by omega)),e.same h.bn (jv (by omega)),e.same h.iv (jv (by omega))⟩
theorem bx.Tt (h:bx A i rows aF en ch bn iv)(e:Ext A A' [(i+2,.bT d')]):bx A' i rows d' en ch bn iv:=⟨e.same h.o (jv (by omega)),e.same h.lg (jv (by omega)),e.new h.rk Ol,e.same h.en (jv (by omega)),e.same h.ch (jv (by omega)),e.same h.bn (jv (by omega)),e.same h.iv (jv (by omega))⟩
theorem bx.aaJ (h:bx A i rows aF en ch bn iv)(e:Ext A A' [(i+3,.bT d')]):bx A' i rows aF d' ch bn iv:=⟨e.same h.o (jv (by omega)),e.same h.lg (jv (by omega)),e.same h.rk (jv (by omega)),e.new h.en Ol,e.same h.ch (jv (by omega)),e.same h.bn (jv (by omega)),e.same h.iv (jv (by omega))⟩
theorem bx.aaK (h:bx A i rows aF en ch bn iv)(e:Ext A A' [(i+6,.bT d')]):bx A' i rows aF en ch bn d':=⟨e.same h.o (jv (by omega)),e.same h.lg (jv (by omega)),e.same h.rk (jv (by omega)),e.same h.en (jv (by omega)),e.same h.ch (jv (by omega)),e.same h.bn (jv (by omega)),e.new h.iv Ol⟩
theorem mI(h:jK rows):jK (rows++[.tup ts]):=fun t ht=>by
 rcases dw.mp ht with ht|ht
 ·exact h t ht
 ·exact⟨ts,cX.mp ht⟩
theorem Ii{k:Key}(h:gu aF):gu (h_ aF k):=fun p hp=>h p ((fY.mp hp).1)
end
section
variable {f:ag->Tr}{l:List (Str×ag)}{z:Str}{a:ag}
def dP(f:ag->Tr)(l:List (Str×ag)):List (Key×Tr):=l.map fun p=>(Sum.inr p.1,f p.2)
def fB(l:List (Str×ag))(z:Str)(a:ag):List (Str×ag):=if(l.any fun p=>decide (p.1=z))=true then l.map (fun p=>if p.1=z then(p.1,a)else p)else l++[(z,a)]
def kJ(l:List (Str×ag))(z:Str):List (Str×ag):=l.filter fun p=>decide (p.1≠z)
theorem Gw:((Sum.inr x:Key)=.inr z)↔x=z:=⟨fun h=>by injection h,fun h=>by rw[h]⟩
theorem Gx:(decide ((Sum.inr x:Key)=.inr z))=decide (x=z):=wC.mpr Gw
theorem d9:∀{l:List (Str×ag)},eN (dP f l) (.inr z)=(l.lookup z).map f
 |[]=>rfl
 |(y,b)::l=>by
  have ih:=d9 (l:=l);unfold eN at ih⊢;show Option.map _ (List.find? _ ((Sum.inr y,f b)::dP f l))=_;rw[jR,cE];by_cases h:y=z
  ·subst h;simp
  ·have h2:(z==y)=false:=by simpa using Ne.symm h
   simp only[Gx,h,decide_false,h2];exact ih
theorem nv:lJ (dP f l) (.inr z) (f a)=dP f (fB l z a):=by
 unfold lJ fB;have e:((dP f l).any fun kv=>decide (kv.1=(.inr z:Key)))=l.any fun p=>decide (p.1=z):=by
  unfold dP;rw[List.any_map];congr 1;funext p;exact Gx
 rw[e];split
 ·unfold dP;rw[cF,cF];apply gH;intro p hp;by_cases h:p.1=z
  ·simp[h]
  ·simp[h]
 ·unfold dP;rw[jU];rfl
theorem AX:h_ (dP f l) (.inr z)=dP f (kJ l z):=by
 unfold h_ kJ dP;rw[oP];congr 1;apply sA;intro p hp;show decide ((Sum.inr p.1:Key)≠ .inr z)=decide (p.1≠z);simp[Gw]
theorem lR:(dP f l).length=l.length:=bj _
theorem t8(h:∀a n A,aU n A (f a)=f a):gu (dP f l):=fun p hp n A=>by
 obtain⟨q,_,rfl⟩:=cA.mp hp;exact h q.2 n A
theorem Gy(h:∀p∈l,p.1.length<=cS):Cq (dP f l)=.ok (l.map fun p=>.str p.1):=by
 unfold Cq;rw[aS]
 ·unfold dP;rw[cF];rfl
 ·unfold dP;rw[oX,dm];intro p hp;exact iY (h p hp)
end
section
variable {k:Str->Int×Int}
theorem zQ:∀{ns:List Str},(∀z∈ns,h [aB,.str z]=.ok (.tup [.int (k z).1,.int (k z).2]))->keysOf h aB (ns.map .str)=some (ns.map k)
 |[],_=>rfl
 |z::ns,q=>by
  show((keyOf (h [aB,.str z])).bind fun k=>(keysOf h aB (ns.map .str)).map fun ks=>k::ks)=_;rw[q z (cp ..),zQ fun y hy=>q y (b_ _ hy)]
  rfl
theorem uN{kf:Nat->Int×Int}:∀j,c_ kf j<=j
 |0=>bu _
 |j+1=>by
  unfold c_;split
  ·exact bu _
  ·exact Nat.le_succ_of_le (uN j)
theorem t9{kf:Nat->Int×Int}:∀j,(∀a b,a<b->b<=j->(kf a).2<(kf b).2)->(∀a,a<=j->(kf (c_ kf j)).1<=(kf a).1)/\(∀a,a<c_ kf j->(kf (c_ kf j)).1<(kf a).1)
 |0,_=>⟨fun a ha=>by cases Nat.le_zero.mp ha;exact Int.le_refl _,fun a ha=>absurd ha (wF _)⟩
 |j+1,hk=>by
  obtain⟨h1,h2⟩:=t9 (kf:=kf) j fun a b Ed hb=>hk a b Ed (Nat.le_succ_of_le hb);have hb:=uN (kf:=kf) j;have f_:=hk (c_ kf j) (j+1) (Nat.lt_succ_of_le hb) (bu _);have e:jy (kf (j+1)) (kf (c_ kf j))=decide ((kf (j+1)).1<(kf (c_ kf j)).1):=by
   unfold jy;by_cases q:(kf (j+1)).1<(kf (c_ kf j)).1
   ·simp[q]
   ·simp[q];intros;omega
  unfold c_;rw[e];by_cases q:(kf (j+1)).1<(kf (c_ kf j)).1
  ·rw[aS (iY q)];refine⟨fun a ha=>?_,fun a ha=>Int.lt_of_lt_of_le q (h1 a (wA ha))⟩;rcases Nat.lt_or_eq_of_le ha with ha|rfl
   ·exact Int.le_of_lt (Int.lt_of_lt_of_le q (h1 a (wA ha)))
   ·exact Int.le_refl _
  ·rw[aW (by simpa using q)];refine⟨fun a ha=>?_,h2⟩;rcases Nat.lt_or_eq_of_le ha with ha|rfl
   ·exact h1 a (wA ha)
   ·exact Int.not_lt.mp q
end
section
variable {α:Type}{f:α->Tr}{l:List (Str×α)}{z:Str}{A:Ab}{n:Nat}
theorem dR:jI (.bT (dP f l)) (.str z)=kS ((l.lookup z).map f):=by
 show(kS (jW (.str z))).bind (fun k=>kS (eN (dP f l) k))=_;show kS (eN (dP f l) (.inr z))=_;rw[d9]
theorem qD:∀{ns:List Str},mB (ns.map .str)=true
 |[]=>rfl
 |z::ns=>by rw[bH,mB,IK,oW];exact qD
theorem qE{ns:List Str}:(ns.map Tr.str).map (aU n A)=ns.map .str:=by
 rw[cF];exact gH fun z _=>rS
theorem C9{C:bO->Rs Bool}{Y:bO}{P:Str->Bool}(hF:∀z,F (.sh (.str z)::Y)=.ok (.str z)):∀{ns:List Str} {c:Cell},(∀z∈ns,C (.sh (.str z)::Y)=.ok (P z))->D_ (gN 0) C F (ns.map .str) (c::Y)=.ok ((ns.filter P).map .str)
 |[],_,_=>rfl
 |z::ns,c,hC=>by
  have ih:=C9 (Y:=Y) hF (ns:=ns) (c:=.sh (.str z)) fun y hy=>hC y (b_ _ hy);show(Nc (C (.sh (.str z)::Y))).bind (fun k=>if k then(Nc (F (.sh (.str z)::Y))).bind fun y=>(D_ (gN 0) C F (ns.map .str) (.sh (.str z)::Y)).bind fun ys=>.ok (y::ys)else D_ (gN 0) C F (ns.map .str) (.sh (.str z)::Y))=_;rw[hC z (cp ..),hF z,ih];show(if P z then _ else _)=_;cases e:P z with
  |true=>rw[kX e];rfl
  |false=>rw[jM (by rw[e];exact fD)];rfl
theorem Lh{ks:List (Int×Int)}{t:Tr}(hn:DI bt av=true)(SW:0<ts.length)(hs:keysOf h (.ob x bt) ts=some ks)(ht:ts[c_ (fun i=>ks.getD i (0,0)) (ts.length - 1)]?=some t):vf x av h (.lst ts) (.ob x bt)=.ok t:=by
 unfold vf;simp only[hn,SW,and_self,cK,hs,ht]
 rfl
theorem qF{r:Rs (List Tr)}{ix:List (Option Nat)}{Y AY:bO}{c:Cell}(P:Str->Bool){ns:List Str}(hr:r=.ok (ns.map .str))(hl:ns.length<=e_)(hρ:tL ix Y=c::AY)(hF:∀z,F (.sh (.str z)::AY)=.ok (.str z))(hC:∀z∈ns,aE (.sh (.str z)::AY)=.ok (P z)):u4 ix (gN 0) aE F r Y=.ok (.lst ((ns.filter P).map .str)):=by
 unfold u4;rw[hr,hρ];show(if(ns.map Tr.str).length<=e_ then _ else _)=_;rw[aS (by rw[bj];exact hl),C9 hF hC]
 rfl
theorem vU(h:mB ts=true):uG (.ok (.lst ts)) A=.ok (.at A.length) (A++[.lst ts]):=aS h
theorem vV(h:∀p∈l,p.1.length<=1000):J4 (.ok (.bT (dP f l)))=.ok (l.map fun p=>.str p.1):=Gy fun p hp=>cw (h p hp) (by decide)
theorem map_fst:(l.map fun p=>Tr.str p.1)=(l.map (·.1)).map .str:=by rw[cF];rfl
theorem Ext.idem {A':Ab}{pins:List (Nat×Ao)}{k:Nat}{o:Ao}(e:Ext A A' pins)(h:A[k]?=some o)(hu:pins.lookup k=none):Ext A A' ((k,o)::pins):=⟨e.le,fun j x q=>by
 rw[cE];by_cases hj:j=k
 ·subst hj;rw[h]at q;cases q;rw[e.at' j o h,hu];simp
 ·have:(j==k)=false:=by simpa using hj
  rw[this];exact e.at' j x q⟩
theorem Ext.cons {A' A2:Ab}{pins:List (Nat×Ao)}{k:Nat}{o:Ao}(a:Ext A A' pins)(b:Ext A' A2 [(k,o)]):Ext A A2 ((k,o)::pins):=a.trans b
theorem Ext.past {A' A2:Ab}{pins:List (Nat×Ao)}(a:Ext A A' [])(b:Ext A' A2 pins):Ext A A2 pins:=by have:=a.trans b;rwa[jQ]at this
end
structure cy(A:Ab)(bf:List (Str×Bool))(a9:List (Str×Nat)):Prop where
 o:A[0]?=some (.ins "Hall" [("persons",.at 1),("places",.at 2),("hands",.at 3)])
 ps:A[1]?=some (.bT (dP .bl bf))
 pl:A[2]?=some (.bT (dP .at a9))
section
variable {A A':Ab}{bf:List (Str×Bool)}{a9:List (Str×Nat)}
theorem flB{l:List (Str×Bool)}:gu (dP .bl l):=t8 fun _ _ _=>Lg
theorem cy.Om (h:cy A bf a9):jJ ["Hall"] "persons" (aU 5 A (.at 0))=.ok (.bT (dP .bl bf)):=by
 rw[gw h.o];show Rs.ok (aU 4 A (.at 1))=_;rw[fQ h.ps,ij flB]
theorem cy.Tu (h:cy A bf a9):jJ ["Hall"] "places" (aU 5 A (.at 0))=.ok (.bT (dP (fun j=>aU 3 A (.at j)) a9)):=by
 rw[gw h.o];show Rs.ok (aU 4 A (.at 2))=_;rw[fQ h.pl];unfold dP;rw[cF];rfl
theorem cy.aaL (h:cy A bf a9):vB ["Hall"] "places" (.ok (.at 0) A)=.ok (.at 2) A:=by unfold vB Rz.bind;simp only[h.o];rfl
theorem cy.call (h:cy A bf a9){m:Str}(hm:DI [("persons",.at 1),("places",.at 2),("hands",.at 3)] m=true)(F:List Tr->Ab->Rz Tr)(l:Ab->Rz (List Tr)):qX "Hall" m F (.ok (.at 0) A) l=(l A).bind fun ts A=>F (.at 0::ts) A:=by
 show(match A[0]? with|some (.ins x fs)=>if x="Hall"/\DI fs m=true then(l A).bind fun ts A=>F (.at 0::ts) A else .bad|_=>.bad)=_;rw[h.o];exact aS ⟨rfl,hm⟩
theorem jY{b:Ab->Rz Tr}:N1 aC (.ok aB A) b=(b A).bind fun y A=>rW (aC (aU 1 A aB) (aU 1 A y)) A:=rfl
theorem vW{f:ag->Tr}{l:List (Str×ag)}(h:A[i]?=some (.bT (dP f l))):aU 1 A (.at i)=.bT (dP f l):=by
 rw[fQ h];unfold dP;rw[cF];rfl
theorem Gz:(∀T G Y A,rN T G [] Y A=.ok (.nx Y) A)/\(∀T G t ts Y A,rN T G (t::ts) Y A=(gs (T t Y) A).bind fun qS A=>(G qS A).bind fun o A=>match o with
  |.nx g_=>rN T G ts g_ A
  |.ct g_=>rN T G ts g_ A
  |.bk g_=>.ok (.nx g_) A
  |.ret t=>.ok (.ret t) A)/\(∀T G ts A Y,F2 T G (.ok ts A) Y=rN T G ts Y A)/\(∀i t Y,gN i t Y=.ok (Y.set i (.sh t)))/\(∀ts,JJ (.ok (.tup ts))=.ok ts)/\(∀ts,JJ (.ok (.lst ts))=.ok ts):=by
 refine⟨?_,?_,?_,?_,?_,?_⟩<;>intros<;>rfl
end
def C_(j ks kb ka:Nat)(d v p:Str):List (Str×Tr):=[("rows",.at (j+1)),("roles",.at (j+2)),("stays",.at ks),("barred",.at kb),("asked",.at ka),("door",.str d),("voice",.str v),("past",.str p)]
abbrev jB:=Str×Int×Int×Option Int
def ES:Option Int->Tr
 |none=>.cu
 |some n=>.int n
def vD(s:jB):Tr:=.tup [.str s.1,.int s.2.1,.int s.2.2.1,ES s.2.2.2]
structure bU(A:Ab)(j ks kb ka:Nat)(rows:List Tr)(bo:List (Str×Str))(stays:List jB)(cq asked:List Str)(d v p:Str):Prop where
 o:A[j]?=some (.bT (dP id (C_ j ks kb ka d v p)))
 rw:A[j+1]?=some (.lst rows)
 rl:A[j+2]?=some (.bT (dP .str bo))
 st:A[ks]?=some (.lst (stays.map vD))
 br:A[kb]?=some (.lst (cq.map .str))
 as:A[ka]?=some (.lst (asked.map .str))
 nd:[j,j+1,j+2,ks,kb,ka].Nodup
section
variable {A A':Ab}{j ks kb ka n:Nat}{bo:List (Str×Str)}{stays:List jB}{asked:List Str}{v p:Str}
theorem gQ(h:A[j]?=some (.bT (dP id bt))):aU (n+1) A (.at j)=.bT (dP (aU n A) bt):=by
 rw[fQ h];unfold dP;rw[cF];rfl
theorem AZ(h:A[j]?=some (.bT (dP id bt))):aU 1 A (.at j)=.bT (dP id bt):=by
 rw[fQ h];unfold dP;rw[cF];rfl
theorem Li:(stays.map vD).map (aU n A)=stays.map vD:=vS fun t ht=>by obtain⟨s,_,rfl⟩:=cA.mp ht;exact⟨_,rfl⟩
theorem bU.Tv (h:bU A j ks kb ka ts bo stays ps asked av v p)(f:jK ts):jI (aU (n+2) A (.at j)) (.str "rows")=.ok (.lst ts):=by
 rw[gQ h.o,dR];show Rs.ok (aU (n+1) A (.at (j+1)))=_;rw[kI h.rw,vS f]
theorem bU.C' (h:bU A j ks kb ka ts bo stays ps asked av v p):jI (aU (n+2) A (.at j)) (.str "roles")=.ok (.bT (dP .str bo)):=by
 rw[gQ h.o,dR];show Rs.ok (aU (n+1) A (.at (j+2)))=_;rw[fQ h.rl,ij (t8 fun _ _ _=>rS)]
theorem bU.X5 (h:bU A j ks kb ka ts bo stays ps asked av v p):jI (aU (n+2) A (.at j)) (.str "stays")=.ok (.lst (stays.map vD)):=by
 rw[gQ h.o,dR];show Rs.ok (aU (n+1) A (.at ks))=_;rw[kI h.st,Li]
theorem bU.X6 (h:bU A j ks kb ka ts bo stays ps asked av v p):jI (aU (n+2) A (.at j)) (.str "barred")=.ok (.lst (ps.map .str)):=by
 rw[gQ h.o,dR];show Rs.ok (aU (n+1) A (.at kb))=_;rw[kI h.br,qE]
theorem bU.Tw (h:bU A j ks kb ka ts bo stays ps asked av v p):jI (aU (n+2) A (.at j)) (.str "asked")=.ok (.lst (asked.map .str)):=by
 rw[gQ h.o,dR];show Rs.ok (aU (n+1) A (.at ka))=_;rw[kI h.as,qE]
theorem bU.a_d (h:bU A j ks kb ka ts bo stays ps asked av v p):jI (aU (n+1) A (.at j)) (.str "door")=.ok (.str av):=by
 rw[gQ h.o,dR];show Rs.ok (aU n A (.str av))=_;rw[rS]
theorem bU.a_v (h:bU A j ks kb ka ts bo stays ps asked av v p):jI (aU (n+1) A (.at j)) (.str "voice")=.ok (.str v):=by
 rw[gQ h.o,dR];show Rs.ok (aU n A (.str v))=_;rw[rS]
theorem bU.a_p (h:bU A j ks kb ka ts bo stays ps asked av v p):jI (aU (n+1) A (.at j)) (.str "past")=.ok (.str p):=by
 rw[gQ h.o,dR];show Rs.ok (aU n A (.str p))=_;rw[rS]
theorem bU.aaM (h:bU A j ks kb ka ts bo stays ps asked av v p):jI (aU 1 A (.at j)) (.str "rows")=.ok (.at (j+1)):=by rw[AZ h.o,dR];rfl
theorem bU.Oo (h:bU A j ks kb ka ts bo stays ps asked av v p):jI (aU 1 A (.at j)) (.str "roles")=.ok (.at (j+2)):=by rw[AZ h.o,dR];rfl
theorem bU.aaN (h:bU A j ks kb ka ts bo stays ps asked av v p):jI (aU 1 A (.at j)) (.str "stays")=.ok (.at ks):=by rw[AZ h.o,dR];rfl
theorem bU.ext {pins:List (Nat×Ao)}(h:bU A j ks kb ka ts bo stays ps asked av v p)(e:Ext A A' pins)(q:∀k∈[j,j+1,j+2,ks,kb,ka],pins.lookup k=none):bU A' j ks kb ka ts bo stays ps asked av v p:=
 ⟨e.same h.o (q _ (by simp)),e.same h.rw (q _ (by simp)),e.same h.rl (q _ (by simp)),e.same h.st (q _ (by simp)),e.same h.br (q _ (by simp)),e.same h.as (q _ (by simp)),h.nd⟩
variable {cD:List Tr}{lS:List (Str×Str)}{pP:List jB}{ya:List Str}
theorem bU.ne (h:bU A j ks kb ka ts bo stays ps asked av v p):j≠ks/\j≠kb/\j≠ka/\j+1≠ks/\j+1≠kb/\j+1≠ka/\j+2≠ks/\j+2≠kb/\j+2≠ka/\ks≠kb/\ks≠ka/\kb≠ka:=by
 have:=h.nd;simp only[gK,bB,cI,cJ,not_or]at this;obtain⟨⟨_,_,a,b,c⟩,⟨_,av,e,f⟩,⟨g,i,k⟩,⟨l,m⟩,n,_⟩:=this;exact⟨a,b,c,av,e,f,g,i,k,l,m,n⟩
theorem bU.X7:j+2≠j+1/\j+2≠j:=⟨l_ _,dB (Nat.lt_add_of_pos_right (Nat.succ_pos 1))⟩
theorem bU.Lj (h:bU A j ks kb ka ts bo stays ps asked av v p)(e:Ext A A' [(j+1,.lst cD)]):bU A' j ks kb ka cD bo stays ps asked av v p:=by
 obtain⟨_,_,_,b1,b2,b3,_⟩:=h.ne;exact⟨e.same h.o (jv (l_ j).symm),e.new h.rw Ol,e.same h.rl (jv bU.X7.1),e.same h.st (jv b1.symm),e.same h.br (jv b2.symm),e.same h.as (jv b3.symm),h.nd⟩
theorem bU.Oq (h:bU A j ks kb ka ts bo stays ps asked av v p)(e:Ext A A' [(j+2,.bT (dP .str lS))]):bU A' j ks kb ka ts lS stays ps asked av v p:=by
 obtain⟨_,_,_,_,_,_,b1,b2,b3,_⟩:=h.ne;exact⟨e.same h.o (jv bU.X7.2.symm),e.same h.rw (jv bU.X7.1.symm),e.new h.rl Ol,e.same h.st (jv b1.symm),e.same h.br (jv b2.symm),e.same h.as (jv b3.symm),h.nd⟩
theorem bU.aaO (h:bU A j ks kb ka ts bo stays ps asked av v p)(e:Ext A A' [(ks,.lst (pP.map vD))]):bU A' j ks kb ka ts bo pP ps asked av v p:=by
 obtain⟨a,_,_,b,_,_,c,_,_,d1,d2,_⟩:=h.ne;exact⟨e.same h.o (jv a),e.same h.rw (jv b),e.same h.rl (jv c),e.new h.st Ol,e.same h.br (jv d1.symm),e.same h.as (jv d2.symm),h.nd⟩
theorem ik{o:Ao}(h:A[i]?=some o):i<A.length:=(fT.mp h).1
theorem Ll{l1 l2:List Nat}{y:Nat}(h:(l1++i::l2).Nodup)(hy:∀k∈l1++l2,k<y):(l1++y::l2).Nodup:=
 List.perm_middle.nodup_iff.mpr (gK.mpr ⟨fun m=>eC _ (hy _ m),(gK.mp (List.perm_middle.nodup_iff.mp h)).2⟩)
theorem bU.aaP (h:bU A j ks kb ka ts bo stays ps asked av v p):bU ((A++[Ao.lst (ya.map .str)]).set j (.bT (dP id (C_ j ks kb A.length av v p)))) j ks kb A.length ts bo stays ps ya av v p:=by
 obtain⟨a,b,_⟩:=h.ne;have e1:Ext A (A++[Ao.lst (ya.map .str)]) []:=Ext.push;have e2:Ext (A++[Ao.lst (ya.map .str)]) _ _:=Ext.put (o:=.bT (dP id (C_ j ks kb A.length av v p))) (e1.same h.o rfl);refine⟨e2.new (e1.same h.o rfl) Ol,e2.same (e1.same h.rw rfl) (jv (l_ j)),e2.same (e1.same h.rl rfl) (jv bU.X7.2),e2.same (e1.same h.st rfl) (jv a.symm),e2.same (e1.same h.br rfl) (jv b.symm),e2.same ly (jv (dB (ik h.o))),Ll (l1:=[j,j+1,j+2,ks,kb]) (l2:=[]) h.nd fun k m=>?_⟩;simp only[dw,bB,cI,cJ]at m;rcases m with rfl|rfl|rfl|rfl|rfl
 ·exact ik h.o
 ·exact ik h.rw
 ·exact ik h.rl
 ·exact ik h.st
 ·exact ik h.br
theorem bU.aaQ (h:bU A j ks kb ka ts bo stays ps asked av v p):bU ((A++[Ao.lst (pP.map vD)]).set j (.bT (dP id (C_ j A.length kb ka av v p)))) j A.length kb ka ts bo pP ps asked av v p:=by
 obtain⟨_,b,c,_⟩:=h.ne;have e1:Ext A (A++[Ao.lst (pP.map vD)]) []:=Ext.push;have e2:Ext (A++[Ao.lst (pP.map vD)]) _ _:=Ext.put (o:=.bT (dP id (C_ j A.length kb ka av v p))) (e1.same h.o rfl);refine⟨e2.new (e1.same h.o rfl) Ol,e2.same (e1.same h.rw rfl) (jv (l_ j)),e2.same (e1.same h.rl rfl) (jv bU.X7.2),e2.same ly (jv (dB (ik h.o))),e2.same (e1.same h.br rfl) (jv b.symm),e2.same (e1.same h.as rfl) (jv c.symm),Ll (l1:=[j,j+1,j+2]) (l2:=[kb,ka]) h.nd fun k m=>?_⟩;simp only[dw,bB,cI,cJ,or_assoc]at m;rcases m with rfl|rfl|rfl|rfl|rfl
 ·exact ik h.o
 ·exact ik h.rw
 ·exact ik h.rl
 ·exact ik h.br
 ·exact ik h.as
theorem Ot:My (.str x) (.str av)=.ok (.bl (!(x==av))):=rfl
theorem yb:∀{stays:List jB},mB (stays.map vD)=true
 |[]=>rfl
 |s::stays=>by
  rw[bH,mB,yb,Bool.and_true];obtain⟨a,b,c,e⟩:=s;cases e<;>rfl
theorem Lm{α:Type}{C:bO->Rs Bool}{F:bO->Rs Tr}{Y:bO}{P:α->Bool}{g h:α->Tr}:∀{xs:List α} {c:Cell},(∀x∈xs,C (.sh (g x)::Y)=.ok (P x))->(∀x∈xs,P x=true->F (.sh (g x)::Y)=.ok (h x))->D_ (gN 0) C F (xs.map g) (c::Y)=.ok ((xs.filter P).map h)
 |[],_,_,_=>rfl
 |x::xs,c,hC,hF=>by
  have ih:=Lm (Y:=Y) (C:=C) (F:=F) (P:=P) (g:=g) (h:=h) (xs:=xs) (c:=.sh (g x)) (fun y hy=>hC y (b_ _ hy)) fun y hy=>hF y (b_ _ hy);show(Nc (C (.sh (g x)::Y))).bind (fun k=>if k then(Nc (F (.sh (g x)::Y))).bind fun y=>(D_ (gN 0) C F (xs.map g) (.sh (g x)::Y)).bind fun ys=>.ok (y::ys)else D_ (gN 0) C F (xs.map g) (.sh (g x)::Y))=_;rw[hC x (cp ..),ih];show(if P x then _ else _)=_;cases e:P x with
  |true=>rw[kX e,hF x (cp ..) e];rfl
  |false=>rw[jM (by rw[e];exact fD)];rfl
theorem lz{r:Rs (List Tr)}{ix:List (Option Nat)}{Y AY:bO}{c:Cell}(P:ag->Bool)(g h:ag->Tr){xs:List ag}(hr:r=.ok (xs.map g))(hl:xs.length<=e_)(hρ:tL ix Y=c::AY)(hC:∀x∈xs,aE (.sh (g x)::AY)=.ok (P x))(hF:∀x∈xs,P x=true->F (.sh (g x)::AY)=.ok (h x)):u4 ix (gN 0) aE F r Y=.ok (.lst ((xs.filter P).map h)):=by
 unfold u4;rw[hr,hρ];show(if(xs.map g).length<=e_ then _ else _)=_;rw[aS (by rw[bj];exact hl),Lm hC hF]
 rfl
theorem Ij:lJ (dP id (C_ j ks kb ka av v p)) (.inr "asked") (.at n)=dP id (C_ j ks kb n av v p):=nv (f:=id) (a:=.at n)
theorem Ik:lJ (dP id (C_ j ks kb ka av v p)) (.inr "stays") (.at n)=dP id (C_ j n kb ka av v p):=nv (f:=id) (a:=.at n)
theorem bU.aaR {x:Ao}{Y:bO}(h:bU A j ks kb ka ts bo stays ps asked av v p):putD (A++[x]) (.at j) (.str "asked") (.at A.length) Y=.ok (.nx Y) ((A++[x]).set j (.bT (dP id (C_ j ks kb A.length av v p)))):=by
 rw[pO (Ext.push.same h.o rfl) (by rw[lR];show 8<e_;decide),Ij]
theorem bU.aaS {x:Ao}{Y:bO}(h:bU A j ks kb ka ts bo stays ps asked av v p):putD (A++[x]) (.at j) (.str "stays") (.at A.length) Y=.ok (.nx Y) ((A++[x]).set j (.bT (dP id (C_ j A.length kb ka av v p)))):=by
 rw[pO (Ext.push.same h.o rfl) (by rw[lR];show 8<e_;decide),Ik]
end
open PyProof
section
variable {A:Ab}
theorem ET{ns:List Int}(h:0<ns.length):q_ ns∈ns/\∀x∈ns,x<=q_ ns:=by
 obtain⟨h1,h2⟩:=argBest_gt (fun i=>ns.getD i 0) (ns.length - 1);have hl:argBest (fun i j=>decide (ns.getD i 0>ns.getD j 0)) (ns.length - 1)<ns.length:=by omega
 constructor
 ·unfold q_;rw[d_,bQ hl];exact kr _
 ·intro x hx;obtain⟨a,ha,e⟩:=List.getElem_of_mem hx;have:=h2 a (by omega);have e2:ns.getD a 0=x:=by rw[d_,bQ ha,e];rfl
  rw[<-e2];exact this
theorem ints_map{α:Type}{f:α->Int}:∀{l:List α},qZ (l.map fun x=>.int (f x))=some (l.map f)
 |[]=>rfl
 |x::l=>by show(qZ (l.map fun x=>.int (f x))).map (fun r=>f x::r)=_;rw[ints_map];rfl
theorem max_map{f:ag->Int}{l:List ag}(h:l≠[]):KD [.lst (l.map fun x=>.int (f x))]=.ok (.int (q_ (l.map f))):=by
 show(match qZ (l.map fun x=>Tr.int (f x))with|some ns=>if 0<ns.length then Rs.ok (Tr.int (q_ ns))else .bad|none=>.bad)=_;rw[ints_map];exact aS (by rw[bj];exact sg.mpr h)
theorem A5:Ho (.str x) (.lst (ps.map .str))=.ok (.bl (ps.contains x)):=by
 show Rr (JN (.str x) (ps.map .str))=_;have:((ps.map Tr.str).all yG)=true:=by rw[oX];exact dm.mpr fun _ _=>rfl
 unfold JN;rw[aS ⟨rfl,this⟩,List.any_map];show Rs.ok (Tr.bl _)=_;congr 2;rw[List.contains_eq_any_beq];congr 1;funext y;show(y==x)=(x==y);exact Bool.beq_comm
theorem yc:Nr (.str x) (.lst (ps.map .str))=.ok (.bl (!ps.contains x)):=by
 show Rr (He (JN (.str x) (ps.map .str)))=_;have:Rr (JN (.str x) (ps.map .str))=.ok (.bl (ps.contains x)):=A5;unfold JN at*;have h:((ps.map Tr.str).all yG)=true:=by rw[oX];exact dm.mpr fun _ _=>rfl
 rw[aS ⟨rfl,h⟩]at*;have e:Rs.ok (Tr.bl ((ps.map Tr.str).any fun y=>eqT y (.str x)))=.ok (.bl (ps.contains x)):=this;injection e with e;injection e with e
 show Rs.ok (Tr.bl (!_))=_;rw[e]
theorem Tx{f:ag->Tr}{l:List (Str×ag)}:pj (.bT (dP f l))=.ok (!l.isEmpty):=by cases l<;>rfl
end
def nS(l:List Str):List (Key×Tr):=dP .bl (l.map fun z=>(z,true))
theorem GA{z:Str}:∀{l:List Str},(l.map fun z=>(z,true)).lookup z=if l.contains z=true then some true else none
 |[]=>rfl
 |y::l=>by
  rw[bH,cE,List.contains_cons];cases e:(z==y)with
  |true=>rfl
  |false=>rw[GA,kz]
theorem EU:eN (nS ps) (.inr x)=if ps.contains x=true then some (.bl true)else none:=by
 unfold nS;rw[d9,GA];cases ps.contains x<;>rfl
theorem Ou:h_ (nS ps) (.inr x)=nS (ps.filter fun y=>!(y==x)):=by
 unfold nS;rw[AX];congr 1;unfold kJ;rw[oP];congr 1;apply sA;intro y _;show decide (y≠x)=!(y==x);by_cases h:y=x
 ·subst h;simp
 ·simp[h]
theorem vX:gu (nS ps):=t8 fun _ _ _=>Lg
structure fR(A:Ab)(bw:List Str)(c8:List (Str×Nat)):Prop where
 o:A[4]?=some (.bT (dP id [("people",.at 5),("rooms",.at 6)]))
 pe:A[5]?=some (.lst (bw.map .str))
 rs:A[6]?=some (.bT (dP .at c8))
section
variable {A A':Ab}{c8:List (Str×Nat)}{n:Nat}
theorem fR.Tz (h:fR A ps c8):jI (aU (n+2) A (.at 4)) (.str "people")=.ok (.lst (ps.map .str)):=by
 rw[gQ h.o,dR];show Rs.ok (aU (n+1) A (.at 5))=_;rw[kI h.pe,qE]
theorem fR.Ln (h:fR A ps c8):jI (aU (n+2) A (.at 4)) (.str "rooms")=.ok (.bT (dP (fun j=>aU n A (.at j)) c8)):=by
 rw[gQ h.o,dR];show Rs.ok (aU (n+1) A (.at 6))=_;rw[fQ h.rs];unfold dP;rw[cF];rfl
theorem fR.TB (h:fR A ps c8):jI (aU 1 A (.at 4)) (.str "rooms")=.ok (.at 6):=by rw[AZ h.o,dR];rfl
theorem Dc{f:ag->Tr}{l:List (Str×ag)}:JO (.ok (.bT (dP f l))) (.ok (.str x))=.ok (((l.lookup x).map f).getD .cu):=by
 show(kS (jW (.str x))).bind (fun k=>Rs.ok ((eN (dP f l) k).getD .cu))=_;show Rs.ok ((eN (dP f l) (.inr x)).getD .cu)=_;rw[d9]
theorem Ov:FR (.bT aF) .cu=.ok (.bl false):=rfl
end
def arr:Nat->List Str->List (List Str)
 |0,_=>[[]]
 |n+1,l=>[]::l.flatMap fun z=>(arr n (l.filter fun y=>!(y==z))).map (z::·)
theorem GB:∀{n:Nat} {l ss:List Str},ss.length<=n->ss.Nodup->(∀z∈ss,z∈l)->ss∈arr n l
 |0,l,[],_,_,_=>cX.mpr rfl
 |n+1,l,[],_,_,_=>cp ..
 |n+1,l,z::ss,hl,hn,hs=>by
  rw[gK]at hn;refine b_ _ (List.mem_flatMap.mpr ⟨z,hs z (cp ..),cA.mpr ⟨ss,GB (we hl) hn.2 fun y hy=>fY.mpr ⟨hs y (b_ _ hy),?_⟩,rfl⟩⟩);have:y≠z:=fun e=>hn.1 (e▸hy);simpa using this
def Ow(ss:List Str):Bool:=match gW ss with
 |some p=>(p.map fun i=>ss.getD i ("":Str)).isPerm ss&&sortedS (p.map fun i=>ss.getD i ("":Str))
 |none=>false
abbrev six:List Str:=["ann","bo","cy","dee","ed","zed"]
def ch5(z y:Str):Bool:=y==z||(((arr 4 ((six.filter fun x=>!(x==z)).filter fun x=>!(x==y))).map (y::·)).map (z::·)).all Ow
set_option maxHeartbeats 4000000 in
theorem aaT:∀z∈six,∀y∈six,ch5 z y=true:=by
 intro z hz y hy;simp only[bB,cI,cJ]at hz hy;rcases hz with rfl|rfl|rfl|rfl|rfl|rfl<;>rcases hy with rfl|rfl|rfl|rfl|rfl|rfl<;>decide+kernel
theorem aaU:(arr 6 six).all Ow=true:=by
 rw[arr,hV,List.all_flatMap,bP,dm];refine⟨rfl,fun z hz=>?_⟩;rw[arr,bH,hV,List.map_flatMap,List.all_flatMap,bP,dm];refine⟨(by decide+kernel:∀z∈six,Ow [z]=true) z hz,fun y hy=>?_⟩;have n:=fY.mp hy;have h:=aaT z hz y n.1;rw[ch5,show(y==z)=false by simpa using n.2,kz]at h;exact h
theorem uO:∀{ss l:List Str},ss.Nodup->(∀z∈ss,z∈l)->ss.length<=l.length
 |[],_,_,_=>dU _
 |z::ss,l,hn,hs=>by
  rw[gK]at hn;have hz:=hs z (cp ..);have ih:=uO (l:=l.erase z) hn.2 fun y hy=>(List.mem_erase_of_ne (fun e:y=z=>hn.1 (by rw[<-e];exact hy))).mpr (hs y (b_ _ hy));rw[List.length_erase_of_mem hz]at ih;have:=List.length_pos_of_mem hz;rw[dg];omega
theorem EV{ss:List Str}(hn:ss.Nodup)(hs:∀z∈ss,z∈(["ann","bo","cy","dee","ed","zed"]:List Str)):∃p,gW ss=some p/\p.map (fun i=>ss.getD i ("":Str))=cT ss:=by
 have h:=dm.mp aaU ss (GB (uO hn hs) hn hs);unfold Ow at h;cases e:gW ss with
 |none=>rw[e]at h;cases h
 |some p=>
  rw[e]at h;rw[bP]at h;exact⟨p,rfl,tW (List.isPerm_iff.mp h.1) h.2⟩
theorem De{α:Type}{f:α->Tr}:∀{l:List (Str×α)},rb (dP f l)=some (l.map (·.1))
 |[]=>rfl
 |p::l=>by show(rb (dP f l)).map (fun s=>p.1::s)=_;rw[De];rfl
theorem EW{aQ:List (Str×Str)}(hn:(aQ.map (·.1)).Nodup)(hs:∀z∈aQ.map (·.1),z∈(["ann","bo","cy","dee","ed","zed"]:List Str))(hl:∀p∈aQ,aQ.lookup p.1=some p.2):
  vR (.bT (dP .str aQ))=.ok (.lst ((cT (aQ.map (·.1))).map fun z=>.tup [.str z,.str ((aQ.lookup z).getD "")])):=by
 obtain⟨p,e1,e2⟩:=EV hn hs;have b9:=uO hn hs;have Zi:((aQ.map (·.1)).all fun z=>decide (z.length<=cS))=true:=dm.mpr fun z hz=>iY (cw ((by decide+kernel:∀z∈(["ann","bo","cy","dee","ed","zed"]:List Str),z.length<=10) z (hs z hz)) (by decide));show kS ((rb (dP .str aQ)).bind fun ss=>if ss.length<64/\(ss.all fun z=>decide (z.length<=cS))=true then(gW ss).map fun p=>Tr.lst (p.map fun i=>.tup [.str (ss.getD i ("":Str)),((dP .str aQ).map (·.2)).getD i .cu])else none)=_;rw[De];show kS (if(aQ.map (·.1)).length<64/\_ then _ else none)=_;rw[aS ⟨sj b9 (by decide),Zi⟩,e1];show Rs.ok (Tr.lst _)=_;congr 2;rw[<-e2,cF];apply gH;intro i hi;have f_:=zM e1 i hi;rw[bj]at f_;have g1:(aQ.map (·.1)).getD i ("":Str)=aQ[i].1:=by rw[d_,bW,bQ f_];rfl
 have g2:((dP .str aQ).map (·.2)).getD i .cu=.str aQ[i].2:=by
  unfold dP;rw[cF,d_,bW,bQ f_];rfl
 show Tr.tup [.str ((aQ.map (·.1)).getD i ("":Str)),((dP .str aQ).map (·.2)).getD i .cu]=Tr.tup [.str ((aQ.map (·.1)).getD i ("":Str)),.str ((aQ.lookup ((aQ.map (·.1)).getD i ("":Str))).getD "")];rw[g1,g2,hl aQ[i] (kr _)]
 rfl
section
variable {A:Ab}{n:Nat}{rows:List Tr}{en ch bn iv:List (Key×Tr)}
theorem bx.aaV (h:bx A i rows aF en ch bn iv)(f:jK rows):jJ ["Room"] "log" (aU (n+2) A (.at i))=.ok (.lst rows):=by
 rw[gw h.o];show Rs.ok (aU (n+1) A (.at (i+1)))=_;rw[kI h.lg,vS f]
theorem bx.aaW (h:bx A i rows aF en ch bn iv)(f:gu aF):jJ ["Room"] "ranks" (aU (n+2) A (.at i))=.ok (.bT aF):=by
 rw[gw h.o];show Rs.ok (aU (n+1) A (.at (i+2)))=_;rw[fQ h.rk,ij f]
theorem bx.aaX (h:bx A i rows aF en ch bn iv)(f:gu ch):jJ ["Room"] "chosen" (aU (n+2) A (.at i))=.ok (.bT ch):=by
 rw[gw h.o];show Rs.ok (aU (n+1) A (.at (i+4)))=_;rw[fQ h.ch,ij f]
theorem bx.aaY (h:bx A i rows aF en ch bn iv)(f:gu bn):jJ ["Room"] "banned" (aU (n+2) A (.at i))=.ok (.bT bn):=by
 rw[gw h.o];show Rs.ok (aU (n+1) A (.at (i+5)))=_;rw[fQ h.bn,ij f]
theorem bx.aaZ (h:bx A i rows aF en ch bn iv)(f:gu iv):jJ ["Room"] "invited" (aU (n+2) A (.at i))=.ok (.bT iv):=by
 rw[gw h.o];show Rs.ok (aU (n+1) A (.at (i+6)))=_;rw[fQ h.iv,ij f]
theorem bx.dv (h:bx A i rows aF en ch bn iv){m:Str}(hm:DI ((roomF i).map fun p=>(p.1,aU n A p.2)) m=true)(F:List Tr->Rs Tr)(l:Rs (List Tr)):vd "Room" m F (.ok (aU (n+1) A (.at i))) l=l.bind fun ts=>F (aU (n+1) A (.at i)::ts):=by
 rw[gw h.o];exact aS ⟨rfl,hm⟩
variable {bf:List (Str×Bool)}{a9:List (Str×Nat)}
theorem cy.dv (h:cy A bf a9){m:Str}(hm:DI (([("persons",.at 1),("places",.at 2),("hands",.at 3)]:List (Str×Tr)).map fun p=>(p.1,aU n A p.2)) m=true)(F:List Tr->Rs Tr)(l:Rs (List Tr)):vd "Hall" m F (.ok (aU (n+1) A (.at 0))) l=l.bind fun ts=>F (aU (n+1) A (.at 0)::ts):=by
 rw[gw h.o];exact aS ⟨rfl,hm⟩
theorem Dg{α:Type}{f:α->Tr}:∀{l:List (Str×α)},(∀p∈l,p.1.length<=1000)->vc (dP f l)=some (l.map (·.1))
 |[],_=>rfl
 |p::l,h=>by
  show(if p.1.length<=cS then(vc (dP f l)).map (fun r=>p.1::r)else none)=_;rw[aS (cw (h p (cp ..)) (by decide)),Dg fun q hq=>h q (b_ _ hq)]
  rfl
theorem uP:∀{ss:List Str},nR (ss.map .str)=some ss
 |[]=>rfl
 |z::ss=>by show(nR (ss.map .str)).map (fun r=>z::r)=_;rw[uP];rfl
theorem qG{f:ag->Tr}{l:List (Str×ag)}(h:∀p∈l,p.1.length<=1000)(hl:l.length<64):nh [.bT (dP f l)]=.ok (.lst ((cT (l.map (·.1))).map .str)):=by
 show zB (vc (dP f l))=_;rw[Dg h];exact aS (by rw[bj];exact hl)
theorem zR{ss:List Str}(hl:ss.length<64):nh [.lst (ss.map .str)]=.ok (.lst ((cT ss).map .str)):=by
 show zB (nR (ss.map .str))=_;rw[uP];exact aS hl
theorem Ox:(∀T G Y,yO T G [] Y=.ok (.nx Y))/\(∀T G t ts Y,yO T G (t::ts) Y=(T t Y).bind fun qS=>(G qS).bind fun o=>match o with
  |.nx g_=>yO T G ts g_
  |.ct g_=>yO T G ts g_
  |.bk g_=>.ok (.nx g_)
  |.ret t=>.ok (.ret t))/\(∀T G ts Y,FG T G (.ok ts) Y=yO T G ts Y)/\(∀ts,Eg [.lst ts]=.ok (.tup ts)):=by
 refine⟨?_,?_,?_,?_⟩<;>intros<;>rfl
theorem Lo:∀{ts:List Tr},(∀t∈ts,t=.bl true)->ND [.lst ts]=.ok (.bl true):=fun{ts} h=>by
 have:Hq ts=.ok (ts.map fun _=>true):=by
  induction ts with
  |nil=>rfl
  |cons t ts ih=>
   rw[h t (cp ..)];show(Hq ts).bind (fun zs=>Rs.ok (true::zs))=_;rw[ih fun u hu=>h u (b_ _ hu)]
   rfl
 show(Hq ts).bind (fun bs=>Rs.ok (Tr.bl (bs.all id)))=_;rw[this];show Rs.ok (Tr.bl ((ts.map fun _=>true).all id))=_;congr 2;rw[oX];exact dm.mpr fun _ _=>rfl
theorem Dh:∀{ts:List Tr},PU ts ts=ts.map fun t=>.tup [t,t]
 |[]=>rfl
 |t::ts=>by show Tr.tup [t,t]::PU ts ts=_;rw[Dh];rfl
end
structure UD where
 bl:List Str
 own:List Str
 Xc:List Str
 fl:List (Str×List Str)
 kd:List Df
 er:List Str
 xs:List (Str⊕String)
 cs:List Str
 rs:List Str
namespace UD
def val(K:Frag):Str⊕String->Value
 |.inl c=>.ref (clsAt K c)
 |.inr c=>.type c
def tab(er:List Str):Str⊕String->List (Str×Bool)
 |.inl c=>er.map fun x=>(x,x==c)
 |.inr _=>er.map fun x=>(x,true)
def P7(K:Frag)(o:UD):Bool:=o.bl.all (fun x=>decide (nsIn K mainGlobals x=some none))&&(o.own.all (fun c=>decide (nsIn K mainGlobals c=some (some (.ref (clsAt K c)))))&&(o.Xc.all (fun c=>makesIn K (clsAt K c)&&(keepIn K (.ref (clsAt K c))&&decide (nsIn K mainGlobals c=some (some (.ref (clsAt K c))))))&&
 (o.fl.all (fun p=>Og K (clsAt K p.1)&&aaB K (clsAt K p.1) p.2)&&(o.kd.all (fun d=>decide (specialIn K (.ref (d.adr K)) "__get__"=some (some (.builtin "function.__get__")))&&decide (takesIn K (.ref (d.adr K))=some false))&&
 (XT K o.er&&(o.xs.all (fun c=>XR K (val K c) (tab o.er c))&&(o.cs.all (fun c=>XU K c o.er)&&o.rs.all (fun c=>excIn K (clsAt K c) bmV "ValueError.__new__"))))))))
structure Ok(o:UD)(K:Frag)(mg:Str->Option Value):Prop where
 bl:∀{x},o.bl.contains x=true->mg x=none
 GC:∀{c},o.own.contains c=true->mg c=some (.ref (clsAt K c))
 mk_:∀{c},o.Xc.contains c=true->Ig K mg c
 fl:∀{c f fs},o.fl.lookup c=some fs->fs.contains f=true->iA K [c] f
 bn:∀(i:Nat) {d:Df},o.kd[i]?=some d->zI K (d.adr K)
 xc:∀(i:Nat) {c},o.xs[i]?=some c->iB K (val K c) (tab o.er c)
 ca:∀{c},o.cs.contains c=true->o.own.contains c=true->qA K mg c o.er
 er:∀{c},o.rs.contains c=true->o.own.contains c=true->qY K mg c
theorem ok{o:UD}{K:Frag}{h:Heap}(X:K.In h)(G:h.Ns mainGlobals mg)(k:o.P7 K=true):o.Ok K mg:=by
 unfold P7 at k;simp only[bP,dm,hU]at k;obtain⟨k1,k2,k3,k4,k5,k6,k7,k8,k9⟩:=k;have GC:∀{c},o.own.contains c=true->mg c=some (.ref (clsAt K c)):=fun m=>mg_of X G (k2 _ (eO.mp m));refine⟨fun m=>mg_none_of X G (k1 _ (eO.mp m)),GC,fun m=>?_,fun{c f fs} l m=>?_,fun i d e=>?_,fun i c e=>?_,fun m n=>K_ (GC n) (k8 _ (eO.mp m)),fun m n=>⟨GC n,k9 _ (eO.mp m)⟩⟩
 ·have q:=k3 _ (eO.mp m);exact⟨q.1,q.2.1,mg_of X G q.2.2⟩
 ·have q:=k4 _ (iJ l);refine⟨fun x hx=>?_⟩;cases cX.mp hx;exact⟨K' q.1,(ee (dm.mp q.2 f (eO.mp m)):findIn K (.ref (clsAt K c)) f=some none)⟩
 ·have q:=k5 _ (dS e);exact⟨q.1,q.2⟩
 ·refine Tb (k7 _ (dS e)) k6 ?_
  cases c<;>simp[tab,Function.comp_def]
end UD
end L2
namespace M09
open PySem.W (Frag)
open PySem L2
variable {aM:Nat}
variable {aQ bo:List (Str×Str)}{bf:List (Str×Bool)}{rows:List Tr}{ents:List (Str×Int)}{a9 c8:List (Str×Nat)}{aZ:Str}{cs:List (Bool×Str×Str)}{bw:List Str}{A:Ab}
def top(i:Nat):Stmt:=PySem.Challenge.pw_talkhall_k09_roles.main.body.getD i (.Pass ⟨0,0,0,0⟩)
def Oy:Stmt->List Stmt
 |.ClassDef _ _ _ b _ _ _ _ _ _ _=>b
 |_=>[]
def gD(i j:Nat):Stmt:=(Oy (top i)).getD j (.Pass ⟨0,0,0,0⟩)
def A6:Df:=⟨none,"level","level",top 23,["role"]⟩
def il:Df:=⟨some "Room","claim","Room.claim",gD 24 4,["self","who"]⟩
def iK:Df:=⟨some "Room","write_row","Room.write_row",gD 24 1,["self","who","word","parts"]⟩
def lT:Df:=⟨some "Room","let_in","Room.let_in",gD 24 2,["self","who","word","role"]⟩
def iL:Df:=⟨some "Room","give_role","Room.give_role",gD 24 3,["self","who","whom","role"]⟩
def kK:Df:=⟨some "Room","need_in","Room.need_in",gD 24 6,["self","who"]⟩
def gX:Df:=⟨some "Hall","need_people","Hall.need_people",gD 26 1,["self","names"]⟩
def ip:Df:=⟨some "Hall","place","Hall.place",gD 26 2,["self","room"]⟩
def iM:Df:=⟨some "Hall","place_for","Hall.place_for",gD 26 3,["self","names","room"]⟩
def pQ:Df:=⟨some "Hall","come","Hall.come",gD 26 5,["self","who"]⟩
def gR:Df:=⟨some "Room","__init__","Room.__init__",gD 24 0,["self","who"]⟩
def jD:Df:=⟨some "Hall","__init__","Hall.__init__",gD 26 0,["self"]⟩
def ny:Df:=⟨some "Hall","found","Hall.found",gD 26 8,["self","who","room"]⟩
def eX:Df:=⟨some "Room","see_to_owner","Room.see_to_owner",gD 24 5,["self"]⟩
def jE:Df:=⟨some "Room","may_give","Room.may_give",gD 24 9,["self","who","whom","role"]⟩
def pR:Df:=⟨some "Room","role","Room.role",gD 24 18,["self","who","whom","role"]⟩
def nz:Df:=⟨some "Room","enter","Room.enter",gD 24 14,["self","who"]⟩
def nA:Df:=⟨some "Room","leave","Room.leave",gD 24 15,["self","who"]⟩
def nC:Df:=⟨some "Hall","enter","Hall.enter",gD 26 9,["self","who","room"]⟩
def nD:Df:=⟨some "Hall","leave","Hall.leave",gD 26 10,["self","who","room"]⟩
def pS:Df:=⟨some "Hall","role","Hall.role",gD 26 13,["self","who","room","whom","role"]⟩
def lU:Df:=⟨some "Hall","people","Hall.people",gD 26 6,["self"]⟩
def nE:Df:=⟨some "Hall","rooms","Hall.rooms",gD 26 7,["self"]⟩
def nF:Df:=⟨some "Room","roles","Room.roles",gD 24 26,["self"]⟩
def pT:Df:=⟨some "Room","rows","Room.rows",gD 24 30,["self"]⟩
def lV:Df:=⟨some "Room","barred","Room.barred",gD 24 28,["self"]⟩
def nG:Df:=⟨some "Room","asked","Room.asked",gD 24 29,["self"]⟩
def kL:Df:=⟨some "Room","setting","Room.setting",gD 24 27,["self","what"]⟩
def nH:Df:=⟨some "Hall","roles","Hall.roles",gD 26 21,["self","room"]⟩
def pU:Df:=⟨some "Hall","rows","Hall.rows",gD 26 25,["self","room"]⟩
def lW:Df:=⟨some "Hall","barred","Hall.barred",gD 26 23,["self","room"]⟩
def nJ:Df:=⟨some "Hall","asked","Hall.asked",gD 26 24,["self","room"]⟩
def kM:Df:=⟨some "Hall","setting","Hall.setting",gD 26 22,["self","room","what"]⟩
def yd:Df:=⟨none,"_law_rank","_law_rank",top 36,["_law_room","_law_who"]⟩
def ye:Df:=⟨none,"_law_word","_law_word",top 32,["_law_kept"]⟩
def uQ:Df:=⟨none,"_law_begin","_law_begin",top 35,["_law_people"]⟩
def A7:Df:=⟨none,"_law_row","_law_row",top 42,["_law_room","_law_who","_law_parts"]⟩
def qH:Df:=⟨none,"_law_enter","_law_enter",top 43,["_law_room","_law_who","_law_word_here"]⟩
def t_:Df:=⟨none,"_law_quit","_law_quit",top 44,["_law_room","_law_who","_law_number"]⟩
def A8:Df:=⟨none,"_law_mix","_law_mix",top 29,["_law_cell_here","_law_prime","_law_many"]⟩
def yf:Df:=⟨none,"_law_cell","_law_cell",top 28,["_law_script","_law_k"]⟩
def ki:Df:=⟨none,"_law_owned","_law_owned",top 45,["_law_room"]⟩
def lA:Df:=⟨none,"_law_changed","_law_changed",top 47,["_law_room","_law_deed_here"]⟩
def yg:Df:=⟨none,"_law_done","_law_done",top 46,["_law_model","_law_deed_here"]⟩
def iN:Df:=⟨none,"_law_refused_deed","_law_refused_deed",top 41,["_law_room","_law_deed_here"]⟩
def jo:Df:=⟨none,"_law_refused","_law_refused",top 39,["_law_model","_law_deed_here"]⟩
def ua:Df:=⟨none,"_law_deed","_law_deed",top 49,["_law_cell_here","_law_model","_law_words_here"]⟩
def yh:Df:=⟨none,"_law_call","_law_call",top 33,["_law_hall_here","_law_deed_here"]⟩
def yi:Df:=⟨none,"_law_told","_law_told",top 34,["_law_hall_here","_law_deed_here"]⟩
def ub:Df:=⟨none,"_law_same","_law_same",top 30,["_law_found","_law_due"]⟩
def yj:Df:=⟨none,"_law_both","_law_both",top 48,["_law_hall_here","_law_model","_law_deed_here"]⟩
def yk:Df:=⟨none,"_law_hall","_law_hall",top 50,["_law_hall_here","_law_model"]⟩
def mJ:Df:=⟨none,"_law_is_as","_law_is_as",top 51,["_law_hall_here","_law_model"]⟩
def Di:Df:=⟨none,"law","law",top 52,["_law_script"]⟩
def DS:List Df:=[A6,il,iK,lT,iL,kK,gX,ip,iM,pQ,gR,jD,ny,eX,jE,pR,nz,nA,nC,nD,pS,lU,nE,nF,pT,lV,nG,kL,nH,pU,lW,nJ,kM,yd,ye,uQ,A7,qH,t_,A8,yf,ki,lA,yg,iN,jo,ua,yh,yi,ub,yj,yk,mJ,Di]
structure P8(K:Frag)(w:World)(mg:Str->Option Value):Prop where
 d:∀(i:Nat) {e:Df},DS[i]?=some e->e.Ok K mg
 ValueError:mg "ValueError"=none
 all:mg "all"=none
 bool:mg "bool"=none
 dict:mg "dict"=none
 int:mg "int"=none
 isinstance:mg "isinstance"=none
 len:mg "len"=none
 list:mg "list"=none
 max:mg "max"=none
 min:mg "min"=none
 range:mg "range"=none
 set:mg "set"=none
 sorted:mg "sorted"=none
 str:mg "str"=none
 tuple:mg "tuple"=none
 zip:mg "zip"=none
 A9:zI K (il.adr K)
 TC:Ig K mg "Hall"
 TF:Ig K mg "Room"
 Oz:Ko K mg "ROLES" [.str "guest",.str "speaker",.str "keeper",.str "owner"]
 yl:iA K ["Room"] "banned"
 ym:iA K ["Room"] "chosen"
 uR:iA K ["Room"] "entries"
 OA:iA K ["Hall"] "hands"
 qI:iA K ["Room"] "invited"
 GD:iA K ["Room"] "log"
 mK:iA K ["Hall"] "persons"
 jq:iA K ["Hall"] "places"
 eY:iA K ["Room"] "ranks"
 A_:iA K ["Room"] "read_marks"
 yW:iA K ["Room"] "said_by_key"
 Lp:Av K w mg "SETTINGS" [("door",.tup [.str "open",.str "asked"]),("voice",.tup [.str "all",.str "some"]),("past",.tup [.str "shown",.str "hidden"])]
 EY:AN K w mg "SETTINGS" ["door","voice","past"]
 Lq:iB K (.ref (clsAt K "Barred")) [("Known",false),("NoPerson",false),("NoRoom",false),("NotIn",false),("NotAsked",false),("Barred",true),("NoRight",false),("NoRow",false),("NoHand",false),("NoLine",false)]
 OB:iB K (.ref (clsAt K "Known")) [("Known",true),("NoPerson",false),("NoRoom",false),("NotIn",false),("NotAsked",false),("Barred",false),("NoRight",false),("NoRow",false),("NoHand",false),("NoLine",false)]
 Lr:iB K (.ref (clsAt K "NoHand")) [("Known",false),("NoPerson",false),("NoRoom",false),("NotIn",false),("NotAsked",false),("Barred",false),("NoRight",false),("NoRow",false),("NoHand",true),("NoLine",false)]
 Ls:iB K (.ref (clsAt K "NoLine")) [("Known",false),("NoPerson",false),("NoRoom",false),("NotIn",false),("NotAsked",false),("Barred",false),("NoRight",false),("NoRow",false),("NoHand",false),("NoLine",true)]
 EZ:iB K (.ref (clsAt K "NoPerson")) [("Known",false),("NoPerson",true),("NoRoom",false),("NotIn",false),("NotAsked",false),("Barred",false),("NoRight",false),("NoRow",false),("NoHand",false),("NoLine",false)]
 Il:iB K (.ref (clsAt K "NoRight")) [("Known",false),("NoPerson",false),("NoRoom",false),("NotIn",false),("NotAsked",false),("Barred",false),("NoRight",true),("NoRow",false),("NoHand",false),("NoLine",false)]
 Lu:iB K (.ref (clsAt K "NoRoom")) [("Known",false),("NoPerson",false),("NoRoom",true),("NotIn",false),("NotAsked",false),("Barred",false),("NoRight",false),("NoRow",false),("NoHand",false),("NoLine",false)]
 OC:iB K (.ref (clsAt K "NoRow")) [("Known",false),("NoPerson",false),("NoRoom",false),("NotIn",false),("NotAsked",false),("Barred",false),("NoRight",false),("NoRow",true),("NoHand",false),("NoLine",false)]
 E1:iB K (.ref (clsAt K "NotAsked")) [("Known",false),("NoPerson",false),("NoRoom",false),("NotIn",false),("NotAsked",true),("Barred",false),("NoRight",false),("NoRow",false),("NoHand",false),("NoLine",false)]
 OD:iB K (.ref (clsAt K "NotIn")) [("Known",false),("NoPerson",false),("NoRoom",false),("NotIn",true),("NotAsked",false),("Barred",false),("NoRight",false),("NoRow",false),("NoHand",false),("NoLine",false)]
 Ba:iB K (.type "ValueError") [("Known",true),("NoPerson",true),("NoRoom",true),("NotIn",true),("NotAsked",true),("Barred",true),("NoRight",true),("NoRow",true),("NoHand",true),("NoLine",true)]
 Im:mg "Barred"=some (.ref (clsAt K "Barred"))
 Lv:mg "Known"=some (.ref (clsAt K "Known"))
 Io:mg "NoHand"=some (.ref (clsAt K "NoHand"))
 Ip:mg "NoLine"=some (.ref (clsAt K "NoLine"))
 Dj:mg "NoPerson"=some (.ref (clsAt K "NoPerson"))
 E2:mg "NoRight"=some (.ref (clsAt K "NoRight"))
 Iq:mg "NoRoom"=some (.ref (clsAt K "NoRoom"))
 Lw:mg "NoRow"=some (.ref (clsAt K "NoRow"))
 Dk:mg "NotAsked"=some (.ref (clsAt K "NotAsked"))
 Lx:mg "NotIn"=some (.ref (clsAt K "NotIn"))
 Dl:qA K mg "TalkError" ["Known","NoPerson","NoRoom","NotIn","NotAsked","Barred","NoRight","NoRow","NoHand","NoLine"]
 Ly:qY K mg "Barred"
 vY:qY K mg "Known"
 E3:qY K mg "NoPerson"
 Ir:qY K mg "NoRight"
 Lz:qY K mg "NoRoom"
 E4:qY K mg "NotAsked"
 OE:qY K mg "NotIn"
abbrev CS(n:Nat)(d:Df)(a b:Nat):={F:bO->Ab->Rz Out//∀{P:Program} {w:World} {K:Frag} {mg:Str->Option Value} {base:Heap},P8 K w mg->x_ P w K mg base (uF P w) n d (ve K (fG a b F))}
abbrev CP(n:Nat)(d:Df)(a b:Nat):={F:bO->Rs Out//∀{P:Program} {w:World} {K:Frag} {mg:Str->Option Value} {base:Heap},P8 K w mg->x_ P w K mg base lX n d (spT K (qU a b F))}
abbrev CZ(n:Nat)(d:Df)(a b:Nat):={F:bO->Ab->Rz Out//∀{P:Program} {w:World} {K:Frag} {mg:Str->Option Value} {base:Heap},P8 K w mg->x_ P w K mg base lX n d (spT K (Cp a b F))}
abbrev CR(n:Nat)(d:Df)(a b:Nat)(r:List Tr->Rs Tr):={F:bO->Rs Out//∀{P:Program} {w:World} {K:Frag} {mg:Str->Option Value} {base:Heap} {k:Nat},P8 K w mg->n<=k->x_ P w K mg base lX k d (spT K r)->x_ P w K mg base lX (k+1) d (spT K (qU a b F))}
abbrev KS(n:Nat)(d:Df)(m:List Tr->Ab->Rz Tr):Prop:=∀{P:Program} {w:World} {K:Frag} {mg:Str->Option Value} {base:Heap},P8 K w mg->x_ P w K mg base (uF P w) n d (ve K m)
abbrev KP(n:Nat)(d:Df)(m:List Tr->Rs Tr):Prop:=∀{P:Program} {w:World} {K:Frag} {mg:Str->Option Value} {base:Heap},P8 K w mg->x_ P w K mg base lX n d (spT K m)
def GF:CP 1 A6 1 1:=⟨_,fun T=>jz ["role"] (T.d 0 rfl) fun _ _ _ _ _ _ _ hr=>(cn (cC (XJ (aY hr) T.Oz (aN 0))))⟩
def Bc:=qU 1 1 GF.1
theorem vZ:KP 1 A6 Bc:=GF.2
def jZ:CP 2 il 2 2:=⟨_,fun T=>jz ["self","who"] (T.d 1 rfl) fun _ _ _ _ _ _ _ hr=>(cn (cC (bZ (aO (P4 (eE (vZ T) hr (aO (bR (aY hr) (dh T.eY (aN 0)) (aN 1)) aX))) (aO (bR (aY hr) (dh T.uR (aN 0)) (aN 1)) aX)))))⟩
def iq:=qU 2 2 jZ.1
theorem Be:KP 2 il iq:=jZ.2
def gf:CS 1 iK 4 5:=⟨_,fun T=>ig ["self","who","word","parts","number"] (T.d 2 rfl) fun nd _ _ _ _ _ _ hr=>(bh (gB (i:=4) (bg (fb hX (cG iG T.len (aO (dh T.GD (aN 0)) aX)) bz)) nd) (bh (cH (zP mV p5 iC uH (nr T.GD (aT (aN 0))) (aV (bg (fb hX (bZ (aO (aN 4) (aO (aN 1) (aO (aN 2) aX)))) (aN 3))) bJ))) (bN (eM (aT (aN 4))))))⟩
def mL:=fG 4 5 gf.1
theorem iO:KS 1 iK mL:=gf.2
def jb:CS 2 lT 4 4:=⟨_,fun T=>ig ["self","who","word","role"] (T.d 3 rfl) fun _ _ _ _ _ _ _ hr=>(bh (ib (aY hr) (nr T.uR (aT (aN 0))) (aT (aN 1)) (dN (iO T) hr (aT (aN 0)) (aV (aT (aN 1)) (aV (aT (aN 2)) (aV (bg (bZ aX)) bJ))))) (bh (ib (aY hr) (nr T.eY (aT (aN 0))) (aT (aN 1)) (aT (aN 3))) (bN (cH (S9 (nr T.qI (aT (aN 0))) (aT (aN 1)) (bg fN))))))⟩
def rg:=fG 4 4 jb.1
theorem rh:KS 2 lT rg:=jb.2
def gg:CS 2 iL 4 4:=⟨_,fun T=>ig ["self","who","whom","role"] (T.d 4 rfl) fun _ _ _ _ _ _ _ hr=>(bh (cH (dN (iO T) hr (aT (aN 0)) (aV (aT (aN 1)) (aV (bg aR) (aV (bg (bZ (aO (aN 2) (aO (aN 3) aX)))) bJ))))) (bN (ib (aY hr) (nr T.eY (aT (aN 0))) (aT (aN 2)) (aT (aN 3)))))⟩
def mM:=fG 4 4 gg.1
theorem mO:KS 2 iL mM:=gg.2
def ir:CS 1 kK 2 2:=⟨_,fun T=>ig ["self","who"] (T.d 5 rfl) fun _ _ _ _ _ _ _ hr=>(bN (fm (ck (bA (tR (aY hr)) (aN 1) (dh T.eY (aN 0)))) (bN (ja T.OE (aV (bg (lQ (dM (iI (aN 1)) (dM aR rf)))) bJ))) dr))⟩
def kN:=fG 2 2 ir.1
theorem kO:KS 1 kK kN:=ir.2
def du:CS 1 gX 2 3:=⟨_,fun T=>ig ["self","names","name"] (T.d 6 rfl) fun nd _ _ _ _ _ _ hr=>(bN (Gp (nT (aN 1)) (fk 2 nd) (fA 2) (bN (fm (ck (bA (tR (aY hr)) (aN 2) (dh T.mK (aN 0)))) (bN (ja T.E3 (aV (bg (lQ (dM aR (dM (iI (aN 2)) rf)))) bJ))) dr))))⟩
def gY:=fG 2 3 du.1
theorem kP:KS 1 gX gY:=du.2
def j6:CS 1 ip 2 2:=⟨_,fun T=>ig ["self","room"] (T.d 7 rfl) fun _ _ _ _ _ _ _ hr=>(bh (fm (ck (bA (tR (aY hr)) (aN 1) (dh T.jq (aN 0)))) (bN (ja T.Lz (aV (bg (lQ (dM aR (dM (iI (aN 1)) rf)))) bJ))) dr) (bN (eM (tY (aY hr) (nr T.jq (aT (aN 0))) (aT (aN 1))))))⟩
def uc:=fG 2 2 j6.1
theorem Bf:KS 1 ip uc:=j6.2
def d6:CS 2 iM 3 3:=⟨_,fun T=>ig ["self","names","room"] (T.d 8 rfl) fun _ _ _ _ _ _ _ hr=>(bh (cH (dN (kP T) hr (aT (aN 0)) (aV (aT (aN 1)) bJ))) (bN (eM (dN (Bf T) hr (aT (aN 0)) (aV (aT (aN 2)) bJ)))))⟩
def iP:=fG 3 3 d6.1
theorem iQ:KS 2 iM iP:=d6.2
def vm:CS 1 pQ 2 2:=⟨_,fun T=>ig ["self","who"] (T.d 9 rfl) fun _ _ _ _ _ _ _ hr=>(bh (fm (ck (bA (nc (aY hr)) (aN 1) (dh T.mK (aN 0)))) (bN (ja T.vY (aV (bg (lQ (dM (iI (aN 1)) (dM aR rf)))) bJ))) dr) (bN (ib (aY hr) (nr T.mK (aT (aN 0))) (aT (aN 1)) (bg yV))))⟩
def Dm:=fG 2 2 vm.1
theorem vn:KS 1 pQ Dm:=vm.2
def nU:CS 3 gR 2 2:=⟨_,fun T=>ig ["self","who"] (T.d 10 rfl) fun _ _ _ _ _ _ _ hr=>(bh (pN T.GD (aT (aN 0)) (fP (x8 aX))) (bh (pN T.eY (aT (aN 0)) (fP lO)) (bh (pN T.uR (aT (aN 0)) (fP lO)) (bh (pN T.ym (aT (aN 0)) (fP (x9 (Gg rfl) T.dict (aO (Ie (N':=["what"]) (ix:=[none]) (gz.of (N:=["self","who"]) (sc:=bC gR.st) rfl rfl (by decide+kernel)) (S5 T.EY) ⟨fun s H ex=>⟨(fk 0 (by show List.Nodup (["what"]:List Str);decide+kernel)),zO,(bZ (aO (aN 0) (aO (bR (aY hr) (XG T.Lp (aN 0)) bz) aX)))⟩⟩ (fA 0)) aX)))) (bh (pN T.yl (aT (aN 0)) (fP lO)) (bh (pN T.qI (aT (aN 0)) (fP lO)) (bh (pN T.A_ (aT (aN 0)) (fP lO)) (bh (pN T.yW (aT (aN 0)) (fP lO)) (bN (cH (dN (rh T) hr (aT (aN 0)) (aV (aT (aN 1)) (aV (bg aR) (aV (bg aR) bJ))))))))))))))⟩
def vE:=fG 2 2 nU.1
theorem vF:KS 3 gR vE:=nU.2
def nV:CS 1 jD 1 1:=⟨_,fun T=>ig ["self"] (T.d 11 rfl) fun _ _ _ _ _ _ _ hr=>(bh (pN T.mK (aT (aN 0)) (fP lO)) (bh (pN T.jq (aT (aN 0)) (fP lO)) (bN (pN T.OA (aT (aN 0)) (fP (x8 aX))))))⟩
def nW:=fG 1 1 nV.1
theorem vG:KS 1 jD nW:=nV.2
def ud:CS 5 ny 3 3:=⟨_,fun T=>ig ["self","who","room"] (T.d 12 rfl) fun _ _ _ _ _ _ _ hr=>(bh (cH (dN (kP T) hr (aT (aN 0)) (aV (bg (bZ (aO (aN 1) aX))) bJ))) (bh (fm (ck (bA (nc (aY hr)) (aN 2) (dh T.jq (aN 0)))) (bN (ja T.vY (aV (bg (lQ (dM aR (dM (iI (aN 2)) (dM aR rf))))) bJ))) dr) (bN (ib (aY hr) (nr T.jq (aT (aN 0))) (aT (aN 2)) (Te (vF T) T.TF hr (aV (aT (aN 1)) bJ))))))⟩
def Bg:=fG 3 3 ud.1
theorem Bh:KS 5 ny Bg:=ud.2
def eZ:CS 4 eX 1 3:=⟨_,fun T=>ig ["self","owners","heir"] (T.d 13 rfl) fun nd _ _ _ _ _ _ hr=>(bh (K2 (i:=1) (N':=["name","self"]) (ix:=[none,some 0]) (gz.of (N:=["self","owners","heir"]) (sc:=bC eX.st) rfl rfl (by decide+kernel)) (Gn (dh T.eY (aN 0))) ⟨fun s H ex=>⟨(fk 0 (by show List.Nodup (["name","self"]:List Str);decide+kernel)),(vi (bA (dO (dq hr)) (bR (aY hr) (dh T.eY (aN 1)) (aN 0)) aR)),(aN 0)⟩⟩ (fA 0) nd) (bN (fm (ck (eK (mH (bA RI (cG iG T.len (aO (dh T.eY (aN 0)) aX)) bz) (iH (bA (dO (dq hr)) (cG iG T.len (aO (aN 1) aX)) bz))))) (bh (gB (i:=2) (bg (Lc (Be T) T.A9 hr T.min (eD (NT rfl) T.list (aO (dh T.eY (aN 0)) aX)) (aN 0))) nd) (bN (cH (dN (mO T) hr (aT (aN 0)) (aV (aT (aN 2)) (aV (aT (aN 2)) (aV (bg aR) bJ))))))) dr)))⟩
def jL:=fG 1 3 eZ.1
theorem gx:KS 4 eX jL:=eZ.2
def gS:CP 2 jE 4 4:=⟨_,fun T=>jz ["self","who","whom","role"] (T.d 14 rfl) fun _ _ _ _ _ _ _ hr=>(bK (fO (bA (dO (dq hr)) (bR (aY hr) (dh T.eY (aN 0)) (aN 1)) aR) (cn (cC (zN aad (cG (PY rfl) T.max (aO (eE (vZ T) hr (aO (bR (aY hr) (dh T.eY (aN 0)) (aN 2)) aX)) (aO (eE (vZ T) hr (aO (aN 3) aX)) aX))) (eE (vZ T) hr (aO aR aX))))) dF) (cn (cC (zN (dO (dq hr)) (bR (aY hr) (dh T.eY (aN 0)) (aN 1)) aR))))⟩
def nX:=qU 4 4 gS.1
theorem vH:KP 2 jE nX:=gS.2
def g6:CS 5 pR 4 4:=⟨_,fun T=>ig ["self","who","whom","role"] (T.d 15 rfl) fun _ _ _ _ _ _ _ hr=>(bh (cH (dN (kO T) hr (aT (aN 0)) (aV (aT (aN 1)) bJ))) (bh (cH (dN (kO T) hr (aT (aN 0)) (aV (aT (aN 2)) bJ))) (bh (fm (ck (x6 (mG (jA (vH T) hr (aN 0) (aO (aN 1) (aO (aN 2) (aO (aN 3) aX))))))) (bN (ja T.Ir (aV (bg (lQ (dM (iI (aN 1)) (dM aR (dM (iI (aN 2)) (dM aR (dM (iI (aN 3)) rf))))))) bJ))) dr) (bh (fm (ck (bA (dO (dq hr)) (bR (aY hr) (dh T.eY (aN 0)) (aN 2)) (aN 3))) (bN (ja T.vY (aV (bg (lQ (dM (iI (aN 2)) (dM aR (dM (iI (aN 3)) rf))))) bJ))) dr) (bh (cH (dN (mO T) hr (aT (aN 0)) (aV (aT (aN 1)) (aV (aT (aN 2)) (aV (aT (aN 3)) bJ))))) (bN (cH (AW (gx T) hr (aT (aN 0))))))))))⟩
def fS:=fG 4 4 g6.1
theorem Dn:KS 5 pR fS:=g6.2
def dC:CS 5 nz 2 2:=⟨_,fun T=>ig ["self","who"] (T.d 16 rfl) fun _ _ _ _ _ _ _ hr=>(bh (fm (ck (bA (nc (aY hr)) (aN 1) (dh T.eY (aN 0)))) (bN (ja T.vY (aV (bg (lQ (dM (iI (aN 1)) (dM aR rf)))) bJ))) dr) (bh (fm (ck (bA (nc (aY hr)) (aN 1) (dh T.yl (aN 0)))) (bN (ja T.Ly (aV (bg (lQ (dM (iI (aN 1)) (dM aR rf)))) bJ))) dr) (bh (fm (ck (eK (mH (bA (dO (dq hr)) (bR (aY hr) (dh T.ym (aN 0)) aR) aR) (iH (bA (tR (aY hr)) (aN 1) (dh T.qI (aN 0))))))) (bN (ja T.E4 (aV (bg (lQ (dM (iI (aN 1)) (dM aR rf)))) bJ))) dr) (bh (cH (dN (rh T) hr (aT (aN 0)) (aV (aT (aN 1)) (aV (bg aR) (aV (bg aR) bJ))))) (bN (cH (AW (gx T) hr (aT (aN 0)))))))))⟩
def eI:=fG 2 2 dC.1
theorem Bi:KS 5 nz eI:=dC.2
def gi:CS 5 nA 2 2:=⟨_,fun T=>ig ["self","who"] (T.d 17 rfl) fun _ _ _ _ _ _ _ hr=>(bh (cH (dN (kO T) hr (aT (aN 0)) (aV (aT (aN 1)) bJ))) (bh (cH (dN (iO T) hr (aT (aN 0)) (aV (aT (aN 1)) (aV (bg aR) (aV (bg (bZ aX)) bJ))))) (bh (cH (K1 (nr T.eY (aT (aN 0))) (aT (aN 1)))) (bN (cH (AW (gx T) hr (aT (aN 0))))))))⟩
def gj:=fG 2 2 gi.1
theorem Bj:KS 5 nA gj:=gi.2
def j7:CS 6 nC 3 3:=⟨_,fun T=>ig ["self","who","room"] (T.d 18 rfl) fun _ _ _ _ _ _ _ hr=>(bN (cH (dN (Bi T) hr (dN (iQ T) hr (aT (aN 0)) (aV (bg (bZ (aO (aN 1) aX))) (aV (aT (aN 2)) bJ))) (aV (aT (aN 1)) bJ))))⟩
def nK:=fG 3 3 j7.1
theorem Bk:KS 6 nC nK:=j7.2
def j8:CS 6 nD 3 3:=⟨_,fun T=>ig ["self","who","room"] (T.d 19 rfl) fun _ _ _ _ _ _ _ hr=>(bN (cH (dN (Bj T) hr (dN (iQ T) hr (aT (aN 0)) (aV (bg (bZ (aO (aN 1) aX))) (aV (aT (aN 2)) bJ))) (aV (aT (aN 1)) bJ))))⟩
def nL:=fG 3 3 j8.1
theorem Bl:KS 6 nD nL:=j8.2
def lB:CS 6 pS 5 5:=⟨_,fun T=>ig ["self","who","room","whom","role"] (T.d 20 rfl) fun _ _ _ _ _ _ _ hr=>(bN (cH (dN (Dn T) hr (dN (iQ T) hr (aT (aN 0)) (aV (bg (bZ (aO (aN 1) (aO (aN 3) aX)))) (aV (aT (aN 2)) bJ))) (aV (aT (aN 1)) (aV (aT (aN 3)) (aV (aT (aN 4)) bJ))))))⟩
def Dp:=fG 5 5 lB.1
theorem Dq:KS 6 pS Dp:=lB.2
def jc:CP 1 lU 1 1:=⟨_,fun T=>jz ["self"] (T.d 21 rfl) fun _ _ _ _ _ _ _ hr=>(cn (cC (eD gP T.tuple (aO (cG (jm rfl) T.sorted (aO (dh T.mK (aN 0)) aX)) aX))))⟩
def ri:=qU 1 1 jc.1
theorem yX:KP 1 lU ri:=jc.2
def j9:CP 1 nE 1 1:=⟨_,fun T=>jz ["self"] (T.d 22 rfl) fun _ _ _ _ _ _ _ hr=>(cn (cC (eD gP T.tuple (aO (cG (jm rfl) T.sorted (aO (dh T.jq (aN 0)) aX)) aX))))⟩
def ue:=qU 1 1 j9.1
theorem Bm:KP 1 nE ue:=j9.2
def gU:CP 1 ip 2 2:=⟨_,fun T=>jz ["self","room"] (T.d 7 rfl) fun _ _ _ _ _ _ _ hr=>(bK (fO (bA (tR (aY hr)) (aN 1) (dh T.jq (aN 0))) (cn XO) dF) (cn (cC (bR (aY hr) (dh T.jq (aN 0)) (aN 1)))))⟩
def nY:=qU 2 2 gU.1
theorem fu:KP 1 ip nY:=gU.2
def j_:CP 1 nF 1 1:=⟨_,fun T=>jz ["self"] (T.d 23 rfl) fun _ _ _ _ _ _ _ hr=>(cn (cC (eD gP T.tuple (aO (K7 T.sorted (dh T.eY (aN 0))) aX))))⟩
def uf:=qU 1 1 j_.1
theorem Bo:KP 1 nF uf:=j_.2
def lC:CP 1 pT 1 1:=⟨_,fun T=>jz ["self"] (T.d 24 rfl) fun _ _ _ _ _ _ _ hr=>(cn (cC (eD gP T.tuple (aO (dh T.GD (aN 0)) aX))))⟩
def vo:=qU 1 1 lC.1
theorem Dr:KP 1 pT vo:=lC.2
def jd:CP 1 lV 1 1:=⟨_,fun T=>jz ["self"] (T.d 25 rfl) fun _ _ _ _ _ _ _ hr=>(cn (cC (eD gP T.tuple (aO (cG (jm rfl) T.sorted (aO (dh T.yl (aN 0)) aX)) aX))))⟩
def rj:=qU 1 1 jd.1
theorem yY:KP 1 lV rj:=jd.2
def kc:CP 1 nG 1 1:=⟨_,fun T=>jz ["self"] (T.d 26 rfl) fun _ _ _ _ _ _ _ hr=>(cn (cC (eD gP T.tuple (aO (cG (jm rfl) T.sorted (aO (dh T.qI (aN 0)) aX)) aX))))⟩
def ug:=qU 1 1 kc.1
theorem Bp:KP 1 nG ug:=kc.2
def iu:CP 1 kL 2 2:=⟨_,fun T=>jz ["self","what"] (T.d 27 rfl) fun _ _ _ _ _ _ _ hr=>(cn (cC (bR (aY hr) (dh T.ym (aN 0)) (aN 1))))⟩
def pV:=qU 2 2 iu.1
theorem yn:KP 1 kL pV:=iu.2
def ke:CP 2 nH 2 2:=⟨_,fun T=>jz ["self","room"] (T.d 28 rfl) fun _ _ _ _ _ _ _ hr=>(cn (cC (qC (Bo T) hr (jA (fu T) hr (aN 0) (aO (aN 1) aX)))))⟩
def uh:=qU 2 2 ke.1
theorem Bq:KP 2 nH uh:=ke.2
def lD:CP 2 pU 2 2:=⟨_,fun T=>jz ["self","room"] (T.d 29 rfl) fun _ _ _ _ _ _ _ hr=>(cn (cC (qC (Dr T) hr (jA (fu T) hr (aN 0) (aO (aN 1) aX)))))⟩
def vp:=qU 2 2 lD.1
theorem Ds:KP 2 pU vp:=lD.2
def je:CP 2 lW 2 2:=⟨_,fun T=>jz ["self","room"] (T.d 30 rfl) fun _ _ _ _ _ _ _ hr=>(cn (cC (qC (yY T) hr (jA (fu T) hr (aN 0) (aO (aN 1) aX)))))⟩
def rn:=qU 2 2 je.1
theorem yZ:KP 2 lW rn:=je.2
def kg:CP 2 nJ 2 2:=⟨_,fun T=>jz ["self","room"] (T.d 31 rfl) fun _ _ _ _ _ _ _ hr=>(cn (cC (qC (Bp T) hr (jA (fu T) hr (aN 0) (aO (aN 1) aX)))))⟩
def ui:=qU 2 2 kg.1
theorem Br:KP 2 nJ ui:=kg.2
def iw:CP 2 kM 3 3:=⟨_,fun T=>jz ["self","room","what"] (T.d 32 rfl) fun _ _ _ _ _ _ _ hr=>(cn (cC (jA (yn T) hr (jA (fu T) hr (aN 0) (aO (aN 1) aX)) (aO (aN 2) aX))))⟩
def pW:=qU 3 3 iw.1
theorem yo:KP 2 kM pW:=iw.2
def mP:CP 1 yd 2 2:=⟨_,fun T=>jz ["_law_room","_law_who"] (T.d 33 rfl) fun _ _ _ _ _ _ _ hr=>(cn (cC (C8 (bA (nc (aY hr)) (aN 1) (bR (aY hr) (aN 0) aR)) (XM (aY hr) (aO aR (aO aR (aO aR (aO aR aX)))) (bR (aY hr) (bR (aY hr) (aN 0) aR) (aN 1))) (P4 bz))))⟩
def yp:=qU 2 2 mP.1
theorem uj:KP 1 yd yp:=mP.2
def Dt:CP 1 ye 1 3:=⟨_,fun T=>jz ["_law_kept","_law_kinds","_law_words_here"] (T.d 34 rfl) fun nd _ _ _ _ _ _ hr=>(bK (fc (i:=1) (pJ (aO (lP T.OB T.Lv T.isinstance (aN 0)) (aO (lP T.EZ T.Dj T.isinstance (aN 0)) aX))) nd) (bK (fc (i:=1) (fb hX (aN 1) (pJ (aO (lP T.Lu T.Iq T.isinstance (aN 0)) (aO (lP T.OD T.Lx T.isinstance (aN 0)) aX)))) nd) (bK (fc (i:=1) (fb hX (aN 1) (pJ (aO (lP T.E1 T.Dk T.isinstance (aN 0)) (aO (lP T.Lq T.Im T.isinstance (aN 0)) aX)))) nd) (bK (fc (i:=1) (fb hX (aN 1) (pJ (aO (lP T.Il T.E2 T.isinstance (aN 0)) aX))) nd) (bK (fc (i:=1) (fb hX (aN 1) (pJ (aO (lP T.OC T.Lw T.isinstance (aN 0)) (aO (lP T.Lr T.Io T.isinstance (aN 0)) (aO (lP T.Ls T.Ip T.isinstance (aN 0)) aX))))) nd) (bK (fc (i:=2) (bZ (aO aR (aO aR (aO aR (aO aR (aO aR (aO aR aX))))))) nd) (bK (fc (i:=2) (fb hX (aN 2) (bZ (aO aR (aO aR (aO aR (aO aR aX)))))) nd) (bK (fO (eK (C7 (bA (Hn (dq hr)) (XI PySem.F.slot_list_count PySem.F.type_list_count (Sq (aY hr)) (aN 1) yV) bz) (vh (x6 (mG (Ta T.Ba T.ValueError T.isinstance (aN 0))))))) (cn (cC aR)) dF) (cn (cC (bR (aY hr) (aN 2) (XI PySem.F.slot_list_index PySem.F.type_list_index (So (aY hr)) (aN 1) yV))))))))))))⟩
def yq:=qU 1 3 Dt.1
theorem LA:KP 1 ye yq:=Dt.2
def zS:CS 1 uQ 1 1:=⟨_,fun T=>ig ["_law_people"] (T.d 35 rfl) fun _ _ _ _ _ _ _ hr=>(bN (eM (K8 (nu (aT aR) (fP (x9 NJ T.list (aO (aN 0) aX))) (nu (aT aR) (fP lO) Kv)))))⟩
def zT:=fG 1 1 zS.1
theorem Iu:KS 1 uQ zT:=zS.2
def v5:CS 1 A7 3 3:=⟨_,fun T=>ig ["_law_room","_law_who","_law_parts"] (T.d 36 rfl) fun _ _ _ _ _ _ _ hr=>(bh (cH (zP mV p5 iC uH (tY (aY hr) (aT (aN 0)) (bg aR)) (aV (bg (fb hX (bZ (aO (fb hX (cG iG T.len (aO (bR (aY hr) (aN 0) aR) aX)) bz) (aO (aN 1) aX))) (aN 2))) bJ))) (bN (eM (bg (cG iG T.len (aO (bR (aY hr) (aN 0) aR) aX))))))⟩
def Bs:=fG 3 3 v5.1
theorem uk:KS 1 A7 Bs:=v5.2
def qJ:CS 2 qH 3 5:=⟨_,fun T=>ig ["_law_room","_law_who","_law_word_here","_law_number","_law_first"] (T.d 37 rfl) fun nd _ _ _ _ _ _ hr=>(bh (gB (i:=3) (gC (uk T) hr (aV (aT (aN 0)) (aV (aT (aN 1)) (aV (bg (bZ (aO (aN 2) aX))) bJ)))) nd) (bh (gB (i:=4) (bg (C8 (bA (dO (dq hr)) (bR (aY hr) (aN 0) aR) aR) bz (aN 3))) nd) (bh (cH (zP mV p5 iC uH (tY (aY hr) (aT (aN 0)) (bg aR)) (aV (bg (bZ (aO (aN 1) (aO (aN 4) (aO (aN 3) (aO fN aX)))))) bJ))) (bh (ib (aY hr) (tY (aY hr) (aT (aN 0)) (bg aR)) (aT (aN 1)) (bg aR)) (bN (ib (aY hr) (aT (aN 0)) (bg aR) (fP (S7 (N':=["_law_one","_law_who"]) (ix:=[none,some 1]) (gz.of (N:=["_law_room","_law_who","_law_word_here","_law_number","_law_first"]) (sc:=bC qH.st) rfl rfl (by decide+kernel)) (nT (bR (aY hr) (aN 0) aR)) ⟨fun s H ex=>⟨(fk 0 (by show List.Nodup (["_law_one","_law_who"]:List Str);decide+kernel)),(vi (bA (Hn (dq hr)) (aN 0) (aN 1))),(aN 0)⟩⟩ (fA 0)))))))))⟩
def uS:=fG 3 5 qJ.1
theorem zU:KS 2 qH uS:=qJ.2
def um:CS 1 t_ 3 3:=⟨_,fun T=>ig ["_law_room","_law_who","_law_number"] (T.d 38 rfl) fun _ _ _ _ _ _ _ hr=>(bh (cH (K1 (tY (aY hr) (aT (aN 0)) (bg aR)) (aT (aN 1)))) (bN (ib (aY hr) (aT (aN 0)) (bg aR) (fP (S7 (N':=["_law_stay","_law_who","_law_number"]) (ix:=[none,some 1,some 2]) (gz.of (N:=["_law_room","_law_who","_law_number"]) (sc:=bC t_.st) rfl rfl (by decide+kernel)) (nT (bR (aY hr) (aN 0) aR)) ⟨fun s H ex=>⟨(fk 0 (by show List.Nodup (["_law_stay","_law_who","_law_number"]:List Str);decide+kernel)),zO,(C8 (eK (mH (bA (dO (dq hr)) (bR (aY hr) (aN 0) bz) (aN 1)) (iH (bA Cj (bR (aY hr) (aN 0) bz) fN)))) (fb hX (vk (aN 0) pL (pM bz)) (bZ (aO (aN 2) aX))) (aN 0))⟩⟩ (fA 0))))))⟩
def yr:=fG 3 3 um.1
theorem Du:KS 1 t_ yr:=um.2
def v7:CP 1 A8 3 4:=⟨_,fun T=>jz ["_law_cell_here","_law_prime","_law_many","_law_blend"] (T.d 39 rfl) fun nd _ _ _ _ _ _ hr=>(bK (fc (i:=3) (fb Ce (fb JL (aN 0) bz) (aN 1)) nd) (cn (cC (fb Ce (fb Ce (fb JL (aN 3) (fb hX (aN 3) bz)) (aN 1)) (aN 2)))))⟩
def GG:=qU 3 4 v7.1
theorem jf:KP 1 A8 GG:=v7.2
def Dv:CP 1 yf 2 2:=⟨_,fun T=>jz ["_law_script","_law_k"] (T.d 40 rfl) fun _ _ _ _ _ _ _ hr=>(bK (fO (bA Nn (aN 1) (cG iG T.len (aO (aN 0) aX))) (cn (cC (bR (aY hr) (aN 0) (aN 1)))) dF) (cn (cC bz)))⟩
def Dw:=qU 2 2 Dv.1
theorem LB:KP 1 yf Dw:=Dv.2
def qK:CS 2 ki 1 3:=⟨_,fun T=>ig ["_law_room","_law_most","_law_there"] (T.d 41 rfl) fun nd _ _ _ _ _ _ hr=>(bh (fm (ck (eK (C7 (x6 (mG (bR (aY hr) (aN 0) aR))) (vh (bA (nc (aY hr)) aR (P5 (N':=["_law_who","_law_room"]) (ix:=[none,some 0]) (gz.of (N:=["_law_room","_law_most","_law_there"]) (sc:=bC ki.st) rfl rfl (by decide+kernel)) (Gn (bR (aY hr) (aN 0) aR)) ⟨fun s H ex=>⟨(fk 0 (by show List.Nodup (["_law_who","_law_room"]:List Str);decide+kernel)),zO,(bR (aY hr) (bR (aY hr) (aN 1) aR) (aN 0))⟩⟩ (fA 0))))))) (bN S6) dr) (bh (gB (i:=1) (bg (cG (PY rfl) T.max (aO (P5 (N':=["_law_who","_law_room"]) (ix:=[none,some 0]) (gz.of (N:=["_law_room","_law_most","_law_there"]) (sc:=bC ki.st) rfl rfl (by decide+kernel)) (Gn (bR (aY hr) (aN 0) aR)) ⟨fun s H ex=>⟨(fk 0 (by show List.Nodup (["_law_who","_law_room"]:List Str);decide+kernel)),zO,(eE (uj T) hr (aO (aN 1) (aO (aN 0) aX)))⟩⟩ (fA 0)) aX))) nd) (bh (Ob (i:=2) (N':=["_law_stay","_law_most","_law_room"]) (ix:=[none,some 1,some 0]) (gz.of (N:=["_law_room","_law_most","_law_there"]) (sc:=bC ki.st) rfl rfl (by decide+kernel)) (nT (bR (aY hr) (aN 0) aR)) ⟨fun s H ex=>⟨(fk 0 (by show List.Nodup (["_law_stay","_law_most","_law_room"]:List Str);decide+kernel)),(vi (eK (mH (bA Cj (bR (aY hr) (aN 0) bz) fN) (iH (bA (dO (dq hr)) (eE (uj T) hr (aO (aN 2) (aO (bR (aY hr) (aN 0) bz) aX))) (aN 1)))))),(bR (aY hr) (aN 0) bz)⟩⟩ (fA 0) nd) (bh (ib (aY hr) (tY (aY hr) (aT (aN 0)) (bg aR)) (bg (bR (aY hr) (aN 2) bz)) (bg aR)) (bN (cH (gC (uk T) hr (aV (aT (aN 0)) (aV (bg (bR (aY hr) (aN 2) bz)) (aV (bg (bZ (aO aR (aO (bR (aY hr) (aN 2) bz) (aO aR aX))))) bJ))))))))))⟩
def mQ:=fG 1 3 qK.1
theorem Iw:KS 2 ki mQ:=qK.2
def lE:CS 2 lA 2 6:=⟨_,fun T=>ig ["_law_room","_law_deed_here","_law_word_here","_law_who","_law_names","_law_number"] (T.d 42 rfl) fun nd _ _ _ _ _ _ hr=>(bh (P6 (Gm (is:=[2,3]) (pK (i:=2) (pK (i:=3) Gk nd) nd)) (Ea [2,3]) (bg (vk (aN 1) pL (pM bz)))) (bh (gB (i:=4) (fP (x9 (Gg rfl) T.dict (aO (pJ (aO (bZ (aO aR (aO aR aX))) (aO (bZ (aO aR (aO aR aX))) aX))) aX))) nd) (bh (gB (i:=5) (gC (uk T) hr (aV (aT (aN 0)) (aV (aT (aN 3)) (aV (bg (fb hX (bZ (aO (K0 (aY hr) (aN 4) (aN 2) (aN 2)) aX)) (vk (aN 1) (pM bz) pL))) bJ)))) nd) (bh (fm (ck (bA (dO (dq hr)) (aN 2) aR)) (bN (ib (aY hr) (aT (aN 0)) (bg (bR (aY hr) (aN 1) bz)) (bg (bR (aY hr) (aN 1) bz)))) dr) (bh (fm (ck (bA (dO (dq hr)) (aN 2) aR)) (bN (cH (zP mV p5 iC uH (tY (aY hr) (aT (aN 0)) (bg aR)) (aV (bg (bR (aY hr) (aN 1) bz)) bJ)))) dr) (bh (fm (ck (bA (dO (dq hr)) (aN 2) aR)) (bN (ib (aY hr) (tY (aY hr) (aT (aN 0)) (bg aR)) (bg (bR (aY hr) (aN 1) bz)) (bg (bR (aY hr) (aN 1) bz)))) dr) (bh (fm (ck (bA (dO (dq hr)) (aN 2) aR)) (bN (cH (zP mV p5 iC uH (tY (aY hr) (aT (aN 0)) (bg aR)) (aV (bg (bR (aY hr) (aN 1) bz)) bJ)))) dr) (bh (fm (ck (bA (dO (dq hr)) (aN 2) aR)) (bN (ib (aY hr) (aT (aN 0)) (bg aR) (fP (S7 (N':=["_law_one","_law_deed_here"]) (ix:=[none,some 1]) (gz.of (N:=["_law_room","_law_deed_here","_law_word_here","_law_who","_law_names","_law_number"]) (sc:=bC lA.st) rfl rfl (by decide+kernel)) (nT (bR (aY hr) (aN 0) aR)) ⟨fun s H ex=>⟨(fk 0 (by show List.Nodup (["_law_one","_law_deed_here"]:List Str);decide+kernel)),(vi (bA (Hn (dq hr)) (aN 0) (bR (aY hr) (aN 1) bz))),(aN 0)⟩⟩ (fA 0))))) dr) (bN (fm (ck (eK (mH (bA (nc (aY hr)) (aN 2) (bZ (aO aR (aO aR aX)))) (iH (bA (nc (aY hr)) (bR (aY hr) (aN 1) bz) (bR (aY hr) (aN 0) aR)))))) (bN (cH (gC (Du T) hr (aV (aT (aN 0)) (aV (bg (bR (aY hr) (aN 1) bz)) (aV (aT (aN 5)) bJ)))))) dr))))))))))⟩
def pX:=fG 2 6 lE.1
theorem Dx:KS 2 lA pX:=lE.2
def jr:CS 3 yg 2 5:=⟨_,fun T=>ig ["_law_model","_law_deed_here","_law_word_here","_law_who","_law_room"] (T.d 43 rfl) fun nd _ _ _ _ _ _ hr=>(bh (P6 (Gm (is:=[2,3]) (pK (i:=2) (pK (i:=3) Gk nd) nd)) (Ea [2,3]) (bg (vk (aN 1) pL (pM bz)))) (bh (fm (ck (bA (dO (dq hr)) (aN 2) aR)) (bh (cH (zP mV p5 iC uH (tY (aY hr) (aT (aN 0)) (bg aR)) (aV (aT (aN 3)) bJ))) (bN (eM (bg fN)))) dr) (bh (fm (ck (bA (dO (dq hr)) (aN 2) aR)) (bh (gB (i:=4) (K8 (nu (aT aR) (fP (x8 aX)) (nu (aT aR) (fP lO) (nu (aT aR) (fP (x8 aX)) (nu (aT aR) (fP (x8 aX)) (nu (aT aR) (fP (x8 aX)) Kv)))))) nd) (bh (cH (XQ (aT (aN 4)) (aT (KZ (AV aR aR (AV aR aR (AV aR aR Pp))))))) (bh (ib (aY hr) (tY (aY hr) (aT (aN 0)) (bg aR)) (bg (bR (aY hr) (aN 1) bz)) (aT (aN 4))) (bh (cH (gC (zU T) hr (aV (aT (aN 4)) (aV (aT (aN 3)) (aV (bg aR) bJ))))) (bh (ib (aY hr) (tY (aY hr) (aT (aN 4)) (bg aR)) (aT (aN 3)) (bg aR)) (bN (eM (bg fN)))))))) dr) (bh (gB (i:=4) (tY (aY hr) (tY (aY hr) (aT (aN 0)) (bg aR)) (bg (bR (aY hr) (aN 1) bz))) nd) (bh (fm (ck (bA (dO (dq hr)) (aN 2) aR)) (bN (eM (gC (uk T) hr (aV (aT (aN 4)) (aV (aT (aN 3)) (aV (bg (fb hX (vk (aN 1) pL (pM bz)) (vk (aN 1) (pM bz) pL))) bJ)))))) dr) (bh (fm (ck (bA (dO (dq hr)) (aN 2) aR)) (bN (cH (gC (zU T) hr (aV (aT (aN 4)) (aV (aT (aN 3)) (aV (bg aR) bJ)))))) (bN (fm (ck (bA (dO (dq hr)) (aN 2) aR)) (bN (cH (gC (Du T) hr (aV (aT (aN 4)) (aV (aT (aN 3)) (aV (gC (uk T) hr (aV (aT (aN 4)) (aV (aT (aN 3)) (aV (bg (bZ (aO aR aX))) bJ)))) bJ)))))) (bN (cH (gC (Dx T) hr (aV (aT (aN 4)) (aV (aT (aN 1)) bJ)))))))) (bh (cH (gC (Iw T) hr (aV (aT (aN 4)) bJ))) (bN (eM (bg fN))))))))))⟩
def mR:=fG 2 5 jr.1
theorem Dy:KS 3 yg mR:=jr.2
def gm:CP 2 iN 2 6:=⟨_,fun T=>jz ["_law_room","_law_deed_here","_law_word_here","_law_who","_law_mine","_law_yours"] (T.d 44 rfl) fun nd _ _ _ _ _ _ hr=>(bK (XF (Gm (is:=[2,3]) (pK (i:=2) (pK (i:=3) Gk nd) nd)) (vk (aN 1) pL (pM bz))) (bK (fc (i:=4) (eE (uj T) hr (aO (aN 0) (aO (aN 3) aX))) nd) (bK (fc (i:=5) (eE (uj T) hr (aO (aN 0) (aO (bR (aY hr) (aN 1) bz) aX))) nd) (bK (fO (eK (mH (bA (nc (aY hr)) (aN 2) (bZ (aO aR (aO aR aX)))) (iH (bA Nn (aN 5) bz)))) (cn (cC aR)) dF) (bK (fO (bA (dO (dq hr)) (aN 2) aR) (bK (fO (eK (C7 (bA Nn (aN 4) bz) (vh (eK (mH (bA (dO (dq hr)) (aN 4) bz) (iH (eK (C7 (bA RI (aN 5) bz) (vh (bA (nc (aY hr)) (bR (aY hr) (aN 1) bz) (bZ (aO aR (aO aR aX))))))))))))) (cn (cC aR)) dF) (cn (cC (C8 (bA (dO (dq hr)) (bR (aY hr) (bR (aY hr) (aN 0) aR) (bR (aY hr) (aN 1) bz)) (bR (aY hr) (aN 1) bz)) aR fN)))) dF) (bK (fO (eK (C7 (bA Nn (aN 4) bz) (vh (eK (mH (bA (nc (aY hr)) (aN 2) (bZ (aO aR (aO aR aX)))) (iH (bA V4 (aN 5) (aN 4)))))))) (cn (cC aR)) dF) (bK (fO (eK (C7 (eK (mH (bA (dO (dq hr)) (aN 2) aR) (iH (bA V4 (aN 5) bz)))) (vh (eK (mH (bA (dO (dq hr)) (aN 2) aR) (iH (bA (nc (aY hr)) (bR (aY hr) (aN 1) bz) (bR (aY hr) (aN 0) aR)))))))) (cn (cC aR)) dF) (bK (fO (eK (mH (bA (dO (dq hr)) (aN 2) aR) (iH (bA (tR (aY hr)) (bR (aY hr) (aN 1) bz) (bR (aY hr) (aN 0) aR))))) (cn (cC aR)) dF) (cn (cC fN))))))))))⟩
def iR:=qU 2 6 gm.1
theorem uT:KP 2 iN iR:=gm.2
def g7:CP 3 jo 2 5:=⟨_,fun T=>jz ["_law_model","_law_deed_here","_law_word_here","_law_some","_law_room"] (T.d 45 rfl) fun nd _ _ _ _ _ _ hr=>(bK (fc (i:=2) (bR (aY hr) (aN 1) bz) nd) (bK (fO (bA (dO (dq hr)) (aN 2) aR) (cn (cC (C8 (bA (nc (aY hr)) (bR (aY hr) (aN 1) bz) (bR (aY hr) (aN 0) aR)) aR fN))) dF) (bK (fc (i:=3) (fb hX (pJ (aO (bR (aY hr) (aN 1) bz) aX)) (Ie (N':=["_law_k","_law_deed_here","_law_word_here"]) (ix:=[none,some 1,some 2]) (gz.of (N:=["_law_model","_law_deed_here","_law_word_here","_law_some","_law_room"]) (sc:=bC jo.st) rfl rfl (by decide+kernel)) (nT (bZ (aO bz aX))) ⟨fun s H ex=>⟨(fk 0 (by show List.Nodup (["_law_k","_law_deed_here","_law_word_here"]:List Str);decide+kernel)),(vi (bA (nc (aY hr)) (aN 2) (bZ (aO aR (aO aR (aO aR (aO aR (aO aR aX)))))))),(bR (aY hr) (aN 1) (aN 0))⟩⟩ (fA 0))) nd) (bK (fO (mG (Ie (N':=["_law_who","_law_model"]) (ix:=[none,some 0]) (gz.of (N:=["_law_model","_law_deed_here","_law_word_here","_law_some","_law_room"]) (sc:=bC jo.st) rfl rfl (by decide+kernel)) (nT (aN 3)) ⟨fun s H ex=>⟨(fk 0 (by show List.Nodup (["_law_who","_law_model"]:List Str);decide+kernel)),(vi (bA (tR (aY hr)) (aN 0) (bR (aY hr) (aN 1) aR))),(aN 0)⟩⟩ (fA 0))) (cn (cC aR)) dF) (bK (fc (i:=4) (S1 (aY hr) (bR (aY hr) (aN 0) aR) (bR (aY hr) (aN 1) bz)) nd) (bK (fO (bA (dO (dq hr)) (aN 2) aR) (cn (cC (C8 (bA Cj (aN 4) fN) fN aR))) dF) (bK (fO (bA Cj (aN 4) fN) (cn (cC aR)) dF) (bK (fO (bA (dO (dq hr)) (aN 2) aR) (bK (fO (bA (nc (aY hr)) (bR (aY hr) (aN 1) bz) (bR (aY hr) (aN 4) aR)) (cn (cC aR)) dF) (bK (fO (bA (nc (aY hr)) (bR (aY hr) (aN 1) bz) (bR (aY hr) (aN 4) aR)) (cn (cC aR)) dF) (cn (cC (C8 (eK (mH (bA (dO (dq hr)) (bR (aY hr) (aN 4) aR) aR) (iH (bA (tR (aY hr)) (bR (aY hr) (aN 1) bz) (bR (aY hr) (aN 4) aR))))) aR fN))))) dF) (bK (fO (bA (tR (aY hr)) (bR (aY hr) (aN 1) bz) (bR (aY hr) (aN 4) aR)) (cn (cC aR)) dF) (bK (fO (bA (nc (aY hr)) (aN 2) (bZ (aO aR (aO aR (aO aR aX))))) (cn (cC K5)) dF) (cn (cC (C8 (bA (dO (dq hr)) (aN 2) aR) fN (eE (uT T) hr (aO (aN 4) (aO (aN 1) aX))))))))))))))))⟩
def fg:=qU 2 5 g7.1
theorem Dz:KP 3 jo fg:=g7.2
def uo:CP 2 ua 3 12:=⟨_,fun T=>jz ["_law_cell_here","_law_model","_law_words_here","_law_names","_law_who","_law_whom","_law_room","_law_word_here","_law_some","_law_there","_law_number","_law_said_here"] (T.d 46 rfl) fun nd _ _ _ _ _ _ hr=>(bK (fc (i:=3) (bZ (aO aR (aO aR (aO aR (aO aR (aO aR aX)))))) nd) (bK (fO (bA (dO (dq hr)) (eE (jf T) hr (aO (aN 0) (aO bz (aO bz aX)))) bz) (cn (fc (i:=3) (bZ (aO aR (aO aR (aO aR aX)))) nd)) dF) (bK (fc (i:=4) (bR (aY hr) (aN 3) (eE (jf T) hr (aO (aN 0) (aO bz (aO (cG iG T.len (aO (aN 3) aX)) aX))))) nd) (bK (fc (i:=5) (bR (aY hr) (aN 3) (eE (jf T) hr (aO (aN 0) (aO bz (aO (cG iG T.len (aO (aN 3) aX)) aX))))) nd) (bK (fc (i:=6) (bR (aY hr) (bZ (aO aR (aO aR (aO aR (aO aR aX))))) (eE (jf T) hr (aO (aN 0) (aO bz (aO bz aX))))) nd) (bK (fc (i:=7) (bR (aY hr) (aN 2) (eE (jf T) hr (aO (aN 0) (aO bz (aO (cG iG T.len (aO (aN 2) aX)) aX))))) nd) (bK (fO (bA (nc (aY hr)) (aN 7) (bZ (aO aR (aO aR (aO aR (aO aR aX)))))) (cn (cC (vk (bZ (aO (aN 7) (aO (aN 4) (aO (aN 6) aX)))) pL (pM (fb hX bz (eD W5 T.int (aO (zN (Hn (dq hr)) (aN 7) aR) aX))))))) dF) (bK (fO (bA (dO (dq hr)) (aN 7) aR) (bK (fc (i:=8) (pJ (aO (bZ (aO aR (aO aR aX))) (aO (bZ (aO aR (aO aR aX))) (aO (bZ (aO aR (aO aR aX))) aX)))) nd) (bK (fc (i:=8) (fb hX (aN 8) (pJ (aO (bZ (aO aR (aO aR aX))) (aO (bZ (aO aR (aO aR aX))) (aO (bZ (aO aR (aO aR aX))) aX))))) nd) (cn (cC (fb hX (bZ (aO (aN 7) (aO (aN 4) (aO (aN 6) aX)))) (bR (aY hr) (aN 8) (eE (jf T) hr (aO (aN 0) (aO bz (aO bz aX)))))))))) dF) (bK (fO (bA (dO (dq hr)) (aN 7) aR) (cn (cC (bZ (aO (aN 7) (aO (aN 4) (aO (aN 6) (aO (aN 5) (aO (bR (aY hr) (bZ (aO aR (aO aR (aO aR (aO aR aX))))) (eE (jf T) hr (aO (aN 0) (aO bz (aO bz aX))))) aX)))))))) dF) (bK (fO (bA (nc (aY hr)) (aN 7) (bZ (aO aR (aO aR (aO aR (aO aR aX)))))) (cn (cC (bZ (aO (aN 7) (aO (aN 4) (aO (aN 6) (aO (aN 5) aX))))))) dF) (bK (fc (i:=9) (bR (aY hr) (K0 (aY hr) (bR (aY hr) (aN 1) aR) (aN 6) (KZ (AV aR (pJ aX) Pp))) aR) nd) (bK (fc (i:=10) (eE (jf T) hr (aO (aN 0) (aO bz (aO (fb hX (cG iG T.len (aO (aN 9) aX)) bz) aX)))) nd) (bK (N_ (i:=11) (N':=["_law_row_here"]) (ix:=[none]) (gz.of (N:=["_law_cell_here","_law_model","_law_words_here","_law_names","_law_who","_law_whom","_law_room","_law_word_here","_law_some","_law_there","_law_number","_law_said_here"]) (sc:=bC ua.st) rfl rfl (by decide+kernel)) (nT (aN 9)) ⟨fun s H ex=>⟨(fk 0 (by show List.Nodup (["_law_row_here"]:List Str);decide+kernel)),(vi (bA (dO (dq hr)) (bR (aY hr) (aN 0) bz) aR)),(bR (aY hr) (aN 0) bz)⟩⟩ (fA 0) nd) (bK (fO (eK (mH (mG (aN 11)) (iH (bA RI (fb Ce (aN 0) bz) bz)))) (cn (fc (i:=10) (bR (aY hr) (aN 11) (eE (jf T) hr (aO (aN 0) (aO bz (aO (cG iG T.len (aO (aN 11) aX)) aX))))) nd)) dF) (bK (fO (bA (dO (dq hr)) (aN 7) aR) (cn (cC (bZ (aO (aN 7) (aO (aN 4) (aO (aN 6) (aO K5 (aO (bR (aY hr) (bZ (aO fN (aO fN (aO (aN 10) aX)))) (eE (jf T) hr (aO (aN 0) (aO bz (aO bz aX))))) aX)))))))) dF) (bK (fO (bA (dO (dq hr)) (aN 7) aR) (cn (cC (bZ (aO (aN 7) (aO (aN 4) (aO (aN 6) (aO (aN 10) (aO K5 aX)))))))) dF) (cn (cC (bZ (aO (aN 7) (aO (aN 4) (aO (aN 6) (aO (aN 10) aX)))))))))))))))))))))))⟩
def DA:=qU 3 12 uo.1
theorem LC:KP 2 ua DA:=uo.2
def js:CS 7 yh 2 3:=⟨_,fun T=>ig ["_law_hall_here","_law_deed_here","_law_word_here"] (T.d 47 rfl) fun nd _ _ _ _ _ _ hr=>(bh (gB (i:=2) (bg (bR (aY hr) (aN 1) bz)) nd) (bh (fm (ck (bA (dO (dq hr)) (aN 2) aR)) (bN (eM (dN (vn T) hr (aT (aN 0)) (aV (bg (bR (aY hr) (aN 1) bz)) bJ)))) dr) (bh (fm (ck (bA (dO (dq hr)) (aN 2) aR)) (bN (eM (dN (Bh T) hr (aT (aN 0)) (aV (bg (bR (aY hr) (aN 1) bz)) (aV (bg (bR (aY hr) (aN 1) bz)) bJ))))) dr) (bh (fm (ck (bA (dO (dq hr)) (aN 2) aR)) (bN (eM (dN (Bk T) hr (aT (aN 0)) (aV (bg (bR (aY hr) (aN 1) bz)) (aV (bg (bR (aY hr) (aN 1) bz)) bJ))))) dr) (bh (fm (ck (bA (dO (dq hr)) (aN 2) aR)) (bN (eM (dN (Bl T) hr (aT (aN 0)) (aV (bg (bR (aY hr) (aN 1) bz)) (aV (bg (bR (aY hr) (aN 1) bz)) bJ))))) dr) (bh (fm (ck (bA (dO (dq hr)) (aN 2) aR)) (bN (eM vj)) dr) (bh (fm (ck (bA (dO (dq hr)) (aN 2) aR)) (bN (eM vj)) dr) (bh (fm (ck (bA (dO (dq hr)) (aN 2) aR)) (bN (eM (dN (Dq T) hr (aT (aN 0)) (aV (bg (bR (aY hr) (aN 1) bz)) (aV (bg (bR (aY hr) (aN 1) bz)) (aV (bg (bR (aY hr) (aN 1) bz)) (aV (bg (bR (aY hr) (aN 1) bz)) bJ))))))) dr) (bh (fm (ck (bA (dO (dq hr)) (aN 2) aR)) (bN (eM vj)) dr) (bh (fm (ck (bA (dO (dq hr)) (aN 2) aR)) (bN (eM vj)) dr) (bh (fm (ck (bA (dO (dq hr)) (aN 2) aR)) (bN (eM vj)) dr) (bh (fm (ck (bA (dO (dq hr)) (aN 2) aR)) (bN (eM vj)) dr) (bh (fm (ck (bA (dO (dq hr)) (aN 2) aR)) (bN (eM vj)) dr) (bN (eM vj)))))))))))))))⟩
def gE:=fG 2 3 js.1
theorem DB:KS 7 yh gE:=js.2
def mS:CS 8 yi 2 5:=⟨_,fun T=>ig ["_law_hall_here","_law_deed_here","_law_kept","_law_answer","e"] (T.d 48 rfl) fun nd _ _ _ _ _ _ hr=>(bh (gB (i:=2) (bg fN) nd) (bh (gB (i:=3) (bg fN) nd) (bh (Tf 5 (i:=4) T.Dl (fun pn E'=>(bN (gB (i:=3) (gC (DB T) hr (aV (aT (aN 0)) (aV (aT (aN 1)) bJ))) nd))) (fun pn e=>(bN (gB (i:=2) (aT (aN 4)) nd))) nd) (bh (fm (ck (bA Cj (aN 2) fN)) (bN (eM (aT (aN 3)))) dr) (bN (eM (bg (eE (LA T) hr (aO (aN 2) aX)))))))))⟩
def pY:=fG 2 5 mS.1
theorem LD:KS 8 yi pY:=mS.2
def uq(r:List Tr->Rs Tr):CR 0 ub 2 2 r:=⟨_,fun T hk G=>jz ["_law_found","_law_due"] (T.d 49 rfl) fun _ _ _ _ _ _ _ hr=>(bK (fO (mG (cG zm T.isinstance (aO (aN 1) (aO (C6 T.tuple) aX)))) (bK (fO (eK (C7 (x6 (mG (cG zm T.isinstance (aO (aN 0) (aO (C6 T.tuple) aX))))) (vh (bA (Hn (dq hr)) (cG iG T.len (aO (aN 0) aX)) (cG iG T.len (aO (aN 1) aX)))))) (cn (cC yV)) dF) (cn (cC (cG (V' rfl) T.all (aO (Ie (N':=["_law_one","_law_other"]) (ix:=[none,none]) (gz.of (N:=["_law_found","_law_due"]) (sc:=bC ub.st) rfl rfl (by decide+kernel)) (XH T.zip (aO (aN 0) (aO (aN 1) aX))) ⟨fun s H ex=>⟨(Gm (is:=[0,1]) (pK (i:=0) (pK (i:=1) Gk (by show List.Nodup (["_law_one","_law_other"]:List Str);decide+kernel)) (by show List.Nodup (["_law_one","_law_other"]:List Str);decide+kernel))),zO,(eE G hr (aO (aN 0) (aO (aN 1) aX)))⟩⟩ (Ea [0,1])) aX))))) dF) (bK (fO (bA Cj (aN 1) fN) (cn (cC (zN Cj (aN 0) fN))) dF) (bK (fO (eK (C7 (mG (cG zm T.isinstance (aO (aN 1) (aO (C6 T.bool) aX)))) (vh (mG (cG zm T.isinstance (aO (aN 0) (aO (C6 T.bool) aX))))))) (cn (cC (KW (cG zm T.isinstance (aO (aN 1) (aO (C6 T.bool) aX))) (KW (cG zm T.isinstance (aO (aN 0) (aO (C6 T.bool) aX))) (P0 (zN (dO (dq hr)) (aN 0) (aN 1))))))) dF) (cn (cC (KW (cG Sk T.isinstance (aO (aN 0) (aO (bZ (aO (C6 T.int) (aO (C6 T.str) aX))) aX))) (P0 (zN (dO (dq hr)) (aN 0) (aN 1)))))))))⟩
def ff:Nat->List Tr->Rs Tr
 |0=>fun _=>.bad
 |n+1=>qU 2 2 (uq (ff n)).1
theorem kj{P:Program}{w:World}{K:Frag}{mg:Str->Option Value}{base:Heap}(T:P8 K w mg):∀n:Nat,x_ P w K mg base lX (0+n) ub (spT K (ff n))
 |0=>aaD (T.d 49 rfl)
 |n+1=>(uq _).2 T (md ..) (kj T n)
def mT:CS 9 yj 3 4:=⟨_,fun T=>ig ["_law_hall_here","_law_model","_law_deed_here","_law_due"] (T.d 50 rfl) fun nd _ _ _ _ _ _ hr=>(bh (gB (i:=3) (bg (eE (Dz T) hr (aO (aN 1) (aO (aN 2) aX)))) nd) (bh (fm (ck (bA Cj (aN 3) fN)) (bN (gB (i:=3) (gC (Dy T) hr (aV (aT (aN 1)) (aV (aT (aN 2)) bJ))) nd)) dr) (bN (eM (gC (kj T 5).toZ hr (aV (gC (LD T) hr (aV (aT (aN 0)) (aV (aT (aN 2)) bJ))) (aV (aT (aN 3)) bJ)))))))⟩
def jt:=fG 3 4 mT.1
theorem DC:KS 9 yj jt:=mT.2
def DD:CS 8 yk 2 4:=⟨_,fun T=>ig ["_law_hall_here","_law_model","_law_who","_law_deed_here"] (T.d 51 rfl) fun nd _ _ _ _ _ _ hr=>(bh (Gp (nT (bZ (aO aR (aO aR (aO aR (aO aR (aO aR aX))))))) (fk 2 nd) (fA 2) (bN (cH (dN (vn T) hr (aT (aN 0)) (aV (aT (aN 2)) bJ))))) (bN (Gp (nT (bZ (aO (bZ (aO aR (aO aR (aO aR aX)))) (aO (bZ (aO aR (aO aR (aO aR aX)))) (aO (bZ (aO aR (aO aR (aO aR aX)))) (aO (bZ (aO aR (aO aR (aO aR aX)))) aX)))))) (fk 3 nd) (fA 3) (bh (cH (gC (DB T) hr (aV (aT (aN 0)) (aV (aT (aN 3)) bJ)))) (bN (cH (gC (Dy T) hr (aV (aT (aN 1)) (aV (aT (aN 3)) bJ)))))))))⟩
def DE:=fG 2 4 DD.1
theorem LF:KS 8 yk DE:=DD.2
def uU:CP 6 mJ 2 6:=⟨_,fun T=>jz ["_law_hall_here","_law_model","_law_name","_law_room","_law_roles","_law_due"] (T.d 52 rfl) fun nd _ _ _ _ _ _ hr=>(bK (S2 (Gn (bR (aY hr) (aN 1) aR)) (fk 2 nd) (bK (fc (i:=3) (bR (aY hr) (bR (aY hr) (aN 1) aR) (aN 2)) nd) (bK (fc (i:=4) (eD gP T.tuple (aO (Ie (N':=["_law_who","_law_room"]) (ix:=[none,some 3]) (gz.of (N:=["_law_hall_here","_law_model","_law_name","_law_room","_law_roles","_law_due"]) (sc:=bC mJ.st) rfl rfl (by decide+kernel)) (nT (cG (jm rfl) T.sorted (aO (bR (aY hr) (aN 3) aR) aX))) ⟨fun s H ex=>⟨(fk 0 (by show List.Nodup (["_law_who","_law_room"]:List Str);decide+kernel)),zO,(bZ (aO (aN 0) (aO (bR (aY hr) (bR (aY hr) (aN 1) aR) (aN 0)) aX)))⟩⟩ (fA 0)) aX)) nd) (bK (fO (x6 (mG (eE (kj T 5) hr (aO (bZ (aO (jA (Ds T) hr (aN 0) (aO (aN 2) aX)) (aO (jA (Bq T) hr (aN 0) (aO (aN 2) aX)) aX))) (aO (bZ (aO (eD gP T.tuple (aO (bR (aY hr) (aN 3) aR) aX)) (aO (aN 4) aX))) aX))))) (cn (cC yV)) dF) (bK (fO (x6 (mG (eE (kj T 5) hr (aO (jA (yZ T) hr (aN 0) (aO (aN 2) aX)) (aO (eD gP T.tuple (aO (cG (jm rfl) T.sorted (aO (bR (aY hr) (aN 3) aR) aX)) aX)) aX))))) (cn (cC yV)) dF) (bK (fO (x6 (mG (eE (kj T 5) hr (aO (jA (Br T) hr (aN 0) (aO (aN 2) aX)) (aO (eD gP T.tuple (aO (S4 T.sorted T.set (bR (aY hr) (aN 3) aR)) aX)) aX))))) (cn (cC yV)) dF) (cn (fO (mG (Ie (N':=["_law_what","_law_name","_law_room","_law_hall_here"]) (ix:=[none,some 2,some 3,some 0]) (gz.of (N:=["_law_hall_here","_law_model","_law_name","_law_room","_law_roles","_law_due"]) (sc:=bC mJ.st) rfl rfl (by decide+kernel)) (nT (bZ (aO aR (aO aR (aO aR aX))))) ⟨fun s H ex=>⟨(fk 0 (by show List.Nodup (["_law_what","_law_name","_law_room","_law_hall_here"]:List Str);decide+kernel)),(vi (bA (Hn (dq hr)) (jA (yo T) hr (aN 3) (aO (aN 1) (aO (aN 0) aX))) (bR (aY hr) (aN 2) (aN 0)))),bz⟩⟩ (fA 0))) (cn (cC yV)) dF)))))))) (bK (fc (i:=5) (bZ (aO (eD gP T.tuple (aO (cG (jm rfl) T.sorted (aO (bR (aY hr) (aN 1) aR) aX)) aX)) (aO (eD gP T.tuple (aO (cG (jm rfl) T.sorted (aO (bR (aY hr) (aN 1) aR) aX)) aX)) aX))) nd) (cn (cC (eE (kj T 5) hr (aO (bZ (aO (qC (Bm T) hr (aN 0)) (aO (qC (yX T) hr (aN 0)) aX))) (aO (aN 5) aX)))))))⟩
def zV:=qU 2 6 uU.1
theorem Iy:KP 6 mJ zV:=uU.2
def GH:CZ 10 Di 1 7:=⟨_,fun T=>aaC ["_law_script","_law_hall_here","_law_model","_law_some","_law_deed_here","_law_words_here","_law_k"] (T.d 53 rfl) fun nd _ _ _ _ _ _ hr=>(bh (gB (i:=1) (Oh (vG T) T.TC hr) nd) (bh (gB (i:=2) (gC (Iu T) hr (aV (bg (bZ (aO aR (aO aR (aO aR (aO aR (aO aR aX))))))) bJ)) nd) (bh (cH (gC (LF T) hr (aV (aT (aN 1)) (aV (aT (aN 2)) bJ)))) (bh (gB (i:=3) (fP (x8 (aO (bZ (aO aR (aO aR (aO aR (aO aR (aO aR aX)))))) (aO (bZ (aO aR (aO aR (aO aR aX)))) aX)))) nd) (bh (Ti (Th (aN 3) (pJ (aO (bZ (aO aR (aO aR (aO aR (aO aR (aO aR aX)))))) aX))) (fk 4 nd) (fA 4) (bN (fm (K4 (K3 (gC (DC T) hr (aV (aT (aN 1)) (aV (aT (aN 2)) (aV (aT (aN 4)) bJ)))))) (bN (eM (bg yV))) dr))) (bh (gB (i:=5) (bg (bZ (aO aR (aO aR (aO aR (aO aR (aO aR (aO aR aX)))))))) nd) (bh (Gp (KY T.range (aO bz aX)) (fk 6 nd) (fA 6) (bh (gB (i:=4) (bg (eE (LC T) hr (aO (fb hX (eE (LB T) hr (aO (aN 0) (aO (fb Ce (aN 6) bz) aX))) (fb JL bz (aN 6))) (aO (aN 2) (aO (aN 5) aX))))) nd) (bN (fm (K4 (K3 (gC (DC T) hr (aV (aT (aN 1)) (aV (aT (aN 2)) (aV (aT (aN 4)) bJ)))))) (bN (eM (bg yV))) dr)))) (bN (eM (bg (eE (Iy T) hr (aO (aN 1) (aO (aN 2) aX)))))))))))))⟩
def yt:=Cp 1 7 GH.1
theorem X8:KP 10 Di yt:=GH.2
section
variable {rk en ch bn iv:List (Key×Tr)}
theorem Bt{aZ c7:Str}{ps:List Tr}(h:bx A aM rows rk en ch bn iv)(f:dY rows rk en ch bn iv)(hl:rows.length<e_)(hp:3+ps.length<=e_)(ht:mB ps=true):
  mL [.at aM,.str aZ,.str c7,.tup ps] A=.ok (.int (rows.length+1)) (A.set (aM+1) (.lst (rows++[.tup (.int (rows.length+1):: .str aZ:: .str c7::ps)]))):=by
 show cM (gf.1 [.sh (.at aM),.sh (.str aZ),.sh (.str c7),.sh (.tup ps),.no] A)=_;unfold gf;have e3:yQ (.tup [.int (rows.length+1),.str aZ,.str c7]) (.tup ps)=.ok (.tup (.int (rows.length+1):: .str aZ:: .str c7::ps)):=aS hp;have ef:∀A,rW (.ok (.tup (.int (rows.length+1):: .str aZ:: .str c7::ps))) A=.ok (.tup (.int (rows.length+1):: .str aZ:: .str c7::ps)) A:=fun A=>aS (by simpa only[IK,mB,oW]using ht);simp only[ev,cY,hJ,iz,h.aaE f,h.aaG,cg,cj,EN h.lg,EO h.lg hl,e3,ef]
abbrev kh(rows:List Tr)(aZ c7:Str)(ps:List Tr):Tr:=.tup (.int (rows.length+1):: .str aZ:: .str c7::ps)
theorem OF{aZ c7 role:Str}(h:bx A aM rows rk en ch bn iv)(f:dY rows rk en ch bn iv)(hl:rows.length<e_)(hr:rk.length<e_)(he:en.length<e_):
  ∃A',rg [.at aM,.str aZ,.str c7,.str role] A=.ok .cu A'/\Ext A A' [(aM+6,.bT (h_ iv (.inr aZ))),(aM+2,.bT (lJ rk (.inr aZ) (.str role))),(aM+3,.bT (lJ en (.inr aZ) (.int (rows.length+1)))),(aM+1,.lst (rows++[kh rows aZ c7 []]))]/\bx A' aM (rows++[kh rows aZ c7 []]) (lJ rk (.inr aZ) (.str role)) (lJ en (.inr aZ) (.int (rows.length+1))) ch bn (h_ iv (.inr aZ)):=by
 have h1:=h.Ts (Ext.put (o:=.lst (rows++[kh rows aZ c7 []])) h.lg);have h2:=h1.aaJ (Ext.put (o:=.bT (lJ en (.inr aZ) (.int (rows.length+1)))) h1.en);have h3:=h2.Tt (Ext.put (o:=.bT (lJ rk (.inr aZ) (.str role))) h2.rk);refine⟨_,?_,((Ext.put h.lg).trans (Ext.put h1.en)).trans ((Ext.put h2.rk).trans (Ext.put h3.iv)),h3.aaK (Ext.put h3.iv)⟩;show cM (jb.1 [.sh (.at aM),.sh (.str aZ),.sh (.str c7),.sh (.str role)] A)=_;unfold jb;have ef:∀A,rW (.ok (.tup [])) A=.ok (.tup []) A:=fun A=>rfl;have w:=Bt (aZ:=aZ) (c7:=c7) (ps:=[]) h f hl (by decide) rfl;simp only[ev,cY,hJ,iz,h.call (m:="write_row") rfl,ef,w,rV,h1.aaH,pO h1.en he,h2.Tq,pO h2.rk hr,h3.aaI,Oi h3.iv,Oj _ h3.iv]
theorem LG{aZ d4 role:Str}(h:bx A aM rows rk en ch bn iv)(f:dY rows rk en ch bn iv)(hl:rows.length<e_)(hr:rk.length<e_):
  ∃A',mM [.at aM,.str aZ,.str d4,.str role] A=.ok .cu A'/\Ext A A' [(aM+2,.bT (lJ rk (.inr d4) (.str role))),(aM+1,.lst (rows++[kh rows aZ "role" [.str d4,.str role]]))]/\bx A' aM (rows++[kh rows aZ "role" [.str d4,.str role]]) (lJ rk (.inr d4) (.str role)) en ch bn iv:=by
 have h1:=h.Ts (Ext.put (o:=.lst (rows++[kh rows aZ "role" [.str d4,.str role]])) h.lg);refine⟨_,?_,(Ext.put h.lg).trans (Ext.put h1.rk),h1.Tt (Ext.put h1.rk)⟩;show cM (gg.1 [.sh (.at aM),.sh (.str aZ),.sh (.str d4),.sh (.str role)] A)=_;unfold gg;have ef:∀A,rW (.ok (.tup [.str d4,.str role])) A=.ok (.tup [.str d4,.str role]) A:=fun A=>rfl;have w:=Bt (aZ:=aZ) (c7:="role") (ps:=[.str d4,.str role]) h f hl (by show 3+2<=e_;decide) rfl;simp only[ev,cY,hJ,iz,h.call (m:="write_row") rfl,ef,w,rV,h1.Tq,pO h1.rk hr]
theorem yu(h:bx A aM rows rk en ch bn iv)(f:dY rows rk en ch bn iv)(hw:aZ.length<=1000):
  kN [.at aM,.str aZ] A=if(eN rk (.inr aZ)).isSome=true then .ok .cu A else .exc (.str "NotIn") A:=by
 show cM (ir.1 [.sh (.at aM),.sh (.str aZ)] A)=_;unfold ir;simp only[ev,cY,hJ,iz,h.t7 f];cases e:(eN rk (.inr aZ)).isSome with
 |true=>simp only[dz,ev,cK]
 |false=>
  have s:=ER (z:=aZ) (y:=" is not in the room") hw (by decide+kernel);simp only[eR,ev,cY,hJ,iz,s,cW,cx]
end
abbrev gy:List Str:=["guest","speaker","keeper","owner"]
def lvl(r:Str):Int:=if r="owner"then 3 else if r="keeper"then 2 else if r="speaker"then 1 else 0
theorem ur{r:Str}(h:r∈gy):Bc [.str r]=.ok (.int (lvl r)):=by
 have:r="guest"\/r="speaker"\/r="keeper"\/r="owner":=by simpa using h
 rcases this with rfl|rfl|rfl|rfl<;>rfl
structure Iz(aQ:List (Str×Str))(z:Str):Prop where
 ex:∃j r,aQ[j]?=some (z,r)/\(∀p∈aQ,lvl p.2<=lvl r)/\∀(a:Nat) (p:Str×Str),a<j->aQ[a]?=some p->lvl p.2<lvl r
theorem Iz.one {y z:Str}(a:Iz aQ y)(b:Iz aQ z):y=z:=by
 obtain⟨j,r,h1,h2,h3⟩:=a.ex;obtain⟨k,s,g1,g2,g3⟩:=b.ex;have e1:=h2 _ (dS g1);have e2:=g2 _ (dS h1);rcases Nat.lt_trichotomy j k with q|q|q
 ·have:=g3 j _ q h1;simp only at e1 e2 this;omega
 ·subst q;rw[h1]at g1;cases g1;rfl
 ·have:=h3 k _ q g1;simp only at e1 e2 this;omega
section
variable {i:Nat}{ch bn iv:List (Key×Tr)}{ent:Str->Int}
structure dG(aQ:List (Str×Str))(ents:List (Str×Int))(ent:Str->Int):Prop where
 rl:∀p∈aQ,p.2∈gy
 nd:(aQ.map (·.1)).Nodup
 sh:∀p∈aQ,p.1.length<=1000
 en:∀p∈aQ,ents.lookup p.1=some (ent p.1)
 up:(aQ.map fun p=>ent p.1).Pairwise (· <·)
theorem iy:∀{aQ:List (Str×Str)},(aQ.map (·.1)).Nodup->∀p∈aQ,aQ.lookup p.1=some p.2
 |q::aQ,nd,p,hp=>by
  rw[bH,gK]at nd;rw[cE];rcases bB.mp hp with rfl|hp
  ·simp
  ·have:(p.1==q.1)=false:=by
    simp only[iW];intro e;exact nd.1 (e▸fV hp)
   rw[this];exact iy nd.2 p hp
theorem OG{p:Str×Str}(h:bx A i rows (dP .str aQ) (dP .int ents) ch bn iv)(f:dY rows (dP .str aQ) (dP .int ents) ch bn iv)(k:dG aQ ents ent)(hp:p∈aQ):
  iq [aU 5 A (.at i),.str p.1]=.ok (.tup [.int (-(lvl p.2)),.int (ent p.1)]):=by
 show dE (jZ.1 [.sh (aU 5 A (.at i)),.sh (.str p.1)])=_;unfold jZ;simp only[ev,cY,h.t7 f,h.aaF f,dR,iy k.nd p hp,k.en p hp,de,kS,ur (k.rl p hp)]
theorem TH(h:bx A i rows (dP .str aQ) (dP .int ents) ch bn iv)(f:dY rows (dP .str aQ) (dP .int ents) ch bn iv)(k:dG aQ ents ent)(gV:aQ≠[]):
  ∃z,Iz aQ z/\Gi "Room" "claim" iq (.ok (.lst (aQ.map fun p=>.str p.1))) (.ok (aU 5 A (.at i)))=.ok (.str z):=by
 have b9:0<aQ.length:=sg.mpr gV
 let key:Str->Int×Int:=fun z=>(-(lvl ((aQ.lookup z).getD "")),ent z)
 have hk:∀p∈aQ,key p.1=(-(lvl p.2),ent p.1):=fun p hp=>by show(-(lvl ((aQ.lookup p.1).getD "")),ent p.1)=_;rw[iy k.nd p hp];rfl
 have hs:keysOf iq (aU 5 A (.at i)) ((aQ.map (·.1)).map .str)=some ((aQ.map (·.1)).map key):=zQ fun z hz=>by
  obtain⟨p,hp,rfl⟩:=cA.mp hz;rw[OG h f k hp,hk p hp]
 let kf:Nat->Int×Int:=fun a=>((aQ.map (·.1)).map key).getD a (0,0)
 have UE:∀a p,aQ[a]?=some p->kf a=(-(lvl p.2),ent p.1):=fun a p e=>by
  show((aQ.map (·.1)).map key).getD a (0,0)=_;rw[d_,bW,bW,e];exact hk p (dS e)
 have hup:∀a b,a<b->b<=aQ.length - 1->(kf a).2<(kf b).2:=fun a b Ed hb=>by
  have lb:b<aQ.length:=by omega
  have la:a<aQ.length:=by omega
  rw[UE a _ (bQ la),UE b _ (bQ lb)];have:=List.pairwise_iff_getElem.mp k.up a b (by simpa using la) (by simpa using lb) Ed;simpa using this
 obtain⟨h1,h2⟩:=t9 (kf:=kf) (aQ.length - 1) hup;have hb:=uN (kf:=kf) (aQ.length - 1);have lb:c_ kf (aQ.length - 1)<aQ.length:=by omega
 refine⟨aQ[c_ kf (aQ.length - 1)].1,⟨c_ kf (aQ.length - 1),aQ[c_ kf (aQ.length - 1)].2,bQ lb,fun p hp=>?_,fun a p ha e=>?_⟩,?_⟩
 ·obtain⟨a,ha,e⟩:=List.getElem_of_mem hp;have:=h1 a (by omega);rw[UE _ _ (bQ lb),UE a p (by rw[bQ ha,e])]at this;simp only at this;omega
 ·have:=h2 a ha;rw[UE _ _ (bQ lb),UE a p e]at this;simp only at this;omega
 ·show vf "Room" "claim" iq (.lst (aQ.map fun p=>.str p.1)) (aU 5 A (.at i))=_;rw[gw h.o]at hs⊢;rw[show(aQ.map fun p=>Tr.str p.1)=(aQ.map (·.1)).map .str by rw[cF];rfl];refine Lh rfl (by simpa using b9) hs ?_
  rw[show((aQ.map (·.1)).map Tr.str).length=aQ.length by simp];show((aQ.map (·.1)).map Tr.str)[c_ kf (aQ.length - 1)]?=_
  rw[bW,bW,bQ lb]
  rfl
inductive gF(rows:List Tr)(aQ:List (Str×Str)):List Tr->List (Str×Str)->Prop
 |same:(aQ=[]\/∃p∈aQ,p.2="owner")->gF rows aQ rows aQ
 |y0 (z:Str):Iz aQ z->(∀p∈aQ,p.2≠"owner")->aQ≠[]->gF rows aQ (rows++[kh rows z "role" [.str z,.str "owner"]]) (fB aQ z "owner")
theorem gF.one {r1 r2:List Tr}{k1 k2:List (Str×Str)}(a:gF rows aQ r1 k1)(b:gF rows aQ r2 k2):r1=r2/\k1=k2:=by
 cases a with
 |same h=>
  cases b with
  |same _=>exact⟨rfl,rfl⟩
  |y0 z _ h2 h3=>
   rcases h with h|⟨p,hp,e⟩
   ·exact absurd h h3
   ·exact absurd e (h2 p hp)
 |y0 z g h2 h3=>
  cases b with
  |same h=>
   rcases h with h|⟨p,hp,e⟩
   ·exact absurd h h3
   ·exact absurd e (h2 p hp)
  |y0 y g' _ _=>cases g.one g';exact⟨rfl,rfl⟩
theorem LH(h:bx A i rows (dP .str aQ) (dP .int ents) ch bn iv)(f:dY rows (dP .str aQ) (dP .int ents) ch bn iv)(k:dG aQ ents ent)(hl:rows.length<e_)(hr:aQ.length<e_):
  ∃A' cD cN,jL [.at i] A=.ok .cu A'/\gF rows aQ cD cN/\Ext A A' [(i+2,.bT (dP .str cN)),(i+1,.lst cD)]/\bx A' i cD (dP .str cN) (dP .int ents) ch bn iv:=by
 let P:Str->Bool:=fun z=>aQ.lookup z==some ("owner":Str)
 have h1:=h.e_0 (Ext.push (o:=.lst ((((aQ.map (·.1)).filter P).map .str))));have e0:Ext A (A++[.lst ((((aQ.map (·.1)).filter P).map .str))]) [(i+2,.bT (dP .str aQ)),(i+1,.lst rows)]:=(Ext.push.idem h.lg rfl).idem h.rk (jv (by omega));have hP:∀p∈aQ,P p.1=(p.2==("owner":Str)):=fun p hp=>by show(aQ.lookup p.1==some ("owner":Str))=_;rw[iy k.nd p hp];rfl
 have t1:aU 5 (A++[Ao.lst (((aQ.map (·.1)).filter P).map .str)]) (.at A.length)=.lst (((aQ.map (·.1)).filter P).map .str):=by rw[kI ly,qE]
 show∃A' cD cN,cM (eZ.1 [.sh (.at i),.no,.no] A)=.ok .cu A'/\_;unfold eZ;simp only[ev,cY,hJ,iz,h.t7 f,vV k.sh,map_fst];rw[qF (AY:=[.sh (aU 5 A (.at i))]) P rfl (by simpa using dA hr) rfl (fun _=>rfl) ?hC]
 case hC=>
  intro z hz;obtain⟨p,hp,rfl⟩:=cA.mp hz;simp only[ev,cY,h.t7 f,dR,iy k.nd p hp,de,kS,hP p hp]
 simp only[vU qD,ev,cY,hJ,iz,cg,cj,h1.t7 f,t1,lR,bj];by_cases gV:aQ=[]
 ·subst gV;exact⟨_,_,_,rfl,.same (.inl rfl),e0,h1⟩
 have hp0:(decide ((0:Int)<(aQ.length:Int)))=true:=iY (by have:=sg.mpr gV;omega);simp only[hp0,ev,cY,hJ];by_cases ho:∃p∈aQ,p.2="owner"
 ·have:((((aQ.map (·.1)).filter P).length:Int)==0)=false:=by
   obtain⟨p,hp,e⟩:=ho;have hm:p.1∈(aQ.map (·.1)).filter P:=fY.mpr ⟨fV hp,by rw[hP p hp,e];exact bX _⟩;have:=List.length_pos_of_mem hm;simp only[iW];omega
  simp only[this,ev];exact⟨_,_,_,rfl,.same (.inr ho),e0,h1⟩
 ·have IP:∀p∈aQ,p.2≠"owner":=fun p hp e=>ho ⟨p,hp,e⟩;have:((aQ.map (·.1)).filter P)=[]:=List.filter_eq_nil_iff.mpr fun z hz=>by
   obtain⟨p,hp,rfl⟩:=cA.mp hz;rw[hP p hp];simpa using IP p hp
  obtain⟨z,hz,ez⟩:=TH h1 f k gV;obtain⟨A',q1,q2,q3⟩:=LG (aZ:=z) (d4:=z) (role:="owner") h1 f hl (by rw[lR];exact hr);rw[map_fst]at ez;have el:Ex [.bT (dP .str aQ)]=.ok (.lst ((aQ.map (·.1)).map .str)):=by
   show(Cq (dP .str aQ)).bind (fun ts=>Rs.ok (Tr.lst ts))=_;rw[Gy fun p hp=>cw (k.sh p hp) (by decide),map_fst];rfl
  have e9:((((aQ.map (·.1)).filter P).length:Int)==0)=true:=by rw[this];rfl
  simp only[e9,ev,cY,hJ,iz,h1.t7 f,el,ez,cg,cj,h1.call (m:="give_role") rfl,q1];rw[nv]at q2 q3;exact⟨_,_,_,rfl,.y0 z hz IP gV,Ext.past Ext.push q2,q3⟩
end
section
variable {i:Nat}{rq:List (Str×Str)}{bn iv:List (Key×Tr)}{ent:Str->Int}{d:Str}
theorem lookup_none{α:Type}{z:Str}:∀{l:List (Str×α)},l.lookup z=none->∀p∈l,p.1≠z
 |q::l,h,p,hp=>by
  rw[cE]at h;cases e:(z==q.1)with
  |true=>rw[e]at h;cases h
  |false=>
   rw[e]at h;rcases bB.mp hp with rfl|hp
   ·intro q;rw[q,bX]at e;cases e
   ·exact lookup_none h p hp
theorem uu{α:Type}{l:List (Str×α)}{z:Str}{a:α}(h:l.lookup z=none):fB l z a=l++[(z,a)]:=by
 unfold fB;rw[aW];intro q;obtain⟨p,hp,e⟩:=List.any_eq_true.mp q;exact lookup_none h p hp (ee e)
theorem yv{α:Type}{z y:Str}{a:α}:∀{l:List (Str×α)},(fB l z a).lookup y=if y=z then some a else l.lookup y:=by
 intro l;unfold fB;split
 ·rename_i h
  induction l with
  |nil=>cases h
  |cons p l ih=>
   rw[bH,cE,cE];by_cases hz:p.1=z
   ·rw[aS hz];by_cases hy:y=z
    ·subst hy;rw[aS rfl,hz];simp
    ·have e1:(y==p.1)=false:=by simpa[hz]using hy
     rw[aW hy];simp only[e1]
     clear ih h
     induction l with
     |nil=>rfl
     |cons q l ih=>
      rw[bH,cE,cE];by_cases hq:q.1=z
      ·rw[aS hq];have e2:(y==q.1)=false:=by simpa[hq]using hy
       simp only[e2];exact ih
      ·rw[aW hq];split
       ·rfl
       ·exact ih
   ·rw[aW hz];have h2:(l.any fun p=>decide (p.1=z))=true:=by
     rw[iZ]at h;simpa[hz]using h
    cases e:(y==p.1)with
    |true=>
     have:y=p.1:=by simpa using e
     rw[aW (by rw[this];exact hz)]
    |false=>exact ih h2
 ·rename_i h;rw[List.lookup_append];have hn:l.lookup z=none:=by
   cases e:l.lookup z with
   |none=>rfl
   |some b=>
    exfalso;apply h
    clear h
    induction l with
    |nil=>cases e
    |cons p l ih=>
     rw[cE]at e;rw[iZ];cases e2:(z==p.1)with
     |true=>have:z=p.1:=by simpa using e2
            simp[this]
     |false=>rw[e2]at e;simp[ih e]
  by_cases hy:y=z
  ·subst hy;rw[hn,aS rfl];simp
  ·rw[aW hy];have:(y==z)=false:=by simpa using hy
   simp[List.lookup,this]
theorem dG.enter {n:Int}{r:Str}(k:dG aQ ents ent)(hn:aQ.lookup aZ=none)(f_:∀p∈aQ,ent p.1<n)(hw:aZ.length<=1000)(hr:r∈gy):dG (fB aQ aZ r) (fB ents aZ n) fun z=>if z=aZ then n else ent z:=by
 rw[uu hn];have gV:=lookup_none hn;refine⟨fun p hp=>?_,?_,fun p hp=>?_,fun p hp=>?_,?_⟩
 ·rcases dw.mp hp with hp|hp
  ·exact k.rl p hp
  ·cases cX.mp hp;exact hr
 ·rw[jU,wy];refine⟨k.nd,by simp,fun a ha b hb=>?_⟩;obtain⟨p,hp,rfl⟩:=cA.mp ha;cases(cX.mp hb);exact gV p hp
 ·rcases dw.mp hp with hp|hp
  ·exact k.sh p hp
  ·cases cX.mp hp;exact hw
 ·rw[yv];rcases dw.mp hp with hp|hp
  ·rw[aW (gV p hp),aW (gV p hp)];exact k.en p hp
  ·cases cX.mp hp;rw[aS rfl,aS rfl]
 ·rw[jU,List.pairwise_append];refine⟨?_,by simp,fun a ha b hb=>?_⟩
  ·have:(aQ.map fun p=>if p.1=aZ then n else ent p.1)=aQ.map fun p=>ent p.1:=gH fun p hp=>aW (gV p hp);rw[this];exact k.up
  ·obtain⟨p,hp,rfl⟩:=cA.mp ha;simp at hb;subst hb;rw[aW (gV p hp)];exact f_ p hp
theorem dG.leave (k:dG aQ ents ent):dG (kJ aQ aZ) ents ent:=by
 have s:(kJ aQ aZ).Sublist aQ:=List.filter_sublist;exact⟨fun p hp=>k.rl p (s.subset hp),k.nd.sublist (s.map _),fun p hp=>k.sh p (s.subset hp),fun p hp=>k.en p (s.subset hp),k.up.sublist (s.map _)⟩
theorem yw{α:Type}{l:List (Str×α)}{z:Str}{a:α}(h:z∈l.map (·.1)):(fB l z a).map (·.1)=l.map (·.1):=by
 unfold fB;obtain⟨p,hp,e⟩:=cA.mp h;rw[aS (List.any_eq_true.mpr ⟨p,hp,iY e⟩),cF];exact gH fun q _=>by show(if q.1=z then(q.1,a)else q).1=q.1;split<;>rfl
theorem OH{α:Type}{l:List (Str×α)}{a:α}{p:Str×α}(h:p∈fB l aZ a):p=(aZ,a)\/p∈l:=by
 unfold fB at h;split at h
 ·obtain⟨q,hq,e⟩:=cA.mp h;split at e
  ·rename_i hz;left;rw[<-e,hz]
  ·right;rw[<-e];exact hq
 ·rcases dw.mp h with h|h
  ·exact .inr h
  ·exact .inl (cX.mp h)
theorem dG.role {r:Str}(k:dG aQ ents ent)(h:aZ∈aQ.map (·.1))(hr:r∈gy):dG (fB aQ aZ r) ents ent:=by
 have hk:=yw (a:=r) h;have hm:∀p∈fB aQ aZ r,∃q∈aQ,q.1=p.1:=fun p hp=>by
  have:p.1∈aQ.map (·.1):=by rw[<-hk];exact fV hp
  obtain⟨q,hq,e⟩:=cA.mp this;exact⟨q,hq,e⟩
 refine⟨fun p hp=>?_,by rw[hk];exact k.nd,fun p hp=>?_,fun p hp=>?_,?_⟩
 ·rcases OH hp with rfl|hp
  ·exact hr
  ·exact k.rl p hp
 ·obtain⟨q,hq,e⟩:=hm p hp;rw[<-e];exact k.sh q hq
 ·obtain⟨q,hq,e⟩:=hm p hp;rw[<-e];exact k.en q hq
 ·have:((fB aQ aZ r).map fun p=>ent p.1)=aQ.map fun p=>ent p.1:=by
   have e1:∀l:List (Str×Str),(l.map fun p=>ent p.1)=(l.map (·.1)).map ent:=fun l=>by rw[cF];rfl
   rw[e1,e1,hk]
  rw[this];exact k.up
theorem gF.E5 {cD:List Tr}{cN:List (Str×Str)}(o:gF rows aQ cD cN)(k:dG aQ ents ent):dG cN ents ent:=by
 cases o with
 |same _=>exact k
 |y0 z g _ _=>
  obtain⟨j,r,e,_⟩:=g.ex;exact k.role (cA.mpr ⟨_,dS e,rfl⟩) (by decide+kernel)
end
section
variable {rq:List (Str×Str)}{bn iv:List (Key×Tr)}{ent:Str->Int}{d:Str}
theorem GI{us:List Tr}{rk en ch rk' en' ch' bn' iv':List (Key×Tr)}(f:dY rows rk en ch bn iv)(h1:gu rk')(h2:gu en')(h3:gu ch')(h4:gu bn')(h5:gu iv'):dY (rows++[.tup us]) rk' en' ch' bn' iv':=⟨mI f.lg,h1,h2,h3,h4,h5⟩
theorem UG:gu (dP .str aQ):=t8 fun _ _ _=>rS
theorem flI:gu (dP .int ents):=t8 fun _ _ _=>Lf
theorem LJ{r:Str}(h:bx A aM rows (dP .str aQ) (dP .int ents) (dP .str rq) bn iv)(f:dY rows (dP .str aQ) (dP .int ents) (dP .str rq) bn iv)(hw:aZ.length<=1000)(hr:aQ.lookup aZ=some r):
  eI [.at aM,.str aZ] A=.exc (.str "Known") A:=by
 show cM (dC.1 [.sh (.at aM),.sh (.str aZ)] A)=_;unfold dC;have s:=ER (z:=aZ) (y:=" is in the room") hw (by decide+kernel);simp only[ev,cY,hJ,iz,h.t7 f,d9,hr,de,m5,s]
theorem LK{r:Tr}(h:bx A aM rows (dP .str aQ) (dP .int ents) (dP .str rq) bn iv)(f:dY rows (dP .str aQ) (dP .int ents) (dP .str rq) bn iv)(hw:aZ.length<=1000)(hr:aQ.lookup aZ=none)(hb:eN bn (.inr aZ)=some r):
  eI [.at aM,.str aZ] A=.exc (.str "Barred") A:=by
 show cM (dC.1 [.sh (.at aM),.sh (.str aZ)] A)=_;unfold dC;have s:=ER (z:=aZ) (y:=" is barred") hw (by decide+kernel);simp only[ev,cY,hJ,iz,h.t7 f,d9,hr,oQ,oB,h.Tp f,hb,m5,s]
theorem LL(h:bx A aM rows (dP .str aQ) (dP .int ents) (dP .str rq) bn iv)(f:dY rows (dP .str aQ) (dP .int ents) (dP .str rq) bn iv)(hw:aZ.length<=1000)(hr:aQ.lookup aZ=none)(hb:eN bn (.inr aZ)=none)(hd:rq.lookup ("door":Str)=some ("asked":Str))(hv:eN iv (.inr aZ)=none):
  eI [.at aM,.str aZ] A=.exc (.str "NotAsked") A:=by
 show cM (dC.1 [.sh (.at aM),.sh (.str aZ)] A)=_;unfold dC;have s:=ER (z:=aZ) (y:=" is not asked") hw (by decide+kernel);have Mx:rq.lookup (Str.ofString "door")=some (Str.ofString "asked"):=hd;simp only[ev,cY,hJ,iz,h.t7 f,d9,hr,oQ,oB,h.Tp f,hb,h.X3 f,dR,Mx,de,kS,bX,h.X4 f,hv,eR,s]
theorem OI(h:bx A aM rows (dP .str aQ) (dP .int ents) (dP .str rq) bn iv)(f:dY rows (dP .str aQ) (dP .int ents) (dP .str rq) bn iv)(k:dG aQ ents ent)(f_:∀p∈aQ,ent p.1<rows.length+1)(hl:rows.length+1<e_)(hr':aQ.length+1<e_)(he:ents.length<e_)(hw:aZ.length<=1000)
  (hr:aQ.lookup aZ=none) (hb:eN bn (.inr aZ)=none) (hd:rq.lookup ("door":Str)=some d) (hv:d≠"asked"\/(eN iv (.inr aZ)).isSome=true):
  ∃A' cD cN,eI [.at aM,.str aZ] A=.ok .cu A'/\gF (rows++[kh rows aZ "enter" []]) (fB aQ aZ "guest") cD cN/\Ext A A' ([(aM+2,.bT (dP .str cN)),(aM+1,.lst cD)]++[(aM+6,.bT (h_ iv (.inr aZ))),(aM+2,.bT (dP .str (fB aQ aZ "guest"))),(aM+3,.bT (dP .int (fB ents aZ (rows.length+1)))),(aM+1,.lst (rows++[kh rows aZ "enter" []]))])
   /\bx A' aM cD (dP .str cN) (dP .int (fB ents aZ (rows.length+1))) (dP .str rq) bn (h_ iv (.inr aZ)):=by
 obtain⟨A1,q1,q2,q3⟩:=OF (aZ:=aZ) (c7:="enter") (role:="guest") h f (by omega) (by rw[lR];omega) (by rw[lR];exact he);rw[nv,nv]at q2 q3;have hs:(fB aQ aZ "guest").length<e_:=by rw[uu hr,eP];exact hr'
 obtain⟨A2,cD,cN,s1,s2,s3,s4⟩:=LH q3 (GI f UG flI f.ch f.bn (Ii f.iv)) (k.enter (n:=rows.length+1) hr f_ hw (by decide+kernel)) (by rw[eP];exact hl) hs;refine⟨A2,cD,cN,?_,s2,q2.trans s3,s4⟩;show cM (dC.1 [.sh (.at aM),.sh (.str aZ)] A)=_;unfold dC;have Mx:rq.lookup (Str.ofString "door")=some d:=hd;have hc:Hf (.ok (d==("asked":Str))) (.ok (!(eN iv (.inr aZ)).isSome))=.ok false:=by
  rcases hv with hv|hv
  ·rw[show(d==("asked":Str))=false by simpa using hv];rfl
  ·rw[hv];cases(d==("asked":Str))<;>rfl
 simp only[ev,cY,hJ,iz,h.t7 f,d9,hr,oQ,oB,h.Tp f,hb,h.X3 f,dR,Mx,de,kS,h.X4 f,hc,h.call (m:="let_in") rfl,q1,q3.call (m:="see_to_owner") rfl,s1]
theorem LM(h:bx A aM rows (dP .str aQ) (dP .int ents) (dP .str rq) bn iv)(f:dY rows (dP .str aQ) (dP .int ents) (dP .str rq) bn iv)(hw:aZ.length<=1000)(hr:aQ.lookup aZ=none):
  gj [.at aM,.str aZ] A=.exc (.str "NotIn") A:=by
 show cM (gi.1 [.sh (.at aM),.sh (.str aZ)] A)=_;unfold gi;have n:=yu h f hw;rw[d9,hr]at n;simp only[ev,cY,hJ,iz,h.call (m:="need_in") rfl,n,oQ,oB,cW,cx]
theorem OJ{r:Str}(h:bx A aM rows (dP .str aQ) (dP .int ents) (dP .str rq) bn iv)(f:dY rows (dP .str aQ) (dP .int ents) (dP .str rq) bn iv)(k:dG aQ ents ent)(hl:rows.length+1<e_)(hr':aQ.length<e_)(hw:aZ.length<=1000)
  (hr:aQ.lookup aZ=some r):
  ∃A' cD cN,gj [.at aM,.str aZ] A=.ok .cu A'/\gF (rows++[kh rows aZ "leave" []]) (kJ aQ aZ) cD cN/\Ext A A' ([(aM+2,.bT (dP .str cN)),(aM+1,.lst cD)]++[(aM+2,.bT (dP .str (kJ aQ aZ))),(aM+1,.lst (rows++[kh rows aZ "leave" []]))])
   /\bx A' aM cD (dP .str cN) (dP .int ents) (dP .str rq) bn iv:=by
 have w:=Bt (aZ:=aZ) (c7:="leave") (ps:=[]) h f (by omega) (by decide) rfl;have h1:=h.Ts (Ext.put (o:=.lst (rows++[kh rows aZ "leave" []])) h.lg);have h2:=h1.Tt (Ext.put (o:=.bT (dP .str (kJ aQ aZ))) h1.rk);obtain⟨A2,cD,cN,s1,s2,s3,s4⟩:=LH h2 (GI f UG flI f.ch f.bn f.iv) (k.leave (aZ:=aZ)) (by rw[eP];exact hl) (sj (oq ..) hr');refine⟨A2,cD,cN,?_,s2,((Ext.put h.lg).trans (Ext.put h1.rk)).trans s3,s4⟩;show cM (gi.1 [.sh (.at aM),.sh (.str aZ)] A)=_;unfold gi;have n:=yu h f hw;rw[d9,hr]at n;have ef:∀A,rW (.ok (.tup [])) A=.ok (.tup []) A:=fun A=>rfl;have p:=Gu (z:=aZ) (v:=.str r) h1.rk (by rw[d9,hr];rfl);rw[AX]at p;simp only[ev,cY,hJ,iz,h.call (m:="need_in") rfl,n,de,m5,cK,h.call (m:="write_row") rfl,ef,w,h1.Tq,Gs h1.rk,p,h2.call (m:="see_to_owner") rfl,s1]
end
section
variable {c6:Str}
theorem OK(h:cy A bf a9)(hw:aZ.length<=1000):gY [.at 0,.tup [.str aZ]] A=if(bf.lookup aZ).isSome=true then .ok .cu A else .exc (.str "NoPerson") A:=by
 show cM (du.1 [.sh (.at 0),.sh (.tup [.str aZ]),.no] A)=_;unfold du;have s:=ER (z:="nobody is called ") (y:=aZ) (by decide+kernel) hw;simp only[ev,cY,hJ,iz,Gz,cg,cj,h.Om,d9,jP];cases(bf.lookup aZ).isSome with
 |true=>simp only[dz,ev,cY,cK]
 |false=>simp only[eR,ev,cY,hJ,iz,s,cW,cx]
theorem GJ(h:cy A bf a9)(hj:a9.lookup c6=some aM):uc [.at 0,.str c6] A=.ok (.at aM) A:=by
 show cM (j6.1 [.sh (.at 0),.sh (.str c6)] A)=_;unfold j6;simp only[ev,cY,hJ,iz,h.Tu,d9,hj,de,m5,dz,h.aaL,jY,vW h.pl,dR,kS]
theorem yx(h:cy A bf a9)(hw:aZ.length<=1000)(hj:a9.lookup c6=some aM):iP [.at 0,.tup [.str aZ],.str c6] A=if(bf.lookup aZ).isSome=true then .ok (.at aM) A else .exc (.str "NoPerson") A:=by
 show cM (d6.1 [.sh (.at 0),.sh (.tup [.str aZ]),.sh (.str c6)] A)=_;unfold d6;simp only[ev,cY,hJ,iz,h.call (m:="need_people") rfl,OK h hw];cases(bf.lookup aZ).isSome with
 |true=>simp only[cK,ev,cY,hJ,iz,h.call (m:="place") rfl,GJ h hj]
 |false=>simp only[cW,cx,ev]
theorem LN(h:cy A bf a9)(hw:aZ.length<=1000)(hj:a9.lookup c6=some aM)(hF:qX "Room" "enter" eI (.ok (.at aM) A) (fun A=>.ok [.str aZ] A)=eI [.at aM,.str aZ] A):
  nK [.at 0,.str aZ,.str c6] A=if(bf.lookup aZ).isSome=true then cM (qV (eI [.at aM,.str aZ] A) [.sh (.at 0),.sh (.str aZ),.sh (.str c6)])else .exc (.str "NoPerson") A:=by
 show cM (j7.1 [.sh (.at 0),.sh (.str aZ),.sh (.str c6)] A)=_;unfold j7;have ef:∀A,rW (.ok (.tup [.str aZ])) A=.ok (.tup [.str aZ]) A:=fun A=>rfl;simp only[ev,cY,hJ,iz,h.call (m:="place_for") rfl,ef,yx h hw hj];cases(bf.lookup aZ).isSome with
 |true=>simp only[cK];rw[hF]
 |false=>simp only[cW,cx];rfl
theorem LO(h:cy A bf a9)(hw:aZ.length<=1000)(hj:a9.lookup c6=some aM)(hF:qX "Room" "leave" gj (.ok (.at aM) A) (fun A=>.ok [.str aZ] A)=gj [.at aM,.str aZ] A):
  nL [.at 0,.str aZ,.str c6] A=if(bf.lookup aZ).isSome=true then cM (qV (gj [.at aM,.str aZ] A) [.sh (.at 0),.sh (.str aZ),.sh (.str c6)])else .exc (.str "NoPerson") A:=by
 show cM (j8.1 [.sh (.at 0),.sh (.str aZ),.sh (.str c6)] A)=_;unfold j8;have ef:∀A,rW (.ok (.tup [.str aZ])) A=.ok (.tup [.str aZ]) A:=fun A=>rfl;simp only[ev,cY,hJ,iz,h.call (m:="place_for") rfl,ef,yx h hw hj];cases(bf.lookup aZ).isSome with
 |true=>simp only[cK];rw[hF]
 |false=>simp only[cW,cx];rfl
end
section
variable {ks kb ka n:Nat}{stays:List jB}{asked:List Str}{d v p c7:Str}
theorem Bu{ps:List Tr}(h:bU A aM ks kb ka rows bo stays bw asked d v p)(f:jK rows)(hl:rows.length<e_)(hp:2+ps.length<=e_)(ht:mB ps=true):
  Bs [.at aM,.str aZ,.tup ps] A=.ok (.int (rows.length+1)) (A.set (aM+1) (.lst (rows++[.tup (.int (rows.length+1):: .str aZ::ps)]))):=by
 show cM (v5.1 [.sh (.at aM),.sh (.str aZ),.sh (.tup ps)] A)=_;unfold v5;have h1:=h.Lj (Ext.put (o:=.lst (rows++[.tup (.int (rows.length+1):: .str aZ::ps)])) h.rw);have e3:yQ (.tup [.int (rows.length+1),.str aZ]) (.tup ps)=.ok (.tup (.int (rows.length+1):: .str aZ::ps)):=aS hp;have ef:∀A,rW (.ok (.tup (.int (rows.length+1):: .str aZ::ps))) A=.ok (.tup (.int (rows.length+1):: .str aZ::ps)) A:=fun A=>aS (by simpa only[IK,mB,oW]using ht);have el:((rows++[Tr.tup (.int (rows.length+1):: .str aZ::ps)]).length:Int)=rows.length+1:=by simp
 simp only[ev,cY,hJ,iz,jY,h.aaM,EN h.rw,h.Tv (n:=3) f,e3,ef,EO h.rw hl,h1.Tv (n:=3) (mI f),el]
theorem LP(h:bU A aM ks kb ka rows bo stays bw asked d v p)(f:jK rows)(hl:rows.length<e_)(hs:stays.length<e_)(hr:bo.length<e_)(ha:asked.length<=e_):
  ∃A' X9 f1,uS [.at aM,.str aZ,.str c7] A=.ok .cu A'/\A.length<=X9/\Ext A A' [(aM,.bT (dP id (C_ aM ks kb X9 d v p))),(aM+2,.bT (dP .str (fB bo aZ "guest"))),(ks,.lst ((stays++[(aZ,f1,(rows.length+1:Int),none)]).map vD)),(aM+1,.lst (rows++[kh rows aZ c7 []]))]
   /\bU A' aM ks kb X9 (rows++[kh rows aZ c7 []]) (fB bo aZ "guest") (stays++[(aZ,f1,(rows.length+1:Int),none)]) bw (asked.filter fun z=>!(z==aZ)) d v p:=by
 have w:=Bu (aZ:=aZ) (ps:=[.str c7]) h f hl (by show 2+1<=e_;decide) rfl;have h1:=h.Lj (Ext.put (o:=.lst (rows++[kh rows aZ c7 []])) h.rw)
 let f1:Int:=if p="shown"then 1 else rows.length+1
 have h2:=h1.aaO (pP:=stays++[(aZ,f1,(rows.length+1:Int),none)]) (Ext.put h1.st);have h3:=h2.Oq (lS:=fB bo aZ "guest") (Ext.put h2.rl);have h4:=h3.aaP (ya:=asked.filter fun z=>!(z==aZ));have x1:=((Ext.put (o:=.lst (rows++[kh rows aZ c7 []])) h.rw).trans (Ext.put (o:=.lst ((stays++[(aZ,f1,(rows.length+1:Int),none)]).map vD)) h1.st)).trans (Ext.put (o:=.bT (dP .str (fB bo aZ "guest"))) h2.rl);refine⟨_,_,f1,?_,x1.le,x1.cons (Ext.past Ext.push (Ext.put (Ext.push.same h3.o rfl))),h4⟩;show cM (qJ.1 [.sh (.at aM),.sh (.str aZ),.sh (.str c7),.no,.no] A)=_;unfold qJ;have ef:∀A,rW (.ok (.tup [.str c7])) A=.ok (.tup [.str c7]) A:=fun A=>rfl;have eg:∀A,rW (.ok (.tup [.str aZ,.int f1,.int (rows.length+1),.cu])) A=.ok (.tup [.str aZ,.int f1,.int (rows.length+1),.cu]) A:=fun A=>rfl;have ei:JF (.ok (p==("shown":Str))) (.ok (.int 1)) (.ok (.int (rows.length+1)))=.ok (.int f1):=by
  show(if(p==("shown":Str))then _ else _)=_;by_cases q:p="shown"
  ·subst q;rfl
  ·rw[show(p==("shown":Str))=false by simpa using q];show Rs.ok _=_;congr 2;exact(aW q).symm
 have ep:=pO (z:=aZ) (t:=.str "guest") (Y:=[.sh (.at aM),.sh (.str aZ),.sh (.str c7),.sh (.int (rows.length+1)),.sh (.int f1)]) h2.rl (by rw[lR];exact hr);rw[nv]at ep;have ea:=EO (t:=.tup [.str aZ,.int f1,.int (rows.length+1),.cu]) h1.st (by rw[bj];exact hs);rw[show stays.map vD++[.tup [.str aZ,.int f1,.int (rows.length+1),.cu]]=(stays++[(aZ,f1,(rows.length+1:Int),none)]).map vD by rw[jU];rfl]at ea;simp only[ev,cY,hJ,iz,ef,w,cg,cj,h1.a_p (n:=4),ei,jY,h1.aaN,EN h1.st,eg,ea,rV,h2.Oo,ep,Gz,h3.Tw (n:=3)];rw[qF (AY:=[.sh (.str aZ)]) (fun z=>!(z==aZ)) rfl ha rfl (fun _=>rfl) ?hC]
 case hC=>intro z hz;simp only[ev,Ot]
 simp only[vU qD,rV,ev,cY,hJ,iz,h3.aaR]
def ju(aZ:Str)(n:Int)(s:jB):jB:=if s.1=aZ/\s.2.2.2=none then(s.1,s.2.1,s.2.2.1,some n)else s
theorem OL{n:Int}{r:Str}(h:bU A aM ks kb ka rows bo stays bw asked d v p)(hs:stays.length<=e_)(hr:bo.lookup aZ=some r):
  ∃A' X_,yr [.at aM,.str aZ,.int n] A=.ok .cu A'/\A.length<=X_/\Ext A A' [(aM,.bT (dP id (C_ aM X_ kb ka d v p))),(aM+2,.bT (dP .str (kJ bo aZ)))]
   /\bU A' aM X_ kb ka rows (kJ bo aZ) (stays.map (ju aZ n)) bw asked d v p:=by
 have h1:=h.Oq (lS:=kJ bo aZ) (Ext.put h.rl);have h2:=h1.aaQ (pP:=stays.map (ju aZ n));have x1:=Ext.put (o:=.bT (dP .str (kJ bo aZ))) h.rl;refine⟨_,_,?_,x1.le,x1.cons (Ext.past Ext.push (Ext.put (Ext.push.same h1.o rfl))),h2⟩;show cM (um.1 [.sh (.at aM),.sh (.str aZ),.sh (.int n)] A)=_;unfold um;have pp:=Gu (z:=aZ) (v:=.str r) h.rl (by rw[d9,hr];rfl);rw[AX]at pp;simp only[ev,cY,hJ,iz,jY,h.Oo,Gs h.rl,pp,h1.X5 (n:=3),Gz];rw[lz (AY:=[.sh (.str aZ),.sh (.int n)]) (fun _=>true) vD (fun s=>vD (ju aZ n s)) rfl hs rfl (fun _ _=>rfl) ?hF]
 case hF=>
  intro s _ _;obtain⟨a,b,c,e⟩:=s;have i0:jI (vD (a,b,c,e)) (.int 0)=.ok (.str a):=rfl;have i3:jI (vD (a,b,c,e)) (.int 3)=.ok (ES e):=rfl;have is:AS (.ok (vD (a,b,c,e))) (.ok none) (Nw (.ok (.int 3)))=.ok (.tup [.str a,.int b,.int c]):=rfl;have ia:yQ (.tup [.str a,.int b,.int c]) (.tup [.int n])=.ok (.tup [.str a,.int b,.int c,.int n]):=rfl;cases e with
  |none=>
   have ie:FR (ES none) .cu=.ok (.bl true):=rfl;by_cases q:a=aZ
   ·subst q;simp only[ev,cY,i0,i3,is,ia,ie,bX,ju,and_self,cK]
    rfl
   ·have:(a==aZ)=false:=by simpa using q
    simp only[ev,cY,i0,this,ju,q,false_and,cx]
  |some m=>
   have ie:FR (ES (some m)) .cu=.ok (.bl false):=rfl;simp only[ev,cY,i0,i3,ie,ju,reduceCtorEq,and_false,cx];cases(a==aZ)<;>rfl
 rw[show stays.filter (fun _=>true)=stays from oA.mpr fun _ _=>rfl,show(stays.map fun s=>vD (ju aZ n s))=(stays.map (ju aZ n)).map vD by rw[cF];rfl];simp only[vU yb,rV,ev,cY,hJ,iz,h1.aaS]
end
section
variable {ks kb ka n:Nat}{stays:List jB}{asked:List Str}{d v p c7:Str}{ent:Str->Int}
theorem E6{T:Tr}{r:Str}(hT:jI T (.str "roles")=.ok (.bT (dP .str bo)))(hr:bo.lookup aZ=some r)(h4:r∈gy):yp [T,.str aZ]=.ok (.int (lvl r)):=by
 show dE (mP.1 [.sh T,.sh (.str aZ)])=_;unfold mP;have e4:∀X:Rs Tr,(if([.str "guest",.str "speaker",.str "keeper",.str "owner"]:List Tr).length<=e_ then X else .bad)=X:=fun X=>aS (by show 4<=e_;decide);have ei:vA [.str "guest",.str "speaker",.str "keeper",.str "owner"] (.str r)=.ok (.int (lvl r)):=by
  have:r="guest"\/r="speaker"\/r="keeper"\/r="owner":=by simpa using h4
  rcases this with rfl|rfl|rfl|rfl<;>rfl
 simp only[ev,cY,hT,d9,hr,de,m5,e4,dR,kS,ei]
def pZ(stays:List jB):List Str:=(stays.filter fun s=>s.2.2.2.isNone).map (·.1)
theorem uv{α:Type}{Q:α->Bool}{x:α}:∀{l r:List α},l.filter Q=x::r->∃a:Nat,l[a]?=some x/\Q x=true/\∀(b:Nat) (y:α),b<a->l[b]?=some y->Q y=false
 |y::l,r,h=>by
  cases e:Q y with
  |true=>
   rw[kX e]at h;cases h;exact⟨0,rfl,e,fun b y hb=>absurd hb (wF _)⟩
  |false=>
   rw[jM (by rw[e];exact fD)]at h;obtain⟨a,h1,h2,h3⟩:=uv h;refine⟨a+1,h1,h2,fun b z hb hz=>?_⟩;cases b with
   |zero=>cases hz;exact e
   |succ b=>exact h3 b z (Nat.lt_of_succ_lt_succ hb) hz
theorem ix0{t:Tr}:jI (.lst (t::rows)) (.int 0)=.ok t:=by
 show kS (uC (t::rows) 0)=_;have:Mi (t::rows).length 0=some 0:=by unfold Mi;simp
 unfold uC;rw[this]
 rfl
theorem yy(h:bU A aM ks kb ka rows bo stays bw asked d v p)(f:jK rows)(k:dG bo ents ent)(ho:pZ stays=bo.map (·.1))(hl:rows.length<e_)(hs:stays.length<=e_)(hr:bo.length<e_):
  ∃A' cD lS,mQ [.at aM] A=.ok .cu A'/\gF rows bo cD lS/\Ext A A' [(aM+1,.lst cD),(aM+2,.bT (dP .str lS))]/\bU A' aM ks kb ka cD lS stays bw asked d v p:=by
 show∃A' cD lS,cM (qK.1 [.sh (.at aM),.no,.no] A)=.ok .cu A'/\_;unfold qK;have x0:Ext A A [(aM+1,.lst rows),(aM+2,.bT (dP .str bo))]:=(Ext.refl.idem h.rl rfl).idem h.rw (jv (by omega));have hT:=h.C' (n:=3);simp only[ev,cY,hJ,iz,hT,Tx];by_cases gV:bo=[]
 ·subst gV;exact⟨_,_,_,rfl,.same (.inl rfl),x0,h⟩
 have he:bo.isEmpty=false:=by cases bo<;>first|exact absurd rfl gV|rfl
 simp only[he,eR,dz,ev,vV k.sh,map_fst];rw[lz (AY:=[.sh (aU 5 A (.at aM))]) (fun _=>true) (fun p=>.str p.1) (fun p=>.str p.2) (xs:=bo) (by rw[cF];rfl) (dA hr) rfl (fun _ _=>rfl) ?hF]
 case hF=>intro q hq _;simp only[ev,cY,hT,dR,iy k.nd q hq,de,kS]
 rw[show bo.filter (fun _=>true)=bo from oA.mpr fun _ _=>rfl,show(bo.map fun p=>Tr.str p.2)=(bo.map (·.2)).map .str by rw[cF];rfl];simp only[ev,cY,hJ,iz,A5];by_cases hw:∃p∈bo,p.2="owner"
 ·have:(bo.map (·.2)).contains (Str.ofString "owner")=true:=by
   obtain⟨q,hq,e⟩:=hw;exact eO.mpr (cA.mpr ⟨q,hq,e⟩)
  simp only[this,ev];exact⟨_,_,_,rfl,.same (.inr hw),x0,h⟩
 have IP:∀p∈bo,p.2≠"owner":=fun p hp e=>hw ⟨p,hp,e⟩;have hc:(bo.map (·.2)).contains (Str.ofString "owner")=false:=by
  cases e:(bo.map (·.2)).contains (Str.ofString "owner")with
  |false=>rfl
  |true=>
   obtain⟨q,hq,e⟩:=cA.mp (eO.mp e);exact absurd e (IP q hq)
 simp only[hc,ev,cY,hJ,iz,hT,vV k.sh,map_fst];rw[lz (AY:=[.sh (aU 5 A (.at aM))]) (fun _=>true) (fun p=>.str p.1) (fun p=>.int (lvl p.2)) (xs:=bo) (by rw[cF];rfl) (dA hr) rfl (fun _ _=>rfl) ?hF]
 case hF=>intro q hq _;simp only[ev,cY,E6 hT (iy k.nd q hq) (k.rl q hq)]
 rw[show bo.filter (fun _=>true)=bo from oA.mpr fun _ _=>rfl];have hmx:=max_map (f:=fun q:Str×Str=>lvl q.2) gV;obtain⟨m1,m2⟩:=ET (ns:=bo.map fun q=>lvl q.2) (by rw[bj];exact sg.mpr gV);generalize q_ (bo.map fun q=>lvl q.2)=most at hmx m1 m2;simp only[ev,cY,hJ,iz,hmx,cg,cj,h.X5 (n:=3),Gz]
 let Q:Str->Bool:=fun z=>match bo.lookup z with|some r=>lvl r==most|none=>false
 have hQ:∀q∈bo,Q q.1=(lvl q.2==most):=fun q hq=>by show(match bo.lookup q.1 with|some r=>lvl r==most|none=>false)=_;rw[iy k.nd q hq]
 rw[lz (AY:=[.sh (.int most),.sh (aU 5 A (.at aM))]) (fun s:jB=>s.2.2.2.isNone&&Q s.1) vD (fun s=>.str s.1) rfl hs rfl ?hC ?hF]
 case hC=>
  intro s hs;obtain⟨a,b,c,e⟩:=s;have i0:jI (vD (a,b,c,e)) (.int 0)=.ok (.str a):=rfl;have i3:jI (vD (a,b,c,e)) (.int 3)=.ok (ES e):=rfl;cases e with
  |some m=>
   have ie:FR (ES (some m)) .cu=.ok (.bl false):=rfl;simp only[ev,cY,i3,ie,wt,wI]
  |none=>
   have ie:FR (ES none) .cu=.ok (.bl true):=rfl;have hm:a∈pZ stays:=cA.mpr ⟨_,fY.mpr ⟨hs,rfl⟩,rfl⟩;rw[ho]at hm;obtain⟨q,hq,e⟩:=cA.mp hm;subst e;simp only[ev,cY,i0,i3,ie,E6 hT (iy k.nd q hq) (k.rl q hq),Option.isNone_none,oW,hQ q hq]
 case hF=>intro s _ _;obtain⟨a,b,c,e⟩:=s;rfl
 have ht:(stays.filter fun s:jB=>s.2.2.2.isNone&&Q s.1).map (fun s=>Tr.str s.1)=((bo.filter fun q=>lvl q.2==most).map (·.1)).map .str:=by
  rw[show(fun s:jB=>Tr.str s.1)=Tr.str∘(·.1)from rfl,<-cF];congr 1;have e1:(stays.filter fun s:jB=>s.2.2.2.isNone&&Q s.1)=(stays.filter fun s=>s.2.2.2.isNone).filter fun s=>Q s.1:=by
   rw[List.filter_filter];congr 1;funext s;exact Bool.and_comm ..
  have e2:((stays.filter fun s=>s.2.2.2.isNone).filter fun s=>Q s.1).map (·.1)=(pZ stays).filter Q:=by unfold pZ;rw[oP];rfl
  rw[e1,e2,ho,oP];congr 1;exact sA fun q hq=>hQ q hq
 rw[ht];obtain⟨q0,hq0,e0⟩:=cA.mp m1;have hfe:(bo.filter fun q=>lvl q.2==most)≠[]:=List.ne_nil_of_mem (fY.mpr ⟨hq0,by simpa using e0⟩);obtain⟨⟨z,rz⟩,c9,hfz⟩:=List.exists_cons_of_ne_nil hfe;obtain⟨a,a1,a2,a3⟩:=uv hfz;have hz:Iz bo z:=⟨a,rz,a1,fun q hq=>by
  have:=m2 _ (fV hq);have e:lvl rz=most:=by simpa using a2
  rw[e];exact this,fun b q hb hq=>by
  have h1:=m2 _ (fV (f:=fun q:Str×Str=>lvl q.2) (dS hq));have h2:¬lvl q.2=most:=by simpa using a3 b q hb hq
  have e:lvl rz=most:=by simpa using a2
  omega⟩
 rw[hfz];have h1:=h.ext (Ext.push (o:=.lst ((((z,rz)::c9).map (·.1)).map .str))) fun _ _=>rfl;have h2:=h1.Oq (lS:=fB bo z "owner") (Ext.put h1.rl);have t1:aU 5 (A++[Ao.lst ((((z,rz)::c9).map (·.1)).map .str)]) (.at A.length)=.lst ((((z,rz)::c9).map (·.1)).map .str):=by rw[kI ly,qE]
 have t2:aU 5 ((A++[Ao.lst ((((z,rz)::c9).map (·.1)).map .str)]).set (aM+2) (.bT (dP .str (fB bo z "owner")))) (.at A.length)=.lst ((((z,rz)::c9).map (·.1)).map .str):=by
  rw[kI (((Ext.put h1.rl).same ly (jv (by have:=ik h.rl;omega)))),qE]
 have i0:jI (.lst ((((z,rz)::c9).map (·.1)).map .str)) (.int 0)=.ok (.str z):=ix0;have ep:=pO (z:=z) (t:=.str "owner") (Y:=[.sh (.at aM),.sh (.int most),.sh (.at A.length)]) h1.rl (by rw[lR];exact hr);rw[nv]at ep;have w:=Bu (aZ:=z) (ps:=[.str "role",.str z,.str "owner"]) h2 f hl (by show 2+3<=e_;decide) rfl;have ef:∀A,rW (.ok (.tup [.str "role",.str z,.str "owner"])) A=.ok (.tup [.str "role",.str z,.str "owner"]) A:=fun A=>rfl;simp only[vU qD,ev,cY,hJ,iz,cg,cj,rV,jY,h1.Oo,t1,i0,ep,t2,ef,w];exact⟨_,_,_,rfl,.y0 z hz IP gV,(Ext.past Ext.push (Ext.put h1.rl)).cons (Ext.put h2.rw),h2.Lj (Ext.put h2.rw)⟩
end
section
variable {ks kb ka n:Nat}{stays:List jB}{cq asked:List Str}{d v p c6:Str}
theorem GK{c7:Str}(m:fR A bw c8)(h:bU A aM ks kb ka rows bo stays cq asked d v p)(hj:c8.lookup c6=some aM)(hw:c7="found"\/c7="enter"\/c7="leave"):
  fg [aU 5 A (.at 4),.tup [.str c7,.str aZ,.str c6]]=.ok (if bw.contains aZ=false then .str "no person"else if c7="found"then .str "known"else if c7="enter"then(if(bo.lookup aZ).isSome=true then .str "known"else if cq.contains aZ=true then .str "barred"else if d="asked"/\asked.contains aZ=false then .str "not asked"else .cu)else if(bo.lookup aZ).isSome=true then .cu else .str "not in"):=by
 show dE (g7.1 [.sh (aU 5 A (.at 4)),.sh (.tup [.str c7,.str aZ,.str c6]),.no,.no,.no])=_;unfold g7;have i0:jI (.tup [.str c7,.str aZ,.str c6]) (.int 0)=.ok (.str c7):=rfl;have i1:jI (.tup [.str c7,.str aZ,.str c6]) (.int 1)=.ok (.str aZ):=rfl;have i2:jI (.tup [.str c7,.str aZ,.str c6]) (.int 2)=.ok (.str c6):=rfl;have n1:(c7==Str.ofString "come")=false:=by rcases hw with rfl|rfl|rfl<;>decide+kernel
 have n2:Ho (.str c7) (.tup [.str "ask",.str "role",.str "out",.str "bar",.str "unbar"])=.ok (.bl false):=by rcases hw with rfl|rfl|rfl<;>rfl
 have n3:Ho (.str c7) (.tup [.str "say",.str "mend",.str "take_back"])=.ok (.bl false):=by rcases hw with rfl|rfl|rfl<;>rfl
 have l1:∀a,yN (.ok [a])=.ok (.lst [a]):=fun _=>rfl;have a1:yQ (.lst [.str aZ]) (.lst [])=.ok (.lst [.str aZ]):=rfl;have tr:∀x:Bool,pj (.lst (((if x then[aZ]else[]):List Str).map .str))=.ok x:=fun x=>by cases x<;>rfl
 have t3:aU 3 A (.at aM)=.bT (dP (aU 2 A) (C_ aM ks kb ka d v p)):=gQ h.o;simp only[ev,cY,i0,i1,i2,cg,cj,n1,l1,Gz];rw[lz (AY:=[.sh (.tup [.str c7,.str aZ,.str c6]),.sh (.str c7)]) (fun _:Unit=>false) (fun _=>.int 3) (fun _=>.cu) (xs:=[()]) (by rfl) (by decide) rfl (fun _ _=>by simp only[ev,cY,n2]) (fun _ _ e=>by cases e)];simp only[oH,wG,cW,cx,mf,a1,ev,cY,Gz,cg,cj];rw[qF (ns:=[aZ]) (AY:=[.sh (aU 5 A (.at 4))]) (fun z=>!bw.contains z) (by rfl) (by show 1<=e_;decide) rfl (fun _=>rfl) ?hC]
 case hC=>intro z _;simp only[ev,cY,m.Tz (n:=3),yc]
 have tf:pj (.lst ((List.filter (fun z=>!bw.contains z) [aZ]).map .str))=.ok (!bw.contains aZ):=by
  rw[oH,wG];exact tr _
 simp only[ev,cY,tf];cases hp:bw.contains aZ with
 |false=>simp only[eR,ev,cK]
 |true=>
  simp only[dz,ev,cY,i1,i2,m.Ln (n:=3),Dc,hj,de,oJ,cg,cj,Bool.true_eq_false,cx];rcases hw with rfl|rfl|rfl
  ·simp only[bX,ev,cY,t3,Ov,cK]
  ·have s1:(Str.ofString "enter"==Str.ofString "found")=false:=by decide+kernel
   have s2:¬(Str.ofString "enter"=Str.ofString "found"):=by decide+kernel
   simp only[s1,s2,ev,cY,cx,bX,cK];rw[show FR (aU 3 A (.at aM)) .cu=.ok (.bl false) by rw[t3];rfl];simp only[ev,cY,i1,bX,h.C' (n:=1),d9,jP];cases(bo.lookup aZ).isSome with
   |true=>simp only[ev,cY,cK]
   |false=>
    simp only[ev,cY,i1,h.X6 (n:=1),A5,cW,cx];cases cq.contains aZ with
    |true=>simp only[ev,cY,cK]
    |false=>
     simp only[ev,cY,i1,h.Tw (n:=1),h.a_d (n:=2),yc,cW,cx];by_cases hd:d="asked"
     ·subst hd;simp only[bX,ev,cY,true_and];cases asked.contains aZ<;>rfl
     ·have:(d==Str.ofString "asked")=false:=by simpa using hd
      simp only[this,ev,cY,hd,false_and,cx]
  ·have s1:(Str.ofString "leave"==Str.ofString "found")=false:=by decide+kernel
   have s2:¬(Str.ofString "leave"=Str.ofString "found"):=by decide+kernel
   have s3:(Str.ofString "leave"==Str.ofString "enter")=false:=by decide+kernel
   have s4:¬(Str.ofString "leave"=Str.ofString "enter"):=by decide+kernel
   simp only[s1,s2,s3,s4,ev,cY,cx];rw[show FR (aU 3 A (.at aM)) .cu=.ok (.bl false) by rw[t3];rfl];simp only[ev,cY,i1,s3,h.C' (n:=1),d9,jP];cases(bo.lookup aZ).isSome with
   |true=>simp only[dz,ev,cY,n3,bX,cK]
   |false=>simp only[eR,ev,cY,cW,cx]
end
section
variable {A0 A1 A2:Ab}{c6:Str}
theorem LQ(m:fR A bw c8)(hj:c8.lookup c6=some aM)(q1:uS [.at aM,.str aZ,.str "enter"] A=.ok .cu A1)(q2:mQ [.at aM] A1=.ok .cu A2):mR [.at 4,.tup [.str "enter",.str aZ,.str c6]] A=.ok .cu A2:=by
 show cM (jr.1 [.sh (.at 4),.sh (.tup [.str "enter",.str aZ,.str c6]),.no,.no,.no] A)=_;unfold jr;have sl:AS (.ok (.tup [.str "enter",.str aZ,.str c6])) (.ok none) (Nw (.ok (.int 2)))=.ok (.tup [.str "enter",.str aZ]):=rfl;have ef:∀A,rW (.ok (.tup [.str "enter",.str aZ])) A=.ok (.tup [.str "enter",.str aZ]) A:=fun A=>rfl;have gt:∀A,JV (gT [2,3]) (.ok (.tup [.str "enter",.str aZ]) A) [.sh (.at 4),.sh (.tup [.str "enter",.str aZ,.str c6]),.no,.no,.no]=.ok (.nx [.sh (.at 4),.sh (.tup [.str "enter",.str aZ,.str c6]),.sh (.str "enter"),.sh (.str aZ),.no]) A:=fun A=>rfl;have i2:jI (.tup [.str "enter",.str aZ,.str c6]) (.int 2)=.ok (.str c6):=rfl;have s1:(Str.ofString "enter"==Str.ofString "come")=false:=by decide+kernel
 have s2:(Str.ofString "enter"==Str.ofString "found")=false:=by decide+kernel
 have s3:(Str.ofString "enter"==Str.ofString "say")=false:=by decide+kernel
 simp only[ev,cY,hJ,iz,sl,ef,gt,s1,s2,s3,i2,jY,m.TB,vW m.rs,dR,hj,de,kS,cg,cj,bX,q1,q2]
theorem LR{n:Int}(m:fR A bw c8)(hj:c8.lookup c6=some aM)(q0:Bs [.at aM,.str aZ,.tup [.str "leave"]] A=.ok (.int n) A0)(q1:yr [.at aM,.str aZ,.int n] A0=.ok .cu A1)(q2:mQ [.at aM] A1=.ok .cu A2):mR [.at 4,.tup [.str "leave",.str aZ,.str c6]] A=.ok .cu A2:=by
 show cM (jr.1 [.sh (.at 4),.sh (.tup [.str "leave",.str aZ,.str c6]),.no,.no,.no] A)=_;unfold jr;have sl:AS (.ok (.tup [.str "leave",.str aZ,.str c6])) (.ok none) (Nw (.ok (.int 2)))=.ok (.tup [.str "leave",.str aZ]):=rfl;have ef:∀A,rW (.ok (.tup [.str "leave",.str aZ])) A=.ok (.tup [.str "leave",.str aZ]) A:=fun A=>rfl;have eg:∀A,rW (.ok (.tup [.str "leave"])) A=.ok (.tup [.str "leave"]) A:=fun A=>rfl;have gt:∀A,JV (gT [2,3]) (.ok (.tup [.str "leave",.str aZ]) A) [.sh (.at 4),.sh (.tup [.str "leave",.str aZ,.str c6]),.no,.no,.no]=.ok (.nx [.sh (.at 4),.sh (.tup [.str "leave",.str aZ,.str c6]),.sh (.str "leave"),.sh (.str aZ),.no]) A:=fun A=>rfl;have i2:jI (.tup [.str "leave",.str aZ,.str c6]) (.int 2)=.ok (.str c6):=rfl;have s1:(Str.ofString "leave"==Str.ofString "come")=false:=by decide+kernel
 have s2:(Str.ofString "leave"==Str.ofString "found")=false:=by decide+kernel
 have s3:(Str.ofString "leave"==Str.ofString "say")=false:=by decide+kernel
 have s4:(Str.ofString "leave"==Str.ofString "enter")=false:=by decide+kernel
 simp only[ev,cY,hJ,iz,sl,ef,eg,gt,s1,s2,s3,s4,i2,jY,m.TB,vW m.rs,dR,hj,de,kS,cg,cj,bX,q0,q1,q2]
theorem bsr{X:Rz Tr}{G:bO->Ab->Rz Out}:cM (Ej (JU X) G)=X:=by cases X<;>rfl
theorem LS(h:cy A bf a9):gE [.at 0,.tup [.str "enter",.str aZ,.str c6]] A=nK [.at 0,.str aZ,.str c6] A:=by
 show cM (js.1 [.sh (.at 0),.sh (.tup [.str "enter",.str aZ,.str c6]),.no] A)=_;unfold js;have i0:jI (.tup [.str "enter",.str aZ,.str c6]) (.int 0)=.ok (.str "enter"):=rfl;have i1:jI (.tup [.str "enter",.str aZ,.str c6]) (.int 1)=.ok (.str aZ):=rfl;have i2:jI (.tup [.str "enter",.str aZ,.str c6]) (.int 2)=.ok (.str c6):=rfl;have s1:(Str.ofString "enter"==Str.ofString "come")=false:=by decide+kernel
 have s2:(Str.ofString "enter"==Str.ofString "found")=false:=by decide+kernel
 simp only[ev,cY,hJ,iz,i0,i1,i2,s1,s2,cg,cj,bX,h.call (m:="enter") rfl,bsr]
theorem LU(h:cy A bf a9):gE [.at 0,.tup [.str "leave",.str aZ,.str c6]] A=nL [.at 0,.str aZ,.str c6] A:=by
 show cM (js.1 [.sh (.at 0),.sh (.tup [.str "leave",.str aZ,.str c6]),.no] A)=_;unfold js;have i0:jI (.tup [.str "leave",.str aZ,.str c6]) (.int 0)=.ok (.str "leave"):=rfl;have i1:jI (.tup [.str "leave",.str aZ,.str c6]) (.int 1)=.ok (.str aZ):=rfl;have i2:jI (.tup [.str "leave",.str aZ,.str c6]) (.int 2)=.ok (.str c6):=rfl;have s1:(Str.ofString "leave"==Str.ofString "come")=false:=by decide+kernel
 have s2:(Str.ofString "leave"==Str.ofString "found")=false:=by decide+kernel
 have s3:(Str.ofString "leave"==Str.ofString "enter")=false:=by decide+kernel
 simp only[ev,cY,hJ,iz,i0,i1,i2,s1,s2,s3,cg,cj,bX,h.call (m:="leave") rfl,bsr]
variable {ts:List Tr}{x w:Str}
theorem TJ(q:gE [.at 0,.tup ts] A=.ok .cu A1):pY [.at 0,.tup ts] A=.ok .cu A1:=by
 show cM (mS.1 [.sh (.at 0),.sh (.tup ts),.no,.no,.no] A)=_;unfold mS;have tz:∀o A G,EB 5 4 ["Known","NoPerson","NoRoom","NotIn","NotAsked","Barred","NoRight","NoRow","NoHand","NoLine"] (.ok o A) G=.ok o A:=fun _ _ _=>rfl;have ic:FR .cu .cu=.ok (.bl true):=rfl;simp only[ev,cY,hJ,iz,cg,cj,q,tz,ic]
theorem OM(q:gE [.at 0,.tup ts] A=.exc (.str x) A)(hx:(["Known","NoPerson","NoRoom","NotIn","NotAsked","Barred","NoRight","NoRow","NoHand","NoLine"]:List Str).contains x=true)(hw:yq [.zd x]=.ok (.str w)):pY [.at 0,.tup ts] A=.ok (.str w) (A++[.DH x]):=by
 show cM (mS.1 [.sh (.at 0),.sh (.tup ts),.no,.no,.no] A)=_;unfold mS;have tz:∀A:Ab,EB 5 4 ["Known","NoPerson","NoRoom","NotIn","NotAsked","Barred","NoRight","NoRow","NoHand","NoLine"] (.exc (.str x) A) (fun Y A=>Aw 2 (gs (xm Y 4) A) Y)=.ok (.nx [.no,.no,.sh (.at A.length),.no,.no]) (A++[.DH x]):=fun A=>by
  unfold EB Xf;simp only[hx,cK]
  rfl
 have t1:aU 5 (A++[Ao.DH x]) (.at A.length)=.zd x:=by simp only[aU,ly]
 have ic:FR (.zd x) .cu=.ok (.bl false):=rfl;simp only[ev,cY,hJ,iz,cg,cj,q,tz,t1,ic,hw]
theorem ON(hr:fg [aU 5 A (.at 4),.tup ts]=.ok (.str w))(ht:pY [.at 0,.tup ts] A=.ok (.str w) A1)(hs:ff 5 [.str w,.str w]=.ok (.bl true)):jt [.at 0,.at 4,.tup ts] A=.ok (.bl true) A1:=by
 show cM (mT.1 [.sh (.at 0),.sh (.at 4),.sh (.tup ts),.no] A)=_;unfold mT;have ic:FR (.str w) .cu=.ok (.bl false):=rfl;simp only[ev,cY,hJ,iz,cg,cj,hr,ic,ht,hs]
theorem OO(hr:fg [aU 5 A (.at 4),.tup ts]=.ok .cu)(hd:mR [.at 4,.tup ts] A=.ok .cu A1)(ht:pY [.at 0,.tup ts] A1=.ok .cu A2):jt [.at 0,.at 4,.tup ts] A=.ok (.bl true) A2:=by
 show cM (mT.1 [.sh (.at 0),.sh (.at 4),.sh (.tup ts),.no] A)=_;unfold mT;have ic:FR .cu .cu=.ok (.bl true):=rfl;have hs:ff 5 [.cu,.cu]=.ok (.bl true):=rfl;simp only[ev,cY,hJ,iz,cg,cj,hr,ic,hd,ht,hs]
end
theorem lkn{k:Nat}:∀{pins:List (Nat×Ao)},k∉pins.map (·.1)->pins.lookup k=none
 |[],_=>rfl
 |p::pins,h=>by
  rw[bH,bB,not_or]at h;rw[cE];have:(k==p.1)=false:=by simpa using h.1
  rw[this];exact lkn h.2
def lF(A A':Ab)(S:List Nat):Prop:=∃pins,Ext A A' pins/\∀k∈pins.map (·.1),k∈S
section
variable {A' B:Ab}{S T:List Nat}{k:Nat}{o o':Ao}
theorem lF.push:lF A (A++[o]) S:=⟨[],Ext.push,fun k h=>nomatch h⟩
theorem lF.put (h:A[k]?=some o')(m:k∈S):lF A (A.set k o) S:=⟨_,Ext.put h,fun q hq=>by cases cX.mp hq;exact m⟩
theorem lF.of {pins:List (Nat×Ao)}(x:Ext A A' pins)(h:∀k∈pins.map (·.1),k∈S):lF A A' S:=⟨pins,x,h⟩
theorem lF.trans (a:lF A A' S)(b:lF A' B S):lF A B S:=by
 obtain⟨pins,x,p⟩:=a;obtain⟨V,y,q⟩:=b;refine⟨_,x.trans y,fun k hk=>?_⟩;rw[jU]at hk;rcases dw.mp hk with h|h
 ·exact q k h
 ·exact p k h
theorem lF.sub (a:lF A A' S)(h:∀k∈S,k∈T):lF A A' T:=by obtain⟨pins,x,p⟩:=a;exact⟨pins,x,fun k hk=>h k (p k hk)⟩
theorem lF.same (a:lF A A' S)(h:A[k]?=some o)(n:k∉S):A'[k]?=some o:=by obtain⟨pins,x,p⟩:=a;exact x.same h (lkn fun q=>n (p k q))
theorem bx.kp {i:Nat}{rk en ch bn iv:List (Key×Tr)}(h:bx A i rows rk en ch bn iv)(t:lF A A' S)(q:∀k∈S,k<i\/i+6<k):bx A' i rows rk en ch bn iv:=by
 have n:∀k,i<=k->k<=i+6->k∉S:=fun k h1 h2 hk=>by have:=q k hk;omega
 exact⟨t.same h.o (n _ (by omega) (by omega)),t.same h.lg (n _ (by omega) (by omega)),t.same h.rk (n _ (by omega) (by omega)),t.same h.en (n _ (by omega) (by omega)),t.same h.ch (n _ (by omega) (by omega)),t.same h.bn (n _ (by omega) (by omega)),t.same h.iv (n _ (by omega) (by omega))⟩
theorem bU.kp {j ks kb ka:Nat}{stays:List jB}{cq asked:List Str}{d v p:Str}(h:bU A j ks kb ka rows bo stays cq asked d v p)(t:lF A A' S)(q:∀k∈[j,j+1,j+2,ks,kb,ka],k∉S):bU A' j ks kb ka rows bo stays cq asked d v p:=by
 obtain⟨pins,x,p⟩:=t;exact h.ext x fun k hk=>lkn fun hu=>q k hk (p k hu)
theorem cy.kp (h:cy A bf a9)(t:lF A A' S)(q:∀k∈S,6<k):cy A' bf a9:=by
 have n:∀k,k<=6->k∉S:=fun k h1 hk=>by have:=q k hk;omega
 exact⟨t.same h.o (n _ (by decide)),t.same h.ps (n _ (by decide)),t.same h.pl (n _ (by decide))⟩
theorem fR.kp (h:fR A bw c8)(t:lF A A' S)(q:∀k∈S,6<k):fR A' bw c8:=by
 have n:∀k,k<=6->k∉S:=fun k h1 hk=>by have:=q k hk;omega
 exact⟨t.same h.o (n _ (by decide)),t.same h.pe (n _ (by decide)),t.same h.rs (n _ (by decide))⟩
end
abbrev iS(i:Nat):List Nat:=[i+1,i+2,i+3,i+4,i+5,i+6]
theorem sn{a b:String}(h:(a==b)=false):(Str.ofString a==Str.ofString b)=false:=by
 have:a≠b:=by simpa using h
 refine iW.mpr fun e=>this ?_
 rw[Str.ofString_eq_toList,Str.ofString_eq_toList]at e;injection e with e
 have m:∀{l r:List Char},l.map Char.toNat=r.map Char.toNat->l=r:=fun{l}=>by
  induction l with
  |nil=>intro r h;cases r with
   |nil=>rfl
   |cons=>cases h
  |cons x l ih=>intro r h;cases r with
   |nil=>cases h
   |cons y r=>
    injection h with h1 h2
    rw[ih h2,Char.toNat_inj.mp h1]
 exact String.toList_inj.mp (m (Array.toList_inj.mpr e:(List.map Char.toNat a.toList).toArray.toList=_))
theorem jN{acc:Str}(h:acc.length<=20000):∃w,CC acc=.ok (.str w):=⟨acc,aS (cw h (by decide))⟩
theorem jC{k:Str->Rs Tr}{acc z:Str}{n:Nat}(ha:acc.length<=n)(hz:z.length<=1000)(hn:n<=10000)(h:∀a,a.length<=n+1000->∃w,k a=.ok (.str w)):∃w,nQ (.ok (.str z)) k acc=.ok (.str w):=by
 have l:(acc++z).length<=n+1000:=by rw[oj];omega
 obtain⟨w,e⟩:=h _ l;refine⟨w,?_⟩;show(if(acc++z).length<=cS then k (acc++z)else .bad)=_;rw[aS (cw l (by show n+1000<=1000000;omega)),e]
def fW:List (Bool×Str×Str)->Tr
 |[]=>.cu
 |(b,_,w)::cs=>if b then .str w else fW cs
def fX(A:Ab)(X:Rz Tr):List (Bool×Str×Str)->Rz Tr
 |[]=>X
 |(b,x,_)::cs=>if b then .exc (.str x) A else fX A X cs
theorem X'{X:Rz Tr}:∀{cs:List (Bool×Str×Str)},(∀c∈cs,c.1=false)->fX A X cs=X
 |[],_=>rfl
 |c::cs,h=>by
  obtain⟨b,x,w⟩:=c;have:b=false:=h _ (cp ..);subst this;exact X' (cs:=cs) fun c hc=>h c (b_ _ hc)
theorem Mq{b:Bool}{w:Str}{X:Rz Tr}{ρ:Rz Tr}(h1:b=true->ρ=.exc (.str aZ) A)(h2:b=false->ρ=fX A X cs):ρ=fX A X ((b,aZ,w)::cs):=by
 cases b with
 |true=>exact h1 rfl
 |false=>exact h2 rfl
theorem Zg{b:Bool}{w:Str}{ρ:Rs Tr}(h1:b=true->ρ=.ok (.str w))(h2:b=false->ρ=.ok (fW cs)):ρ=.ok (fW ((b,aZ,w)::cs)):=by
 cases b with
 |true=>exact h1 rfl
 |false=>exact h2 rfl
theorem Ya{k:Nat}{t:Tr}(h:rows[k]?=some t):jI (.tup rows) (.int k)=.ok t:=by
 show kS (L2.uC rows k)=_;rw[Ah h];rfl
theorem Mr:(∀a l,jI (.tup (a::l)) (.int 0)=.ok a)/\(∀a b l,jI (.tup (a::b::l)) (.int 1)=.ok b)/\(∀a b c l,jI (.tup (a::b::c::l)) (.int 2)=.ok c)/\(∀a b c d l,jI (.tup (a::b::c::d::l)) (.int 3)=.ok d)/\(∀a b c d e l,jI (.tup (a::b::c::d::e::l)) (.int 4)=.ok e):=
 ⟨fun _ _=>Ya (k:=0) rfl,fun _ _ _=>Ya (k:=1) rfl,fun _ _ _ _=>Ya (k:=2) rfl,fun _ _ _ _ _=>Ya (k:=3) rfl,fun _ _ _ _ _ _=>Ya (k:=4) rfl⟩
theorem evC:(∀i j:Int,ltC (.int i) (.int j)=.ok (.bl (decide (i<j))))/\(∀i j:Int,leC (.int i) (.int j)=.ok (.bl (decide (i<=j))))/\(∀i j:Int,geC (.int i) (.int j)=.ok (.bl (decide (j<=i))))/\(∀i j:Int,KD [.int i,.int j]=.ok (.int (if j>i then j else i))):=by
 refine⟨?_,?_,?_,?_⟩<;>intros<;>rfl
def E7(aQ:List (Str×Str))(z:Str):Int:=match aQ.lookup z with
 |some r=>lvl r
 |none=>-1
theorem LV(r:Str):0<=lvl r/\lvl r<=3:=by
 unfold lvl;split
 ·decide
 split
 ·decide
 split<;>decide
theorem TK{r:Str}(h:r∈gy):(r==("owner":Str))=decide (lvl r=3)/\(r==("keeper":Str))=decide (lvl r=2):=by
 have:r="guest"\/r="speaker"\/r="keeper"\/r="owner":=by simpa using h
 rcases this with rfl|rfl|rfl|rfl<;>decide+kernel
theorem LW:decide (E7 aQ aZ<0)=(aQ.lookup aZ).isNone:=by
 unfold E7;cases aQ.lookup aZ with
 |none=>rfl
 |some r=>exact fh (by have:=LV r;show¬lvl r<0;omega)
abbrev RA(A:Ab)(i:Nat)(rows:List Tr)(aQ:List (Str×Str))(ents:List (Str×Int))(rq:List (Str×Str))(bn iv:List Str):Prop:=bx A i rows (dP .str aQ) (dP .int ents) (dP .str rq) (nS bn) (nS iv)
section
variable {rq:List (Str×Str)}{bn iv:List Str}{ent:Str->Int}{d4 r nM val:Str}{X:Rz Tr}{Y:bO}
theorem nN(tu:jK rows):dY rows (dP .str aQ) (dP .int ents) (dP .str rq) (nS bn) (nS iv):=⟨tu,UG,flI,UG,vX,vX⟩
theorem dG.lk (k:dG aQ ents ent)(h:aQ.lookup aZ=some r):r∈gy:=k.rl _ (iJ h)
theorem zW(h:RA A aM rows aQ ents rq bn iv)(tu:jK rows)(hw:aZ.length<=1000):kN [.at aM,.str aZ] A=if(aQ.lookup aZ).isNone then .exc (.str "NotIn") A else .ok .cu A:=by
 have n:=yu h (nN tu) hw;rw[d9]at n;rw[n];cases aQ.lookup aZ<;>rfl
end
section
variable {i:Nat}{rq:List (Str×Str)}{bn iv:List Str}{ent:Str->Int}{d4 val:Str}
theorem zX{z:Str}(q:(aQ.lookup z).isNone=false):∃r,aQ.lookup z=some r:=by
 cases e:aQ.lookup z with
 |none=>rw[e]at q;cases q
 |some r=>exact⟨r,rfl⟩
theorem yz{r:Str}(h:aQ.lookup aZ=some r):E7 aQ aZ=lvl r:=by unfold E7;rw[h]
theorem GW{a:Str}:(∀A,rW (.ok (.tup [.str a])) A=.ok (.tup [.str a]) A)/\(∀A,rW (.ok (.tup [.str a,.str aZ])) A=.ok (.tup [.str a,.str aZ]) A):=⟨fun _=>rfl,fun _=>rfl⟩
end
section
variable {A1:Ab}{d4 c6 nM val:Str}{rq:List (Str×Str)}{bn iv:List Str}
theorem OP(h:cy A bf a9)(hw:aZ.length<=1000)(hv:d4.length<=1000):gY [.at 0,.tup [.str aZ,.str d4]] A=if((bf.lookup aZ).isSome&&(bf.lookup d4).isSome)=true then .ok .cu A else .exc (.str "NoPerson") A:=by
 show cM (du.1 [.sh (.at 0),.sh (.tup [.str aZ,.str d4]),.no] A)=_;unfold du;have s:=ER (z:="nobody is called ") (y:=aZ) (by decide+kernel) hw;have s':=ER (z:="nobody is called ") (y:=d4) (by decide+kernel) hv;simp only[ev,cY,hJ,iz,Gz,cg,cj,h.Om,d9,jP];cases(bf.lookup aZ).isSome with
 |false=>simp only[eR,ev,cY,hJ,iz,s,wI,cW,cx]
 |true=>
  simp only[dz,ev,cY,hJ,iz,cg,cj,h.Om,d9,jP,oW];cases(bf.lookup d4).isSome with
  |true=>simp only[dz,ev,cY,cK]
  |false=>simp only[eR,ev,cY,hJ,iz,s',cW,cx]
theorem DF(h:cy A bf a9)(hw:aZ.length<=1000)(hv:d4.length<=1000)(hj:a9.lookup c6=some aM):iP [.at 0,.tup [.str aZ,.str d4],.str c6] A=if((bf.lookup aZ).isSome&&(bf.lookup d4).isSome)=true then .ok (.at aM) A else .exc (.str "NoPerson") A:=by
 show cM (d6.1 [.sh (.at 0),.sh (.tup [.str aZ,.str d4]),.sh (.str c6)] A)=_;unfold d6;simp only[ev,cY,hJ,iz,h.call (m:="need_people") rfl,OP h hw hv];cases((bf.lookup aZ).isSome&&(bf.lookup d4).isSome)with
 |true=>simp only[cK,ev,cY,hJ,iz,h.call (m:="place") rfl,GJ h hj]
 |false=>simp only[cW,cx,ev]
end
section
variable {ks kb ka n:Nat}{ent:Str->Int}{stays:List jB}{cq asked:List Str}{d v p d4 c6 x3 nM val:Str}
theorem OQ{T:Tr}(hT:jI T (.str "roles")=.ok (.bT (dP .str bo)))(k:dG bo ents ent):yp [T,.str aZ]=.ok (.int (E7 bo aZ)):=by
 cases hr:bo.lookup aZ with
 |some r=>rw[yz hr];exact E6 hT hr (k.lk hr)
 |none=>
  show dE (mP.1 [.sh T,.sh (.str aZ)])=_;unfold mP;simp only[ev,cY,hT,d9,hr,oQ,oB,show E7 bo aZ=-1 by unfold E7;rw[hr]]
theorem TL{c7:Str}{c9:List Tr}{wh:Bool}(m:fR A bw c8)(h:bU A aM ks kb ka rows bo stays cq asked d v p)(hj:c8.lookup c6=some aM)
  (hw:c7="arrange"/\wh=false\/(c7="ask"\/c7="role"\/c7="out"\/c7="bar"\/c7="unbar")/\wh=true)
  (hd:iR [aU 3 A (.at aM),.tup (.str c7:: .str aZ:: .str c6:: .str x3::c9)]=.ok (fW cs)):
  fg [aU 5 A (.at 4),.tup (.str c7:: .str aZ:: .str c6:: .str x3::c9)]=.ok (fW ((!(bw.contains aZ&&(!wh||bw.contains x3)),"NoPerson","no person")::((bo.lookup aZ).isNone,"NotIn","not in")::cs)):=by
 show dE (g7.1 [.sh (aU 5 A (.at 4)),.sh (.tup (.str c7:: .str aZ:: .str c6:: .str x3::c9)),.no,.no,.no])=_;unfold g7;have n2:Ho (.str c7) (.tup [.str "ask",.str "role",.str "out",.str "bar",.str "unbar"])=.ok (.bl wh):=by rcases hw with⟨rfl,rfl⟩|⟨rfl|rfl|rfl|rfl|rfl,rfl⟩<;>rfl
 have n3:Ho (.str c7) (.tup [.str "say",.str "mend",.str "take_back"])=.ok (.bl false):=by rcases hw with⟨rfl,_⟩|⟨rfl|rfl|rfl|rfl|rfl,_⟩<;>rfl
 have n1:(c7==Str.ofString "come")=false/\(c7==Str.ofString "found")=false/\(c7==Str.ofString "enter")=false/\(c7==Str.ofString "leave")=false:=by rcases hw with⟨rfl,_⟩|⟨rfl|rfl|rfl|rfl|rfl,_⟩<;>decide+kernel
 have l1:∀a,yN (.ok [a])=.ok (.lst [a]):=fun _=>rfl;have t3:aU 3 A (.at aM)=.bT (dP (aU 2 A) (C_ aM ks kb ka d v p)):=gQ h.o;simp only[ev,cY,Mr,cg,cj,n1,l1,Gz];rw[lz (AY:=[.sh (.tup (.str c7:: .str aZ:: .str c6:: .str x3::c9)),.sh (.str c7)]) (fun _:Unit=>wh) (fun _=>.int 3) (fun _=>.str x3) (xs:=[()]) (by rfl) (by decide) rfl (fun _ _=>by simp only[ev,cY,n2]) (fun _ _ e=>by simp only[ev,cY,Mr])];have a1:yQ (.lst [.str aZ]) (.lst (([()].filter fun _=>wh).map fun _=>.str x3))=.ok (.lst ((aZ::if wh then[x3]else[]).map .str)):=by cases wh<;>rfl
 simp only[a1,ev,cY,Gz,cg,cj];have UI:(aZ::if wh then[x3]else[]).length<=e_:=by
  cases wh
  ·show 1<=e_;decide
  ·show 2<=e_;decide
 rw[qF (ns:=aZ::if wh then[x3]else[]) (AY:=[.sh (aU 5 A (.at 4))]) (fun z=>!bw.contains z) (by rfl) UI rfl (fun _=>rfl) ?hC]
 case hC=>intro z _;simp only[ev,cY,m.Tz (n:=3),yc]
 have tf:pj (.lst ((List.filter (fun z=>!bw.contains z) (aZ::if wh then[x3]else[])).map .str))=.ok (!(bw.contains aZ&&(!wh||bw.contains x3))):=by
  cases wh<;>simp only[oH,wG,cK,cW,cx]<;>cases bw.contains aZ<;>first|rfl|(cases bw.contains x3<;>rfl)
 simp only[ev,cY,tf];refine Zg (fun q=>by simp only[q,ev]) fun q=>?_
 simp only[q,ev,cY,Mr,m.Ln (n:=3),Dc,hj,de,oJ,cg,cj,n1];rw[show FR (aU 3 A (.at aM)) .cu=.ok (.bl false) by rw[t3];rfl];simp only[ev,cY,Mr,n1,n3,h.C' (n:=1),d9,jP];have nq:(bo.lookup aZ).isSome=!(bo.lookup aZ).isNone:=by cases bo.lookup aZ<;>rfl
 refine Zg (fun q=>by simp only[nq,q,dz,eR,ev]) fun q=>by simp only[nq,q,dz,eR,ev,cY,n1,n3,hd]
end
section
variable {A':Ab}{ks kb ka n:Nat}{stays:List jB}{asked l':List Str}{d v p d' v' p' c6 nM val:Str}
abbrev P9:List (Key×Tr):=[(.inr "arrange",.str "set"),(.inr "take_back",.str "gone")]
theorem nm1:(∀a b,yN (.ok [a,b])=.ok (.lst [a,b]))/\EJ [.lst [.tup [.str "arrange",.str "set"],.tup [.str "take_back",.str "gone"]]]=.ok (.bT P9)/\(∀A,uG (.ok (.bT P9)) A=.ok (.at A.length) (A++[.bT P9])):=⟨fun _ _=>rfl,rfl,fun _=>rfl⟩
theorem nm2:aU 5 (A++[.bT P9]) (.at A.length)=.bT P9:=by rw[fQ ly];rfl
theorem gt2{a b:Tr}{Y:bO}{c e:Cell}:JV (gT [2,3]) (.ok (.tup [a,b]) A) (c::e:: .no:: .no::Y)=.ok (.nx (c::e:: .sh a:: .sh b::Y)) A:=rfl
abbrev LX(d v p:Str):List (Str×Str):=[("door",d),("voice",v),("past",p)]
abbrev jS(aM ks kb ka:Nat):List Nat:=[aM,aM+1,aM+2,ks,kb,ka]
end
structure Dat where
 rows:List Tr
 aQ:List (Str×Str)
 ents:List (Str×Int)
 ent:Str->Int
 stays:List jB
 cq:List Str
 inv:List Str
 asked:List Str
 d:Str
 v:Str
 p:Str
 ks:Nat
 kb:Nat
 ka:Nat
abbrev six:List Str:=["ann","bo","cy","dee","ed","zed"]
theorem iT{z:Str}(h:z∈six):z.length<=1000:=(by decide+kernel:∀z∈six,z.length<=1000) z h
def iU(rows:List Tr):Prop:=∀t∈rows,∃us,t=.tup us/\us.all yG=true/\us.length<=10
section
variable {cD us:List Tr}{ent:Str->Int}{stays:List jB}{inv asked:List Str}{t:Nat}
theorem iU.tu (h:iU rows):jK rows:=fun t ht=>by obtain⟨us,e,_⟩:=h t ht;exact⟨us,e⟩
theorem iU.add (h:iU rows)(hu:us.all yG=true)(hl:us.length<=10):iU (rows++[.tup us]):=fun t ht=>by
 rcases dw.mp ht with ht|ht
 ·exact h t ht
 ·exact⟨us,cX.mp ht,hu,hl⟩
theorem eJ{n:Nat}(h:n<10000):n<e_:=cU h (by decide)
theorem v8{α:Type}{l:List (Str×α)}{z:Str}{a:α}:(fB l z a).length<=l.length+1:=by
 unfold fB;split
 ·rw[bj];omega
 ·rw[eP];exact bu _
theorem gF.names (o:gF rows aQ cD bo):bo.map (·.1)=aQ.map (·.1):=by
 cases o with
 |same _=>rfl
 |y0 z g _ _=>
  obtain⟨a,r,e,_⟩:=g.ex;exact yw (cA.mpr ⟨_,dS e,rfl⟩)
theorem gF.len (o:gF rows aQ cD bo):rows.length<=cD.length/\cD.length<=rows.length+1/\bo.length=aQ.length:=by
 have hn:bo.length=aQ.length:=by have:=cQ List.length o.names;simpa using this
 cases o with
 |same _=>omega
 |y0 z g _ _=>rw[eP];exact⟨by omega,bu _,hn⟩
theorem gF.iU (o:gF rows aQ cD bo)(h:iU rows):iU cD:=by
 cases o with
 |same _=>exact h
 |y0 z g _ _=>exact h.add rfl (by show 5<=10;decide)
theorem gF.ow (o:gF rows aQ cD bo):bo=[]\/∃p∈bo,p.2="owner":=by
 cases o with
 |same h=>exact h
 |y0 z g _ _=>exact .inr ⟨(z,"owner"),iJ (by rw[yv,aS rfl]),rfl⟩
theorem yA(o:gF rows aQ cD bo)(h:∀p∈aQ,ent p.1<rows.length+1):∀p∈bo,ent p.1<cD.length+1:=fun p hp=>by
 have:p.1∈aQ.map (·.1):=by rw[<-o.names];exact fV hp
 obtain⟨q,hq,e⟩:=cA.mp this;have h1:=h q hq;have h2:=o.len.1;rw[<-e];omega
structure Good(rows:List Tr)(aQ:List (Str×Str))(ents:List (Str×Int))(ent:Str->Int)(stays:List jB)(bw inv asked:List Str):Prop where
 fr:iU rows
 rk:dG aQ ents ent
 op:pZ stays=aQ.map (·.1)
 lt:∀p∈aQ,ent p.1<rows.length+1
 ow:aQ=[]\/∃p∈aQ,p.2="owner"
 ia:∀z,inv.contains z=asked.contains z
 ns:∀z∈aQ.map (·.1),z∈six
 bs:∀z∈bw,z∈six
 is:∀z∈inv,z∈six
 nd:inv.Nodup
abbrev P_(D:Dat):Prop:=Good D.rows D.aQ D.ents D.ent D.stays D.cq D.inv D.asked
structure Bd(D:Dat)(t:Nat):Prop where
 b1:D.rows.length<=3+2*t
 b2:D.aQ.length<=3+t
 b3:D.ents.length<=3+t
 b4:D.stays.length<=3+t
 b5:D.asked.length<=t
 b6:D.cq.length<=t
 b7:D.inv.length<=t
end
structure Pr(A:Ab)(i j:Nat)(D:Dat)(t:Nat):Prop where
 r:RA A i D.rows D.aQ D.ents (LX D.d D.v D.p) D.cq D.inv
 m:bU A j D.ks D.kb D.ka D.rows D.aQ D.stays D.cq D.asked D.d D.v D.p
 g:P_ D
 b:Bd D t
 dj:∀k∈jS j D.ks D.kb D.ka,6<k/\(k<i\/i+6<k)
 hi:6<i
def Kept(A:Ab)(D D':Dat):Prop:=∀k∈[D'.ks,D'.kb,D'.ka],k∈[D.ks,D.kb,D.ka]\/A.length<=k
abbrev touched(i j:Nat)(D:Dat):List Nat:=iS i++jS j D.ks D.kb D.ka
def Res(A:Ab)(i j:Nat)(D:Dat)(t:Nat)(ts:List Tr):Prop:=∃A' D',jt [.at 0,.at 4,.tup ts] A=.ok (.bl true) A'/\lF A A' (touched i j D)/\Pr A' i j D' (t+1)/\Kept A D D'
abbrev Yb:List (Str×Str):=[("Known","known"),("NoPerson","no person"),("NotIn","not in"),("NotAsked","not asked"),("Barred","barred"),("NoRight","no right")]
section
variable {A' A2:Ab}{j t:Nat}{D D':Dat}{c6 x w:Str}{ts:List Tr}{X:Rz Tr}
theorem TM(h:(x,w)∈Yb):(["Known","NoPerson","NoRoom","NotIn","NotAsked","Barred","NoRight","NoRow","NoHand","NoLine"]:List Str).contains x=true/\yq [.zd x]=.ok (.str w)/\ff 5 [.str w,.str w]=.ok (.bl true):=by
 simp only[bB,cI,cJ,Prod.mk.injEq]at h;rcases h with⟨rfl,rfl⟩|⟨rfl,rfl⟩|⟨rfl,rfl⟩|⟨rfl,rfl⟩|⟨rfl,rfl⟩|⟨rfl,rfl⟩<;>exact⟨by decide+kernel,rfl,rfl⟩
theorem Bd.more (b:Bd D t):Bd D (t+1):=by obtain⟨h1,h2,h3,h4,h5,h6,h7⟩:=b;exact⟨by omega,by omega,by omega,by omega,by omega,by omega,by omega⟩
theorem Pr.kp {S:List Nat}(P:Pr A aM j D t)(e:lF A A' S)(q:∀k∈S,(k<aM\/aM+6<k)/\k∉jS j D.ks D.kb D.ka):Pr A' aM j D (t+1):=
 ⟨bx.kp P.r e fun k hk=>(q k hk).1,bU.kp P.m e fun k hk h=>(q k h).2 hk,P.g,P.b.more,P.dj,P.hi⟩
theorem s_same(P:Pr A aM j D t)(h:jt [.at 0,.at 4,.tup ts] A=.ok (.bl true) (A++[.DH x])):Res A aM j D t ts:=
 ⟨_,D,h,lF.push,P.kp (lF.push (S:=[])) fun _ h=>(nomatch h),fun _ h=>.inl h⟩
theorem Yc:∀{cs:List (Bool×Str×Str)},(∀c∈cs,c.1=false)\/∃c∈cs,fW cs=.str c.2.2/\fX A X cs=.exc (.str c.2.1) A
 |[]=>.inl fun c h=>nomatch h
 |(true,x,w)::cs=>.inr ⟨_,cp ..,rfl,rfl⟩
 |(false,x,w)::cs=>by
  rcases Yc (cs:=cs)with h|⟨c,h,h2⟩
  ·exact .inl fun c hc=>by
    rcases bB.mp hc with rfl|hc
    ·rfl
    ·exact h c hc
  ·exact .inr ⟨c,b_ _ h,h2⟩
theorem Yd:∀{cs:List (Bool×Str×Str)},(∀c∈cs,c.1=false)->fW cs=.cu
 |[],_=>rfl
 |(b,x,w)::cs,h=>by
  have:b=false:=h _ (cp ..);subst this;exact Yd (cs:=cs) fun c hc=>h c (b_ _ hc)
theorem Bv(P:Pr A aM j D t)(hr:fg [aU 5 A (.at 4),.tup ts]=.ok (fW cs))(hc:gE [.at 0,.tup ts] A=fX A X cs)(he:∀c∈cs,c.2∈Yb)(dn:(∀c∈cs,c.1=false)->fg [aU 5 A (.at 4),.tup ts]=.ok .cu->Res A aM j D t ts):Res A aM j D t ts:=by
 rcases Yc (A:=A) (X:=X) (cs:=cs)with h|⟨c,h,h1,h2⟩
 ·exact dn h (by rw[hr,Yd h])
 ·obtain⟨e1,e2,e3⟩:=TM (he c h);rw[h1]at hr;rw[h2]at hc;exact s_same P (ON hr (OM hc e1 e2) e3)
theorem Pr.aa0 (P:Pr A aM j D t)(kp:Kept A D D'):∀k∈jS j D'.ks D'.kb D'.ka,6<k/\(k<aM\/aM+6<k):=fun k hk=>by
 have l:=ik P.r.iv;have h6:=P.hi;have q:∀k,k∈[D'.ks,D'.kb,D'.ka]->6<k/\(k<aM\/aM+6<k):=fun k hk=>by
  rcases kp k hk with h|h
  ·exact P.dj k (b_ _ (b_ _ (b_ _ h)))
  ·omega
 rcases bB.mp hk with rfl|hk
 ·exact P.dj _ (by simp)
 rcases bB.mp hk with rfl|hk
 ·exact P.dj _ (by simp)
 rcases bB.mp hk with rfl|hk
 ·exact P.dj _ (by simp)
 exact q k hk
theorem Bw(P:Pr A aM j D t)(hH:cy A bf a9)(hr:fg [aU 5 A (.at 4),.tup ts]=.ok .cu)(hd:mR [.at 4,.tup ts] A=.ok .cu A2)(t1:lF A A2 (jS j D.ks D.kb D.ka))
  (m2:bU A2 j D'.ks D'.kb D'.ka D'.rows D'.aQ D'.stays D'.cq D'.asked D'.d D'.v D'.p) (kp:Kept A D D')
  (pr:cy A2 bf a9->RA A2 aM D.rows D.aQ D.ents (LX D.d D.v D.p) D.cq D.inv->∃A3,gE [.at 0,.tup ts] A2=.ok .cu A3/\lF A2 A3 (iS aM)/\RA A3 aM D'.rows D'.aQ D'.ents (LX D'.d D'.v D'.p) D'.cq D'.inv)
  (g:P_ D') (b:Bd D' (t+1)):Res A aM j D t ts:=by
 obtain⟨A3,q1,q2,q3⟩:=pr (cy.kp hH t1 fun k hk=>(P.dj k hk).1) (bx.kp P.r t1 fun k hk=>(P.dj k hk).2);have nk:=P.aa0 kp;refine⟨A3,D',OO hr hd (TJ q1),(t1.sub fun k hk=>dw.mpr (.inr hk)).trans (q2.sub fun k hk=>dw.mpr (.inl hk)),⟨q3,bU.kp m2 q2 fun k hk h=>?_,g,b,nk,P.hi⟩,kp⟩;have:=nk k hk;simp only[bB,cI,cJ]at h;omega
end
section
variable {A1 A2:Ab}{j t:Nat}{D D':Dat}{d4 c6 nM val c7:Str}
theorem TN(hw:c7="arrange"\/c7="ask"\/c7="role"\/c7="out"\/c7="bar"\/c7="unbar")(m:fR A bw c8)(hj:c8.lookup c6=some j)(q1:pX [.at j,.tup (.str c7:: .str aZ:: .str c6::rows)] A=.ok .cu A1)(q2:mQ [.at j] A1=.ok .cu A2)
  (sl:AS (.ok (.tup (.str c7:: .str aZ:: .str c6::rows))) (.ok none) (Nw (.ok (.int 2)))=.ok (.tup [.str c7,.str aZ])):mR [.at 4,.tup (.str c7:: .str aZ:: .str c6::rows)] A=.ok .cu A2:=by
 show cM (jr.1 [.sh (.at 4),.sh (.tup (.str c7:: .str aZ:: .str c6::rows)),.no,.no,.no] A)=_;unfold jr;have n1:(c7==Str.ofString "come")=false/\(c7==Str.ofString "found")=false/\(c7==Str.ofString "say")=false/\(c7==Str.ofString "enter")=false/\(c7==Str.ofString "leave")=false:=by rcases hw with rfl|rfl|rfl|rfl|rfl|rfl<;>decide+kernel
 simp only[ev,cY,hJ,iz,Mr,sl,GW,gt2,n1,jY,m.TB,vW m.rs,dR,hj,de,kS,cg,cj,q1,q2]
theorem Kept.refl:Kept A D D:=fun _ h=>.inl h
theorem vI{α:Type}{l:List α}{a:α}:(l++[a]).length=l.length+1:=by rw[eP];rfl
theorem zY{n:Int}:∀{stays:List jB},pZ (stays.map (ju aZ n))=(pZ stays).filter fun z=>!(z==aZ)
 |[]=>rfl
 |s::stays=>by
  obtain⟨a,b,c,e⟩:=s;have ih:=zY (n:=n) (stays:=stays);unfold pZ at ih⊢;rw[bH];cases e with
  |some m=>
   have:ju aZ n (a,b,c,some m)=(a,b,c,some m):=by simp[ju]
   rw[this,jM (by simp),jM (by simp)];exact ih
  |none=>
   rw[kX (a:=(a,b,c,none)) (by rfl),bH];by_cases q:a=aZ
   ·subst q;have:ju a n (a,b,c,none)=(a,b,c,some n):=by simp[ju]
    rw[this,jM (by simp),jM (by simp)];exact ih
   ·have:ju aZ n (a,b,c,none)=(a,b,c,none):=by simp[ju,q]
    rw[this,kX (by rfl),bH,kX (by simpa using q),ih]
theorem yB:(kJ aQ aZ).map (·.1)=(aQ.map (·.1)).filter fun z=>!(z==aZ):=by
 unfold kJ;rw[oP];congr 1;refine sA fun q _=>?_
 show decide (q.1≠aZ)=!(q.1==aZ);by_cases h:q.1=aZ<;>simp[h]
end
theorem contains_filter{l:List Str}{P:Str->Bool}{z:Str}:(l.filter P).contains z=(l.contains z&&P z):=by
 rw[sF,eO,fY,bP,eO]
section
variable {j t:Nat}{D:Dat}{c6:Str}
theorem OR(P:Pr A aM j D t)(hH:cy A bf a9)(hM:fR A bw c8)(hi:a9.lookup c6=some aM)(hj:c8.lookup c6=some j)(hp:∀z,(bf.lookup z).isSome=bw.contains z)(h6:aZ∈six)(ht:t<=1000):Res A aM j D t [.str "enter",.str aZ,.str c6]:=by
 have tu:=P.g.fr.tu;have hs:=iT h6;have b1:=P.b.b1;have b2:=P.b.b2;have b3:=P.b.b3;have b4:=P.b.b4;have b5:=P.b.b5;have b6:=P.b.b6;have b7:=P.b.b7;have fl:dY D.rows (dP .str D.aQ) (dP .int D.ents) (dP .str (LX D.d D.v D.p)) (nS D.cq) (nS D.inv):=nN tu;have hr:=GK (aZ:=aZ) (c7:="enter") hM P.m hj (.inr (.inl rfl));have hc:=fun{A:Ab} (hH:cy A bf a9) (r:RA A aM D.rows D.aQ D.ents (LX D.d D.v D.p) D.cq D.inv)=>(LS (aZ:=aZ) (c6:=c6) hH).trans (LN hH hs hi (by rw[r.call (m:="enter") rfl];rfl));simp only[hp]at hc;have s2:¬(Str.ofString "enter"=Str.ofString "found"):=by decide+kernel
 have vb:∀{b},D.cq.contains aZ=b->eN (nS D.cq) (.inr aZ)=if b then some (.bl true)else none:=fun e=>by rw[EU,e]
 refine Bv (cs:=[(!bw.contains aZ,"NoPerson","no person"),((D.aQ.lookup aZ).isSome,"Known","known"),(D.cq.contains aZ,"Barred","barred"),(decide (D.d="asked")&&!D.asked.contains aZ,"NotAsked","not asked")]) (X:=gE [.at 0,.tup [.str "enter",.str aZ,.str c6]] A) P (hr.trans ?_) ?_ (by simp) fun all SQ=>?_
 ·simp only[s2,cx,cK];cases bw.contains aZ with
  |false=>rfl
  |true=>
   cases(D.aQ.lookup aZ).isSome with
   |true=>rfl
   |false=>
    cases D.cq.contains aZ with
    |true=>rfl
    |false=>by_cases hd:D.d="asked"<;>cases D.asked.contains aZ<;>simp[fW,hd]
 ·refine Mq (fun q=>by rw[hc hH P.r,show bw.contains aZ=false by simpa using q];rfl) fun q=>?_
  have hc:=hc hH P.r;rw[show bw.contains aZ=true by simpa using q,aS rfl]at hc;refine Mq (fun q=>?_) fun q=>Mq (fun q2=>?_) fun q2=>Mq (fun q3=>?_) fun q3=>rfl
  ·obtain⟨r,hk⟩:=rX.mp q;rw[hc,LJ P.r fl hs hk];rfl
  ·rw[hc,LK (r:=.bl true) P.r fl hs (by simpa using q) (vb q2)];rfl
  ·rw[bP,oF]at q3;rw[hc,LL P.r fl hs (by simpa using q) (vb q2) (show some D.d=some _ by rw[ee q3.1]) (by rw[EU,P.g.ia,q3.2];rfl)];rfl
 have a1:bw.contains aZ=true:=by simpa using all _ (cp ..)
 have hk:D.aQ.lookup aZ=none:=by simpa using all ((D.aQ.lookup aZ).isSome,"Known","known") (by simp)
 have a3:=all (D.cq.contains aZ,"Barred","barred") (by simp);have a4:=all (decide (D.d="asked")&&!D.asked.contains aZ,"NotAsked","not asked") (by simp);obtain⟨A1,X9,f1,q1,le1,x1,m1⟩:=LP (aZ:=aZ) (c7:="enter") P.m tu (eJ (by omega)) (eJ (by omega)) (eJ (by omega)) (dA (eJ (by omega)));have P':=P.g.rk.enter (aZ:=aZ) (n:=D.rows.length+1) (r:="guest") hk P.g.lt hs (by decide+kernel);have hnm:(fB D.aQ aZ "guest").map (·.1)=D.aQ.map (·.1)++[aZ]:=by rw[uu hk,jU];rfl
 have pl:=v8 (l:=D.aQ) (z:=aZ) (a:=("guest":Str));have Ye:pZ (D.stays++[(aZ,f1,(D.rows.length+1:Int),none)])=(fB D.aQ aZ "guest").map (·.1):=by
  unfold pZ;rw[List.filter_append,jU,hnm,<-P.g.op];rfl
 obtain⟨A2,cD,cN,q2,o2,x2,m2⟩:=yy m1 (mI tu) P' Ye (by rw[vI];exact eJ (by omega)) (by rw[vI];exact dA (eJ (by omega))) (eJ (by omega));have ol:=o2.len;rw[vI]at ol;refine Bw (D':=⟨cD,cN,fB D.ents aZ (D.rows.length+1),fun z=>if z=aZ then D.rows.length+1 else D.ent z,D.stays++[(aZ,f1,(D.rows.length+1:Int),none)],D.cq,D.inv.filter fun z=>!(z==aZ),D.asked.filter fun z=>!(z==aZ),D.d,D.v,D.p,D.ks,D.kb,X9⟩) P hH SQ (LQ hM hj q1 q2) ((lF.of x1 (by simp)).trans (lF.of x2 (by simp))) m2 (fun k hk=>?_) (fun Yf r2=>?_) ⟨o2.iU (P.g.fr.add rfl (by show 3<=10;decide)),o2.E5 P',Ye.trans o2.names.symm,yA o2 fun q hq=>?_,o2.ow,fun z=>?_,fun z hz=>?_,P.g.bs,fun z hz=>P.g.is z (fY.mp hz).1,P.g.nd.sublist List.filter_sublist⟩ ⟨by show cD.length<=_;omega,by show cN.length<=_;omega,?_,by show(D.stays++[_]).length<=_;rw[vI];omega,by show(D.asked.filter _).length<=_;have:=oq (fun z=>!(z==aZ)) D.asked;omega,by show D.cq.length<=_;omega,by show(D.inv.filter _).length<=_;have:=oq (fun z=>!(z==aZ)) D.inv;omega⟩
 ·simp only[bB,cI,cJ]at hk⊢;omega
 ·obtain⟨A3,Qa,LY,q3,o3,x3,r3⟩:=OI (aZ:=aZ) (d:=D.d) r2 fl P.g.rk P.g.lt (eJ (by omega)) (eJ (by omega)) (eJ (by omega)) hs hk (vb a3) rfl (by
   by_cases h9:D.d="asked"
   ·right;rw[EU,P.g.ia];rw[h9]at a4;rw[show D.asked.contains aZ=true by simpa using a4];rfl
   ·exact .inl h9)
  obtain⟨rfl,rfl⟩:=o2.one o3;rw[Ou]at r3;have hc:=hc Yf r2;rw[a1,aS rfl,q3]at hc;exact⟨A3,hc,lF.of x3 (by simp),r3⟩
 ·rw[uu hk]at hq;show(if q.1=aZ then(D.rows.length+1:Int)else D.ent q.1)<((D.rows++[kh D.rows aZ "enter" []]).length:Int)+1;rw[vI];rcases dw.mp hq with hq|hq
  ·rw[aW (lookup_none hk q hq)];have:=P.g.lt q hq;omega
  ·cases cX.mp hq;rw[aS rfl];omega
 ·show(D.inv.filter fun z=>!(z==aZ)).contains z=(D.asked.filter fun z=>!(z==aZ)).contains z;rw[contains_filter,contains_filter,P.g.ia]
 ·have hz:z∈cN.map (·.1):=hz;rw[o2.names,hnm]at hz;rcases dw.mp hz with hz|hz
  ·exact P.g.ns z hz
  ·rw[cX.mp hz];exact h6
 ·show(fB D.ents aZ _).length<=_;have:=v8 (l:=D.ents) (z:=aZ) (a:=(D.rows.length+1:Int));omega
theorem OS(P:Pr A aM j D t)(hH:cy A bf a9)(hM:fR A bw c8)(hi:a9.lookup c6=some aM)(hj:c8.lookup c6=some j)(hp:∀z,(bf.lookup z).isSome=bw.contains z)(h6:aZ∈six)(ht:t<=1000):Res A aM j D t [.str "leave",.str aZ,.str c6]:=by
 have tu:=P.g.fr.tu;have hs:=iT h6;have b1:=P.b.b1;have b2:=P.b.b2;have b3:=P.b.b3;have b4:=P.b.b4;have b5:=P.b.b5;have b6:=P.b.b6;have b7:=P.b.b7;have fl:dY D.rows (dP .str D.aQ) (dP .int D.ents) (dP .str (LX D.d D.v D.p)) (nS D.cq) (nS D.inv):=nN tu;have hr:=GK (aZ:=aZ) (c7:="leave") hM P.m hj (.inr (.inr rfl));have hc:=fun{A:Ab} (hH:cy A bf a9) (r:RA A aM D.rows D.aQ D.ents (LX D.d D.v D.p) D.cq D.inv)=>(LU (aZ:=aZ) (c6:=c6) hH).trans (LO hH hs hi (by rw[r.call (m:="leave") rfl];rfl));simp only[hp]at hc;have s2:¬(Str.ofString "leave"=Str.ofString "found"):=by decide+kernel
 have s3:¬(Str.ofString "leave"=Str.ofString "enter"):=by decide+kernel
 refine Bv (cs:=[(!bw.contains aZ,"NoPerson","no person"),(!(D.aQ.lookup aZ).isSome,"NotIn","not in")]) (X:=gE [.at 0,.tup [.str "leave",.str aZ,.str c6]] A) P (hr.trans ?_) ?_ (by simp) fun all SQ=>?_
 ·simp only[s2,s3,cx];cases bw.contains aZ<;>cases(D.aQ.lookup aZ).isSome<;>rfl
 ·refine Mq (fun q=>by rw[hc hH P.r,show bw.contains aZ=false by simpa using q];rfl) fun q=>Mq (fun q2=>?_) fun q2=>rfl;rw[hc hH P.r,show bw.contains aZ=true by simpa using q,aS rfl,LM P.r fl hs (by simpa using q2)];rfl
 have a1:bw.contains aZ=true:=by simpa using all _ (cp ..)
 obtain⟨r,hk⟩:∃r,D.aQ.lookup aZ=some r:=rX.mp (by simpa using all (!(D.aQ.lookup aZ).isSome,"NotIn","not in") (by simp));have q0:=Bu (aZ:=aZ) (ps:=[.str "leave"]) P.m tu (eJ (by omega)) (by show 2+1<=e_;decide) rfl;have x0:=Ext.put (o:=.lst (D.rows++[kh D.rows aZ "leave" []])) P.m.rw;have m0:=P.m.Lj x0;obtain⟨A1,X_,q1,le1,x1,m1⟩:=OL (aZ:=aZ) (n:=D.rows.length+1) m0 (dA (eJ (by omega))) hk;have P':=P.g.rk.leave (aZ:=aZ);have dl:=oq (fun p:Str×Str=>decide (p.1≠aZ)) D.aQ;have Ye:pZ (D.stays.map (ju aZ (D.rows.length+1)))=(kJ D.aQ aZ).map (·.1):=by rw[zY,P.g.op,yB]
 obtain⟨A2,cD,cN,q2,o2,x2,m2⟩:=yy m1 (mI tu) P' Ye (by rw[vI];exact eJ (by omega)) (by rw[bj];exact dA (eJ (by omega))) (eJ (by show(D.aQ.filter _).length<_;omega));have le0:=x0.le;have ol:=o2.len;rw[vI]at ol;have ol3:cN.length=(D.aQ.filter fun p=>decide (p.1≠aZ)).length:=ol.2.2;refine Bw (D':=⟨cD,cN,D.ents,D.ent,D.stays.map (ju aZ (D.rows.length+1)),D.cq,D.inv,D.asked,D.d,D.v,D.p,X_,D.kb,D.ka⟩) P hH SQ (LR hM hj q0 q1 q2) (((lF.of x0 (by simp)).trans (lF.of x1 (by simp))).trans (lF.of x2 (by simp))) m2 (fun k hk=>?_) (fun Yf r2=>?_) ⟨o2.iU (P.g.fr.add rfl (by show 3<=10;decide)),o2.E5 P',Ye.trans o2.names.symm,yA o2 fun q hq=>?_,o2.ow,P.g.ia,fun z hz=>?_,P.g.bs,P.g.is,P.g.nd⟩ ⟨by show cD.length<=_;omega,by show cN.length<=_;omega,by show D.ents.length<=_;omega,by show(D.stays.map _).length<=_;rw[bj];omega,by show D.asked.length<=_;omega,by show D.cq.length<=_;omega,by show D.inv.length<=_;omega⟩
 ·simp only[bB,cI,cJ]at hk⊢;omega
 ·obtain⟨A3,Qa,LY,q3,o3,x3,r3⟩:=OJ (aZ:=aZ) r2 fl P.g.rk (eJ (by omega)) (eJ (by omega)) hs hk;obtain⟨rfl,rfl⟩:=o2.one o3;have hc:=hc Yf r2;rw[a1,aS rfl,q3]at hc;exact⟨A3,hc,lF.of x3 (by simp),r3⟩
 ·have:=P.g.lt q (fY.mp hq).1;show D.ent q.1<((D.rows++[kh D.rows aZ "leave" []]).length:Int)+1;rw[vI];omega
 ·have hz:z∈cN.map (·.1):=hz;rw[o2.names,yB]at hz;exact P.g.ns z (fY.mp hz).1
end
def TQ(a b c:Int):Bool:=decide (a<2)||((a==2)&&(decide (1<b)||decide (1<c)))
section
variable {A1:Ab}{j t ks kb ka:Nat}{D:Dat}{rq:List (Str×Str)}{bn iv cq asked:List Str}{stays:List jB}{ent:Str->Int}{d4 c6 role d v p:Str}
theorem LZ(h:RA A aM rows aQ ents rq bn iv)(tu:jK rows)(k:dG aQ ents ent)(h4:role∈gy)(q:(aQ.lookup aZ).isNone=false)(q2:(aQ.lookup d4).isNone=false):nX [aU 5 A (.at aM),.str aZ,.str d4,.str role]=.ok (.bl (!TQ (E7 aQ aZ) (E7 aQ d4) (lvl role))):=by
 obtain⟨r,hr⟩:=zX q;obtain⟨s,hs⟩:=zX q2;show dE (gS.1 [.sh (aU 5 A (.at aM)),.sh (.str aZ),.sh (.str d4),.sh (.str role)])=_;unfold gS;have l1:Bc [.str "speaker"]=.ok (.int 1):=ur (by decide+kernel);have e:=TK (k.lk hr);simp only[ev,cY,h.t7 (nN tu),dR,hr,hs,de,kS,e.1,e.2,ur (k.lk hr),ur (k.lk hs),ur h4,l1,evC];rw[yz hr,yz hs];have b:=LV r;unfold TQ;by_cases c2:lvl r=2
 ·simp only[c2,decide_true,ev];congr 2;rw[sF];simp only[hU,oF,Bool.or_eq_false_iff,Bool.and_eq_false_iff,wd];constructor
  ·intro q;refine⟨by decide,.inr ?_⟩;split at q<;>omega
  ·intro q;have:¬(1<lvl s)/\¬(1<lvl role):=q.2.resolve_left (by simp);split<;>omega
 ·simp only[c2,decide_false,ev,cY,h.t7 (nN tu),dR,hr,de,kS,e.1];congr 2;rw[sF];simp only[hU,oF,Bool.or_eq_false_iff,Bool.and_eq_false_iff,wd,iW];constructor
  ·intro q;exact⟨by omega,.inl c2⟩
  ·intro q;omega
abbrev csR(aQ:List (Str×Str))(aZ d4 role:Str):List (Bool×Str×Str):=[((aQ.lookup aZ).isNone,"NotIn","not in"),((aQ.lookup d4).isNone,"NotIn","not in"),(TQ (E7 aQ aZ) (E7 aQ d4) (lvl role),"NoRight","no right"),(aQ.lookup d4==some role,"Known","known")]
theorem OT(h:RA A aM rows aQ ents rq bn iv)(tu:jK rows)(k:dG aQ ents ent)(hw:aZ.length<=1000)(hv:d4.length<=1000)(h4:role∈gy):fS [.at aM,.str aZ,.str d4,.str role] A=fX A (fS [.at aM,.str aZ,.str d4,.str role] A) (csR aQ aZ d4 role):=by
 have hr4:role.length<=1000:=(by decide+kernel:∀z∈gy,z.length<=1000) role h4;refine Mq (fun q=>?_) fun q=>Mq (fun q2=>?_) fun q2=>Mq (fun q3=>?_) fun q3=>Mq (fun q4=>?_) fun _=>rfl
 all_goals
  show cM (g6.1 [.sh (.at aM),.sh (.str aZ),.sh (.str d4),.sh (.str role)] A)=_;unfold g6;simp only[ev,cY,hJ,iz,h.call (m:="need_in") rfl,zW h tu hw,q,cK,cW,cx]
 ·simp only[ev,cY,hJ,iz,h.call (m:="need_in") rfl,zW h tu hv,q2,cK]
 ·obtain⟨w,sy⟩:=jC (z:=aZ) (acc:=Str.empty) (n:=0) (k:=fun acc=>nQ (.ok (.str " may not make ")) (fun acc=>nQ (.ok (.str d4)) (fun acc=>nQ (.ok (.str " a ")) (fun acc=>nQ (.ok (.str role)) (fun acc=>CC acc) acc) acc) acc) acc) (bu 0) hw (by decide) fun a ha=>jC ha (by decide+kernel) (by decide) fun a ha=>jC ha hv (by decide) fun a ha=>jC ha (by decide+kernel) (by decide) fun a ha=>jC ha hr4 (by decide) fun a ha=>jN (by omega);have tr:∀b,pj (.bl b)=.ok b:=fun _=>rfl;simp only[ev,cY,hJ,iz,h.call (m:="need_in") rfl,zW h tu hv,q2,cW,cx,h.dv (n:=4) (m:="may_give") rfl,LZ h tu k h4 q q2,q3,dz,eR,tr,sy]
 ·obtain⟨s,hs⟩:=zX q2;have es:s=role:=by rw[hs]at q4;simpa using q4
  subst es;obtain⟨w,sy⟩:=jC (z:=d4) (acc:=Str.empty) (n:=0) (k:=fun acc=>nQ (.ok (.str " is a ")) (fun acc=>nQ (.ok (.str s)) (fun acc=>CC acc) acc) acc) (bu 0) hv (by decide) fun a ha=>jC ha (by decide+kernel) (by decide) fun a ha=>jC ha hr4 (by decide) fun a ha=>jN (by omega);have tr:∀b,pj (.bl b)=.ok b:=fun _=>rfl;simp only[ev,cY,hJ,iz,h.call (m:="need_in") rfl,zW h tu hv,q2,cW,cx,h.dv (n:=4) (m:="may_give") rfl,LZ h tu k h4 q q2,q3,dz,eR,tr,h.t7 (nN tu),dR,hs,wt,de,kS,bX,sy]
theorem TR(h:RA A aM rows aQ ents rq bn iv)(tu:jK rows)(k:dG aQ ents ent)(hw:aZ.length<=1000)(hv:d4.length<=1000)(h4:role∈gy)(hl:rows.length+1<e_)(hk:aQ.length+1<e_)(all:∀c∈csR aQ aZ d4 role,c.1=false):
  ∃A' cD cN,fS [.at aM,.str aZ,.str d4,.str role] A=.ok .cu A'/\gF (rows++[kh rows aZ "role" [.str d4,.str role]]) (fB aQ d4 role) cD cN/\lF A A' (iS aM)/\RA A' aM cD cN ents rq bn iv:=by
 have q:(aQ.lookup aZ).isNone=false:=all ((aQ.lookup aZ).isNone,"NotIn","not in") (by simp);have q2:(aQ.lookup d4).isNone=false:=all ((aQ.lookup d4).isNone,"NotIn","not in") (by simp);have q3:TQ (E7 aQ aZ) (E7 aQ d4) (lvl role)=false:=all (TQ (E7 aQ aZ) (E7 aQ d4) (lvl role),"NoRight","no right") (by simp);have q4:(aQ.lookup d4==some role)=false:=all (aQ.lookup d4==some role,"Known","known") (by simp);obtain⟨s,hs⟩:=zX q2;have es:(s==role)=false:=by rw[hs]at q4;simpa using q4
 obtain⟨A1,g1,g2,g3⟩:=LG (aZ:=aZ) (d4:=d4) (role:=role) h (nN tu) (by omega) (by rw[lR];omega);rw[nv]at g2 g3;have pl:=v8 (l:=aQ) (z:=d4) (a:=role);obtain⟨A2,cD,cN,s1,s2,s3,s4⟩:=LH g3 (nN (mI tu)) (k.role (cA.mpr ⟨_,iJ hs,rfl⟩) h4) (by rw[vI];omega) (by omega);refine⟨A2,cD,cN,?_,s2,(lF.of g2 (by simp)).trans (lF.of s3 (by simp)),s4⟩;show cM (g6.1 [.sh (.at aM),.sh (.str aZ),.sh (.str d4),.sh (.str role)] A)=_;unfold g6;have tr:∀b,pj (.bl b)=.ok b:=fun _=>rfl;simp only[ev,cY,hJ,iz,h.call (m:="need_in") rfl,zW h tu hw,zW h tu hv,q,q2,cW,cx,h.dv (n:=4) (m:="may_give") rfl,LZ h tu k h4 q q2,q3,dz,eR,tr,h.t7 (nN tu),dR,hs,wt,de,kS,es,h.call (m:="give_role") rfl,g1,g3.call (m:="see_to_owner") rfl,s1]
theorem bdY{ρ:Rz Tr}{Y:bO}:∀{cs:List (Bool×Str×Str)},cM (qV (fX A ρ cs) Y)=fX A (cM (qV ρ Y)) cs
 |[]=>rfl
 |(true,_,_)::cs=>rfl
 |(false,_,_)::cs=>bdY (cs:=cs)
theorem TU(hH:cy A bf a9)(hi:a9.lookup c6=some aM)(h:RA A aM rows aQ ents rq bn iv)(hw:aZ.length<=1000)(hv:d4.length<=1000)(hR:fS [.at aM,.str aZ,.str d4,.str role] A=fX A (fS [.at aM,.str aZ,.str d4,.str role] A) cs):
  gE [.at 0,.tup [.str "role",.str aZ,.str c6,.str d4,.str role]] A=fX A (cM (qV (fS [.at aM,.str aZ,.str d4,.str role] A) [.sh (.at 0),.sh (.str aZ),.sh (.str c6),.sh (.str d4),.sh (.str role)])) ((!((bf.lookup aZ).isSome&&(bf.lookup d4).isSome),"NoPerson","no person")::cs):=by
 show cM (js.1 [.sh (.at 0),.sh (.tup [.str "role",.str aZ,.str c6,.str d4,.str role]),.no] A)=_;unfold js;simp only[ev,cY,hJ,iz,Mr,cg,cj,sn,String.reduceBEq,bX,hH.call (m:="role") rfl,bsr];show cM (lB.1 [.sh (.at 0),.sh (.str aZ),.sh (.str c6),.sh (.str d4),.sh (.str role)] A)=_;unfold lB;simp only[ev,cY,hJ,iz,hH.call (m:="place_for") rfl,GW,DF hH hw hv hi];cases((bf.lookup aZ).isSome&&(bf.lookup d4).isSome)with
 |false=>rfl
 |true=>
  simp only[cK,ev,cY,hJ,iz,h.call (m:="role") rfl];exact(cQ (fun σ=>cM (qV σ _)) hR).trans bdY
theorem OU(h:bU A j ks kb ka rows bo stays cq asked d v p)(k:dG bo ents ent)(h4:role∈gy):iR [aU 3 A (.at j),.tup [.str "role",.str aZ,.str c6,.str d4,.str role]]=.ok (fW (csR bo aZ d4 role).tail):=by
 show dE (gm.1 [.sh (aU 3 A (.at j)),.sh (.tup [.str "role",.str aZ,.str c6,.str d4,.str role]),.no,.no,.no,.no])=_;unfold gm;have sl:AS (.ok (.tup [.str "role",.str aZ,.str c6,.str d4,.str role])) (.ok none) (Nw (.ok (.int 2)))=.ok (.tup [.str "role",.str aZ]):=rfl;have gt:∀a b Y c e,Rw (gT [2,3]) (.ok (.tup [a,b])) (c::e:: .no:: .no::Y)=.ok (.nx (c::e:: .sh a:: .sh b::Y)):=fun _ _ _ _ _=>rfl;have n1:Ho (.str "role") (.tup [.str "role",.str "out"])=.ok (.bl true):=rfl;have n2:Ho (.str role) (.tup [.str "keeper",.str "owner"])=.ok (.bl (decide (1<lvl role))):=by
  have:role="guest"\/role="speaker"\/role="keeper"\/role="owner":=by simpa using h4
  rcases this with rfl|rfl|rfl|rfl<;>rfl
 have ob:∀a b,VI (.ok a) (.ok b)=.ok (a||b):=fun a b=>by cases a<;>rfl
 have ab:∀a b,Hf (.ok a) (.ok b)=.ok (a&&b):=fun a b=>by cases a<;>rfl
 simp only[ev,cY,Mr,evC,sl,gt,OQ (h.C' (n:=1)) k,n1,LW,cg,cj];refine Zg (fun q=>by simp only[q,ev]) fun q=>?_
 simp only[q,ev,cY,Mr,evC,n2,ob,ab,bX];refine Zg (fun q=>by simp only[TQ]at q;simp only[q,ev]) fun q3=>?_
 simp only[TQ]at q3;obtain⟨s,hs⟩:=zX q;simp only[q3,ev,cY,Mr,h.C' (n:=1),dR,hs,de,kS,fW];rw[show(some s==some role)=(s==role)from rfl];cases(s==role)<;>rfl
theorem TV(h:bU A j ks kb ka rows bo stays cq asked d v p)(f:jK rows)(hl:rows.length<e_)(ha:bo.length<e_):
  ∃A',pX [.at j,.tup [.str "role",.str aZ,.str c6,.str d4,.str role]] A=.ok .cu A'/\lF A A' (jS j ks kb ka)/\bU A' j ks kb ka (rows++[kh rows aZ "role" [.str d4,.str role]]) (fB bo d4 role) stays cq asked d v p:=by
 have h0:=h.ext (Ext.push (o:=.bT P9)) fun _ _=>rfl;have w:=Bu (aZ:=aZ) (ps:=[.str "role",.str d4,.str role]) h0 f hl (by show 2+3<=e_;decide) rfl;have h1:=h0.Lj (Ext.put (o:=.lst (rows++[kh rows aZ "role" [.str d4,.str role]])) h0.rw);have t1:=(lF.push (A:=A) (o:=.bT P9) (S:=jS j ks kb ka)).trans (lF.put (o:=.lst (rows++[kh rows aZ "role" [.str d4,.str role]])) h0.rw (by simp));refine⟨_,?_,t1.trans (lF.put (o:=.bT (dP .str (fB bo d4 role))) h1.rl (by simp)),h1.Oq (Ext.put h1.rl)⟩;show cM (lE.1 [.sh (.at j),.sh (.tup [.str "role",.str aZ,.str c6,.str d4,.str role]),.no,.no,.no,.no] A)=_;unfold lE;have s1:AS (.ok (.tup [.str "role",.str aZ,.str c6,.str d4,.str role])) (.ok none) (Nw (.ok (.int 2)))=.ok (.tup [.str "role",.str aZ]):=rfl;have s2:AS (.ok (.tup [.str "role",.str aZ,.str c6,.str d4,.str role])) (Nw (.ok (.int 3))) (.ok none)=.ok (.tup [.str d4,.str role]):=rfl;have s3:JP (.ok (.bT P9)) (.ok (.str "role")) (.ok (.str "role"))=.ok (.str "role"):=rfl;have s4:yQ (.tup [.str "role"]) (.tup [.str d4,.str role])=.ok (.tup [.str "role",.str d4,.str role]):=rfl;have s5:∀A,rW (.ok (.tup [.str "role",.str d4,.str role])) A=.ok (.tup [.str "role",.str d4,.str role]) A:=fun _=>rfl;have n2:Ho (.str "role") (.tup [.str "out",.str "bar"])=.ok (.bl false):=rfl;have ep:=pO (z:=d4) (t:=.str role) (Y:=[.sh (.at j),.sh (.tup [.str "role",.str aZ,.str c6,.str d4,.str role]),.sh (.str "role"),.sh (.str aZ),.sh (.at A.length),.sh (.int (rows.length+1))]) h1.rl (by rw[lR];exact ha);rw[nv]at ep;simp only[ev,cY,hJ,iz,Mr,s1,GW,gt2,nm1,nm2,cg,cj,s2,s3,s4,s5,w,sn,String.reduceBEq,bX,rV,jY,h1.Oo,ep,n2]
theorem TX(P:Pr A aM j D t)(hH:cy A bf a9)(hM:fR A bw c8)(hi:a9.lookup c6=some aM)(hj:c8.lookup c6=some j)(hp:∀z,(bf.lookup z).isSome=bw.contains z)(h6:aZ∈six)(h7:d4∈six)(h4:role∈gy)(ht:t<=1000):Res A aM j D t [.str "role",.str aZ,.str c6,.str d4,.str role]:=by
 have tu:=P.g.fr.tu;have hs:=iT h6;have hv:=iT h7;have b1:=P.b.b1;have b2:=P.b.b2;have b3:=P.b.b3;have b4:=P.b.b4;have b5:=P.b.b5;have b6:=P.b.b6;have b7:=P.b.b7;have hr:=TL (aZ:=aZ) (x3:=d4) (c9:=[.str role]) (wh:=true) hM P.m hj (.inr ⟨.inr (.inl rfl),rfl⟩) (OU P.m P.g.rk h4);have hc:=fun{A:Ab} (hH:cy A bf a9) (r:RA A aM D.rows D.aQ D.ents (LX D.d D.v D.p) D.cq D.inv)=>TU (c6:=c6) hH hi r hs hv (OT r tu P.g.rk hs hv h4);simp only[hp]at hc;simp only[dz,kz]at hr;refine Bv P hr (hc hH P.r) (by simp) fun all SQ=>?_
 have Yg:=fun c hc=>all c (b_ _ hc);obtain⟨A1,q1,t1,m1⟩:=TV (aZ:=aZ) (c6:=c6) (d4:=d4) (role:=role) P.m tu (eJ (by omega)) (eJ (by omega));obtain⟨s,hsx⟩:=zX (Yg ((D.aQ.lookup d4).isNone,"NotIn","not in") (by simp));have kU:d4∈D.aQ.map (·.1):=cA.mpr ⟨_,iJ hsx,rfl⟩;have P':=P.g.rk.role kU h4;have pk:=yw (a:=role) kU;have pl:=v8 (l:=D.aQ) (z:=d4) (a:=role);have pl2:(fB D.aQ d4 role).length=D.aQ.length:=by have:=cQ List.length pk;simpa using this
 obtain⟨A2,cD,cN,q2,o2,x2,m2⟩:=yy m1 (mI tu) P' (P.g.op.trans pk.symm) (by rw[vI];exact eJ (by omega)) (dA (eJ (by omega))) (eJ (by omega));have ol:=o2.len;rw[vI]at ol;refine Bw (D':={D with rows:=cD,aQ:=cN}) P hH SQ (TN (.inr (.inr (.inl rfl))) hM hj q1 q2 rfl) (t1.trans (lF.of x2 (by simp))) m2 Kept.refl (fun Yf r2=>?_) ⟨o2.iU (P.g.fr.add rfl (by show 5<=10;decide)),o2.E5 P',(P.g.op.trans pk.symm).trans o2.names.symm,yA o2 fun q hq=>?_,o2.ow,P.g.ia,fun z hz=>P.g.ns z (by have hz:z∈cN.map (·.1):=hz;rwa[o2.names,pk]at hz),P.g.bs,P.g.is,P.g.nd⟩ ⟨by show cD.length<=_;omega,by show cN.length<=_;omega,by show D.ents.length<=_;omega,by show D.stays.length<=_;omega,by show D.asked.length<=_;omega,by show D.cq.length<=_;omega,by show D.inv.length<=_;omega⟩
 ·obtain⟨A3,Qa,LY,q3,o3,x3,r3⟩:=TR (aZ:=aZ) (d4:=d4) (role:=role) r2 tu P.g.rk hs hv h4 (eJ (by omega)) (eJ (by omega)) Yg;obtain⟨rfl,rfl⟩:=o2.one o3;have hc:=(hc Yf r2).trans (X' all);rw[q3]at hc;exact⟨A3,hc,x3,r3⟩
 ·have PR:q.1∈D.aQ.map (·.1):=by rw[<-pk];exact fV hq
  obtain⟨q',Vc,e⟩:=cA.mp PR;have:=P.g.lt q' Vc;show D.ent q.1<((D.rows++[kh D.rows aZ "role" [.str d4,.str role]]).length:Int)+1;rw[vI,<-e];omega
end
section
theorem Bx{n:Nat}{t:Tr}(h:yG t=true):ff (n+1) [t,t]=.ok (.bl true):=by
 cases t with
 |cu=>rfl
 |bl b=>cases b<;>rfl
 |int k=>show Rs.ok (Tr.bl (k==k))=_;rw[bX]
 |str z=>show Rs.ok (Tr.bl (z==z))=_;rw[bX]
 |_=>cases h
theorem L3{F:bO->Rs Tr}:∀{ts:List Tr} {c d:Cell},(∀t∈ts,F [.sh t,.sh t]=.ok (.bl true))->D_ (gT [0,1]) (fun _=>.ok true) F (ts.map fun t=>.tup [t,t]) [c,d]=.ok (ts.map fun _=>.bl true)
 |[],_,_,_=>rfl
 |t::ts,c,d,h=>by
  show(Nc (F [.sh t,.sh t])).bind (fun y=>(D_ (gT [0,1]) (fun _=>.ok true) F (ts.map fun t=>.tup [t,t]) [.sh t,.sh t]).bind fun ys=>Rs.ok (y::ys))=_;rw[h t (cp ..),L3 fun u hu=>h u (b_ _ hu)]
  rfl
theorem kQ{n:Nat}{ts:List Tr}(hl:ts.length<=e_)(h:∀t∈ts,ff n [t,t]=.ok (.bl true)):ff (n+1) [.tup ts,.tup ts]=.ok (.bl true):=by
 show dE ((uq (ff n)).1 [.sh (.tup ts),.sh (.tup ts)])=_;unfold uq;have i1:RL [.tup ts,.ty "tuple"]=.ok (.bl true):=rfl;have i2:pj (.bl true)=.ok true:=rfl;have i3:∀a b:Int,My (.int a) (.int b)=.ok (.bl (!(a==b))):=fun _ _=>rfl;have i4:zpW (.ok [.tup ts,.tup ts])=.ok (ts.map fun t=>.tup [t,t]):=by
  show(if ts.length<=ts.length then Rs.ok (PU ts ts)else .bad)=_;rw[aS (bu _),Dh]
 have i5:u4 [none,none] (gT [0,1]) (fun _=>.ok true) (fun Y=>(dv (ff n) (xp (xm Y 0) (xp (xm Y 1) (.ok []))))) (.ok (ts.map fun t=>.tup [t,t])) [.sh (.tup ts),.sh (.tup ts)]=.ok (.lst (ts.map fun _=>.bl true)):=by
  show(if(ts.map fun t=>Tr.tup [t,t]).length<=e_ then _ else _)=_;rw[aS (by rw[bj];exact hl)];show(D_ (gT [0,1]) _ _ _ [.no,.no]).bind _=_;rw[L3 fun t ht=>h t ht]
  rfl
 have i6:ND [.lst (ts.map fun _=>.bl true)]=.ok (.bl true):=Lo fun t ht=>by obtain⟨_,_,rfl⟩:=cA.mp ht;rfl
 simp only[ev,cY,i1,i2,i3,i4,bX,dz,i5,i6]
variable {i j t:Nat}{D:Dat}{name:Str}
theorem p4(h:cy A bf a9)(hi:a9.lookup name=some i):nY [aU 5 A (.at 0),.str name]=.ok (aU 3 A (.at i)):=by
 show dE (gU.1 [.sh (aU 5 A (.at 0)),.sh (.str name)])=_;unfold gU;simp only[ev,cY,h.Tu,d9,hi,de,m5,dz,dR,kS]
theorem OV(h:cy A bf a9)(hi:a9.lookup name=some i)(P:Pr A i j D t):vp [aU 5 A (.at 0),.str name]=.ok (.tup D.rows):=by
 show dE (lD.1 [.sh (aU 5 A (.at 0)),.sh (.str name)])=_;unfold lD;have e:vo [aU 3 A (.at i)]=.ok (.tup D.rows):=by
  show dE (lC.1 [.sh (aU 3 A (.at i))])=_;unfold lC;simp only[ev,cY,P.r.aaV (n:=1) P.g.fr.tu,Ox]
 simp only[ev,cY,h.dv (n:=4) (m:="place") rfl,p4 h hi,P.r.dv (n:=2) (m:="rows") rfl,e]
theorem L4(h:cy A bf a9)(hi:a9.lookup name=some i)(P:Pr A i j D t):uh [aU 5 A (.at 0),.str name]=.ok (.tup ((cT (D.aQ.map (·.1))).map fun z=>.tup [.str z,.str ((D.aQ.lookup z).getD "")])):=by
 show dE (ke.1 [.sh (aU 5 A (.at 0)),.sh (.str name)])=_;unfold ke;have e:uf [aU 3 A (.at i)]=.ok (.tup ((cT (D.aQ.map (·.1))).map fun z=>.tup [.str z,.str ((D.aQ.lookup z).getD "")])):=by
  show dE (j_.1 [.sh (aU 3 A (.at i))])=_;unfold j_;simp only[ev,cY,P.r.aaW (n:=1) UG,EW P.g.rk.nd P.g.ns (iy P.g.rk.nd),Ox]
 simp only[ev,cY,h.dv (n:=4) (m:="place") rfl,p4 h hi,P.r.dv (n:=2) (m:="roles") rfl,e]
theorem L5{l:List Str}:(l.map fun z=>(z,true)).map (·.1)=l:=by rw[cF];exact kB l
theorem IA(h:cy A bf a9)(hi:a9.lookup name=some i)(P:Pr A i j D t)(hb:D.cq.length<64)(hs:∀z∈D.cq,z.length<=1000):rn [aU 5 A (.at 0),.str name]=.ok (.tup ((cT D.cq).map .str)):=by
 show dE (je.1 [.sh (aU 5 A (.at 0)),.sh (.str name)])=_;unfold je;have e:rj [aU 3 A (.at i)]=.ok (.tup ((cT D.cq).map .str)):=by
  show dE (jd.1 [.sh (aU 3 A (.at i))])=_;unfold jd;have s:=qG (f:=Tr.bl) (l:=D.cq.map fun z=>(z,true)) (fun p hp=>by obtain⟨z,hz,rfl⟩:=cA.mp hp;exact hs z hz) (by rw[bj];exact hb);rw[L5]at s;simp only[ev,cY,P.r.aaY (n:=1) vX,show nh [.bT (nS D.cq)]=_ from s,Ox]
 simp only[ev,cY,h.dv (n:=4) (m:="place") rfl,p4 h hi,P.r.dv (n:=2) (m:="barred") rfl,e]
theorem L6(h:cy A bf a9)(hi:a9.lookup name=some i)(P:Pr A i j D t)(hb:D.inv.length<64)(hs:∀z∈D.inv,z.length<=1000):ui [aU 5 A (.at 0),.str name]=.ok (.tup ((cT D.inv).map .str)):=by
 show dE (kg.1 [.sh (aU 5 A (.at 0)),.sh (.str name)])=_;unfold kg;have e:ug [aU 3 A (.at i)]=.ok (.tup ((cT D.inv).map .str)):=by
  show dE (kc.1 [.sh (aU 3 A (.at i))])=_;unfold kc;have s:=qG (f:=Tr.bl) (l:=D.inv.map fun z=>(z,true)) (fun p hp=>by obtain⟨z,hz,rfl⟩:=cA.mp hp;exact hs z hz) (by rw[bj];exact hb);rw[L5]at s;simp only[ev,cY,P.r.aaZ (n:=1) vX,show nh [.bT (nS D.inv)]=_ from s,Ox]
 simp only[ev,cY,h.dv (n:=4) (m:="place") rfl,p4 h hi,P.r.dv (n:=2) (m:="asked") rfl,e]
theorem E8{nM w:Str}(h:cy A bf a9)(hi:a9.lookup name=some i)(P:Pr A i j D t)(hc:(LX D.d D.v D.p).lookup nM=some w):pW [aU 5 A (.at 0),.str name,.str nM]=.ok (.str w):=by
 show dE (iw.1 [.sh (aU 5 A (.at 0)),.sh (.str name),.sh (.str nM)])=_;unfold iw;have e:pV [aU 3 A (.at i),.str nM]=.ok (.str w):=by
  show dE (iu.1 [.sh (aU 3 A (.at i)),.sh (.str nM)])=_;unfold iu;simp only[ev,cY,P.r.aaX (n:=1) UG,dR,hc,de,kS]
 simp only[ev,cY,h.dv (n:=4) (m:="place") rfl,p4 h hi,P.r.dv (n:=2) (m:="setting") rfl,e]
end
section
variable {i i' j' t:Nat}{D D' D1 D2:Dat}{ts:List Tr}{name:Str}
def rA(D:Dat)(i aM:Nat):Prop:=∀k∈[D.ks,D.kb,D.ka],(k<i\/i+6<k)/\k≠aM/\k≠aM+1/\k≠aM+2
def Apart(D D':Dat):Prop:=∀k∈[D.ks,D.kb,D.ka],k∉[D'.ks,D'.kb,D'.ka]
theorem Apart.symm (h:Apart D D'):Apart D' D:=fun k hk q=>h k q hk
theorem far(Am:(i=7/\aM=16/\i'=27/\j'=36)\/(i=27/\aM=36/\i'=7/\j'=16)){k:Nat}(hk:(i<=k/\k<=i+6)\/k=aM\/k=aM+1\/k=aM+2):(k<i'\/i'+6<k)/\k≠j'/\k≠j'+1/\k≠j'+2:=by
 rcases Am with⟨rfl,rfl,rfl,rfl⟩|⟨rfl,rfl,rfl,rfl⟩<;>refine⟨?_,?_,?_,?_⟩<;>omega
theorem rA.ne (c:rA D i aM){k q:Nat}(hk:(i<=k/\k<=i+6)\/k=aM\/k=aM+1\/k=aM+2)(hq:q∈[D.ks,D.kb,D.ka]):k≠q:=fun e=>by
 subst e;have c:=c k hq;rcases hk with h|h|h|h
 ·rcases c.1 with z|z
  ·exact Nat.not_le_of_lt z h.1
  ·exact Nat.not_le_of_lt z h.2
 ·exact c.2.1 h
 ·exact c.2.2.1 h
 ·exact c.2.2.2 h
theorem L7(Am:(i=7/\aM=16/\i'=27/\j'=36)\/(i=27/\aM=36/\i'=7/\j'=16))(hH:cy A bf a9)(hM:fR A bw c8)(R1:Pr A i aM D t)(R2:Pr A i' j' D' t)(c1:rA D i' j')(c2:rA D' i aM)(ap:Apart D D')(res:Res A i aM D t ts):
  ∃A' D1,jt [.at 0,.at 4,.tup ts] A=.ok (.bl true) A'/\cy A' bf a9/\fR A' bw c8/\Pr A' i aM D1 (t+1)/\Pr A' i' j' D' (t+1)/\rA D1 i' j'/\rA D' i aM/\Apart D1 D':=by
 obtain⟨A',D1,e,x,P1,kp⟩:=res;have hi:=R1.hi;have t6:∀k∈touched i aM D,6<k:=fun k hk=>by
  rcases dw.mp hk with hk|hk
  ·simp only[bB,cI,cJ]at hk;omega
  ·exact(R1.dj k hk).1
 have l1:=ik R2.m.st;have l2:=ik R2.m.br;have l3:=ik R2.m.as;have l4:=ik R2.m.rl;have l5:=ik R2.r.iv;refine⟨A',D1,e,cy.kp hH x t6,fR.kp hM x t6,P1,R2.kp x fun k hk=>?_,fun k q=>?_,c2,fun k q=>?_⟩
 ·have go:∀k,((i<=k/\k<=i+6)\/k=aM\/k=aM+1\/k=aM+2)->(k<i'\/i'+6<k)/\k∉jS j' D'.ks D'.kb D'.ka:=fun k hk=>by
   have f:=far Am hk;have n:=fun q (hq:q∈[D'.ks,D'.kb,D'.ka])=>c2.ne hk hq;refine⟨f.1,fun m=>?_⟩;simp only[bB,cI,cJ]at m n;rcases m with m|m|m|m
   ·exact f.2.1 m
   ·exact f.2.2.1 m
   ·exact f.2.2.2 m
   ·exact n k m rfl
  rcases dw.mp hk with hk|hk
  ·refine go k (.inl ?_)
   clear go Am
   simp only[bB,cI,cJ]at hk;rcases hk with rfl|hk<;>first|exact⟨bu _,md _ 6⟩|omega
  ·have:k=aM\/k=aM+1\/k=aM+2\/k∈[D.ks,D.kb,D.ka]:=by simpa using hk
   rcases this with h|h|h|h
   ·exact go k (.inr (.inl h))
   ·exact go k (.inr (.inr (.inl h)))
   ·exact go k (.inr (.inr (.inr h)))
   ·have f:=c1 k h;refine⟨f.1,fun m=>?_⟩;have a:=ap k h;simp only[bB,cI,cJ]at m a;rcases m with m|m|m|m
    ·exact f.2.1 m
    ·exact f.2.2.1 m
    ·exact f.2.2.2 m
    ·exact a m
 ·rcases kp k q with q|q
  ·exact c1 k q
  ·omega
 ·rcases kp k q with q|q
  ·exact ap k q
  ·simp only[bB,cI,cJ,not_or];omega
structure Sta(A:Ab)(t:Nat)(bf:List (Str×Bool))(bw:List Str)(D1 D2:Dat):Prop where
 h:cy A bf [("hall",7),("yard",27)]
 m:fR A bw [("hall",16),("yard",36)]
 pp:bf.map (·.1)=bw
 pl:bw.length<=5+t
 p6:∀z∈bw,z∈six
 r1:Pr A 7 16 D1 t
 r2:Pr A 27 36 D2 t
 c1:rA D1 27 36
 c2:rA D2 7 16
 ap:Apart D1 D2
def St(A:Ab)(t:Nat):Prop:=∃bf bw D1 D2,Sta A t bf bw D1 D2
theorem yC{α:Type}{z:Str}:∀{l:List (Str×α)},(l.lookup z).isSome=(l.map (·.1)).contains z
 |[]=>rfl
 |q::l=>by
  rw[cE,bH,List.contains_cons];cases e:(z==q.1)with
  |true=>rfl
  |false=>rw[kz];exact yC
theorem St.go {f:Str->List Tr}(h:St A t)(S:∀{i aM D bf a9 bw c8 c6},Pr A i aM D t->cy A bf a9->fR A bw c8->a9.lookup c6=some i->c8.lookup c6=some aM->(∀z,(bf.lookup z).isSome=bw.contains z)->Res A i aM D t (f c6)){c6:Str}(hr:c6="hall"\/c6="yard"):
  ∃A',jt [.at 0,.at 4,.tup (f c6)] A=.ok (.bl true) A'/\St A' (t+1):=by
 obtain⟨bf,bw,D1,D2,s⟩:=h;have hp:∀aZ,(bf.lookup aZ).isSome=bw.contains aZ:=fun aZ=>by rw[yC,s.pp]
 have hl:=s.pl;rcases hr with rfl|rfl
 ·obtain⟨A',D',e,a1,a2,a3,a4,a5,a6,a7⟩:=L7 (.inl ⟨rfl,rfl,rfl,rfl⟩) s.h s.m s.r1 s.r2 s.c1 s.c2 s.ap (S (c6:="hall") s.r1 s.h s.m (by decide+kernel) (by decide+kernel) hp);exact⟨A',e,bf,bw,D',D2,a1,a2,s.pp,by omega,s.p6,a3,a4,a5,a6,a7⟩
 ·obtain⟨A',D',e,a1,a2,a3,a4,a5,a6,a7⟩:=L7 (.inr ⟨rfl,rfl,rfl,rfl⟩) s.h s.m s.r2 s.r1 s.c2 s.c1 s.ap.symm (S (c6:="yard") s.r2 s.h s.m (by decide+kernel) (by decide+kernel) hp);exact⟨A',e,bf,bw,D1,D',a1,a2,s.pp,by omega,s.p6,a4,a3,a6,a5,a7.symm⟩
end
theorem zZ:∀{xs ss:List Str} {z:Str},z∈eB ss xs↔z∈ss\/z∈xs
 |[],ss,z=>by simp[eB]
 |x::xs,ss,z=>by
  show z∈eB (gv ss x) xs↔_;rw[zZ,bB];unfold gv;split
  ·rename_i h;exact⟨fun q=>q.elim .inl fun q=>.inr (.inr q),fun q=>q.elim .inl fun q=>q.elim (fun e=>.inl (e▸h)) .inr⟩
  ·rw[dw,cX,or_assoc]
theorem z5:∀{xs ss:List Str},ss.Nodup->(eB ss xs).Nodup
 |[],_,h=>h
 |x::xs,ss,h=>by
  show(eB (gv ss x) xs).Nodup;refine z5 ?_
  unfold gv;split
  ·exact h
  ·rename_i q;refine wy.mpr ⟨h,List.pairwise_singleton _ _,fun a ha b hb e=>q ?_⟩;rw[cX.mp hb]at e;exact e▸ha
section
variable {t:Nat}{D1 D2:Dat}
theorem ne_str{a:Str}:My (.str a) (.str a)=.ok (.bl false):=by show Rs.ok (Tr.bl (!(a==a)))=_;rw[bX];rfl
theorem TY(s:Sta A t bf bw D1 D2){G K:bO->Rs Out}
  (hG:∀{i j:Nat} {D:Dat} {name:Str} {c3 c4:Cell},([("hall",7),("yard",27)]:List (Str×Nat)).lookup name=some i->([("hall",16),("yard",36)]:List (Str×Nat)).lookup name=some j->Pr A i j D t->∃a b,G [.sh (aU 5 A (.at 0)),.sh (aU 5 A (.at 4)),.sh (.str name),c3,c4,.no]=.ok (.nx [.sh (aU 5 A (.at 0)),.sh (aU 5 A (.at 4)),.sh (.str name),a,b,.no]))
  (hK:∀a b,dE (K [.sh (aU 5 A (.at 0)),.sh (aU 5 A (.at 4)),.sh (.str "yard"),a,b,.no])=.ok (.bl true)):
  dE (B9 (FG (gN 2) G (J4 (Hd jI (xm [.sh (aU 5 A (.at 0)),.sh (aU 5 A (.at 4)),.no,.no,.no,.no] 1) (Rs.ok (.str "rooms")))) [.sh (aU 5 A (.at 0)),.sh (aU 5 A (.at 4)),.no,.no,.no,.no]) K)=.ok (.bl true):=by
 have hk:=vV (f:=fun j=>aU 3 A (.at j)) (l:=[("hall",16),("yard",36)]) (fun p hp=>(by decide+kernel:∀p∈([("hall",16),("yard",36)]:List (Str×Nat)),p.1.length<=1000) p hp);have NO:J4 (.ok (.bT (dP (fun j=>aU 3 A (.at j)) [("hall",16),("yard",36)])))=.ok [.str "hall",.str "yard"]:=hk;obtain⟨a1,b1,q1⟩:=hG (name:="hall") (c3:=.no) (c4:=.no) (by decide+kernel) (by decide+kernel) s.r1;obtain⟨a2,b2,q2⟩:=hG (name:="yard") (c3:=a1) (c4:=b1) (by decide+kernel) (by decide+kernel) s.r2;simp only[ev,cY,s.m.Ln (n:=3),NO,Ox,Gz,cg,cj,q1,q2,hK]
theorem qL{l:List Str}{n:Nat}(hl:l.length<=1000):ff (n+2) [.tup ((cT l).map .str),.tup ((cT l).map .str)]=.ok (.bl true):=kQ (by rw[bj,(d8 _).length_eq];exact dA (eJ (by omega))) fun u hu=>by
 obtain⟨z,_,rfl⟩:=cA.mp hu;exact Bx rfl
theorem Yh(s:Sta A t bf bw D1 D2)(ht:t<=50):zV [aU 5 A (.at 0),aU 5 A (.at 4)]=.ok (.bl true):=by
 show dE (uU.1 [.sh (aU 5 A (.at 0)),.sh (aU 5 A (.at 4)),.no,.no,.no,.no])=_;refine TY s (fun{i j D name c3 c4} hi hj P=>?_) fun a b=>?_
 ·have b1:=P.b.b1;have b2:=P.b.b2;have b5:=P.b.b5;have b6:=P.b.b6;have b7:=P.b.b7;have hs:=qG (f:=Tr.str) (l:=D.aQ) P.g.rk.sh (by omega);have tt:pj (.bl true)=.ok true:=rfl;simp only[ev,cY,s.m.Ln (n:=3),dR,hj,de,kS,cg,cj,P.m.C' (n:=1),hs,Gz];rw[lz (AY:=[.sh (aU 3 A (.at j))]) (fun _=>true) Tr.str (fun z=>.tup [.str z,.str ((D.aQ.lookup z).getD "")]) (by rfl) (by rw[(d8 _).length_eq,bj];exact dA (eJ (by omega))) rfl (fun _ _=>rfl) ?hF]
  case hF=>
   intro z hz _;obtain⟨q,hq,rfl⟩:=cA.mp ((d8 _).mem_iff.mp hz);simp only[ev,cY,P.m.C' (n:=1),dR,iy P.g.rk.nd q hq,de,kS,oJ]
  rw[show∀l:List Str,l.filter (fun _=>true)=l from fun l=>oA.mpr fun _ _=>rfl];have sr:ff 5 [.tup [.tup D.rows,.tup ((cT (D.aQ.map (·.1))).map fun z=>.tup [.str z,.str ((D.aQ.lookup z).getD "")])],.tup [.tup D.rows,.tup ((cT (D.aQ.map (·.1))).map fun z=>.tup [.str z,.str ((D.aQ.lookup z).getD "")])]]=.ok (.bl true):=by
   refine kQ (by show 2<=e_;decide) fun u hu=>?_
   simp only[bB,cI,cJ]at hu;rcases hu with rfl|rfl
   ·refine kQ (dA (eJ (by omega))) fun u hu=>?_
    obtain⟨us,rfl,hf,h10⟩:=P.g.fr u hu;exact kQ (dA (eJ (by omega))) fun w hw=>Bx (dm.mp hf w hw)
   ·refine kQ (by rw[bj,(d8 _).length_eq,bj];exact dA (eJ (by omega))) fun u hu=>?_
    obtain⟨z,_,rfl⟩:=cA.mp hu;refine kQ (by show 2<=e_;decide) fun w hw=>?_
    simp only[bB,cI,cJ]at hw;rcases hw with rfl|rfl<;>exact Bx rfl
  have hbr:=IA s.h hi P (by omega) fun z hz=>iT (P.g.bs z hz);have has:=L6 s.h hi P (by omega) fun z hz=>iT (P.g.is z hz);have so:=zR (ss:=D.cq) (by omega);have ss:pF (.lst (D.asked.map .str))=.ok (.lst ((cT D.inv).map .str)):=by
   show(match nR (D.asked.map .str)with|some ss=>if ss.length<64 then Rs.ok (Tr.lst ((cT (eB [] ss)).map .str))else .bad|none=>.bad)=_;rw[uP];show(if D.asked.length<64 then Rs.ok (Tr.lst ((cT (eB [] D.asked)).map .str))else .bad)=_;rw[aS (by omega),CB ((List.perm_ext_iff_of_nodup (z5 List.nodup_nil) P.g.nd).mpr fun z=>?_)];rw[zZ,<-eO (as:=D.inv),P.g.ia,eO];simp
  simp only[ev,cY,Ox,cg,cj,s.h.dv (n:=4) (m:="rows") rfl,s.h.dv (n:=4) (m:="roles") rfl,s.h.dv (n:=4) (m:="barred") rfl,s.h.dv (n:=4) (m:="asked") rfl,OV s.h hi P,L4 s.h hi P,P.m.Tv (n:=1) P.g.fr.tu,sr,tt,dz,hbr,P.m.X6 (n:=1),so,qL (l:=D.cq) (n:=3) (by omega),has,P.m.Tw (n:=1),ss,qL (l:=D.inv) (n:=3) (by omega)];rw[lz (AY:=[.sh (.str name),.sh (aU 3 A (.at j)),.sh (aU 5 A (.at 0))]) (fun _=>false) Tr.str (fun _=>.cu) (xs:=["door","voice","past"]) (by rfl) (by show 3<=e_;decide) rfl ?hC (fun _ _ e=>by cases e)]
  case hC=>
   intro z hz;have:z="door"\/z="voice"\/z="past":=by simpa using hz
   rcases this with rfl|rfl|rfl
   ·simp only[ev,cY,s.h.dv (n:=4) (m:="setting") rfl,E8 (nM:="door") (w:=D.d) s.h hi P rfl,P.m.a_d (n:=2),ne_str]
   ·simp only[ev,cY,s.h.dv (n:=4) (m:="setting") rfl,E8 (nM:="voice") (w:=D.v) s.h hi P rfl,P.m.a_v (n:=2),ne_str]
   ·simp only[ev,cY,s.h.dv (n:=4) (m:="setting") rfl,E8 (nM:="past") (w:=D.p) s.h hi P rfl,P.m.a_p (n:=2),ne_str]
  exact⟨_,_,rfl⟩
 ·have hp:bf.length<64:=by have:=s.pl;have h2:=cQ List.length s.pp;rw[bj]at h2;omega
  have sh:∀p∈bf,p.1.length<=1000:=fun p hp=>iT (s.p6 p.1 (by rw[<-s.pp];exact fV hp));have s1:=qG (f:=Tr.bl) sh hp;have s2:=zR (ss:=bw) (by have:=s.pl;omega);rw[s.pp]at s1;have s3:=qG (f:=fun j=>aU 3 A (.at j)) (l:=[("hall",7),("yard",27)]) (fun p hp=>(by decide+kernel:∀p∈([("hall",7),("yard",27)]:List (Str×Nat)),p.1.length<=1000) p hp) (by decide);have s4:nh [.bT (dP (fun j=>aU 3 A (.at j)) [("hall",16),("yard",36)])]=.ok (.lst ((cT ["hall","yard"]).map .str)):=qG (f:=fun j=>aU 3 A (.at j)) (l:=[("hall",16),("yard",36)]) (fun p hp=>(by decide+kernel:∀p∈([("hall",16),("yard",36)]:List (Str×Nat)),p.1.length<=1000) p hp) (by decide);have e1:ri [aU 5 A (.at 0)]=.ok (.tup ((cT bw).map .str)):=by
   show dE (jc.1 [.sh (aU 5 A (.at 0))])=_;unfold jc;simp only[ev,cY,s.h.Om,s1,Ox]
  have e2:ue [aU 5 A (.at 0)]=.ok (.tup ((cT ["hall","yard"]).map .str)):=by
   show dE (j9.1 [.sh (aU 5 A (.at 0))])=_;unfold j9;simp only[ev,cY,s.h.Tu,s3,Ox]
   rfl
  have sr:ff 5 [.tup [.tup ((cT ["hall","yard"]).map .str),.tup ((cT bw).map .str)],.tup [.tup ((cT ["hall","yard"]).map .str),.tup ((cT bw).map .str)]]=.ok (.bl true):=by
   refine kQ (by show 2<=e_;decide) fun u hu=>?_
   simp only[bB,cI,cJ]at hu;rcases hu with rfl|rfl
   ·exact qL (n:=2) (by decide)
   ·exact qL (n:=2) (by have:=s.pl;omega)
  simp only[ev,cY,Ox,Gz,cg,cj,s.m.Ln (n:=3),s.m.Tz (n:=3),s4,s2,s.h.dv (n:=4) (m:="rooms") rfl,s.h.dv (n:=4) (m:="people") rfl,e1,e2,sr]
end
def mix(c p m:Int):Int:=(c*48271 % p)*(c*48271 % p+7) % p % m
theorem By{c p m:Int}(hm:0<m):0<=mix c p m/\mix c p m<m:=⟨wH _ (by omega),Int.emod_lt_of_pos _ hm⟩
theorem TZ{i j:Int}(h:xr i j):Hl (.int i) (.int j)=.ok (.int (i*j)):=aS h
theorem T1{i j:Int}(h:0<j):Hk (.int i) (.int j)=.ok (.int (i % j)):=aS h
theorem Yi(c p m:Int)(hp:0<p)(MV:p<=1048576)(hm:0<m):GG [.int c,.int p,.int m]=.ok (.int (mix c p m)):=by
 have b0:0<=c*48271 % p:=wH _ (by omega);have b1:c*48271 % p<p:=Int.emod_lt_of_pos _ hp;show dE (v7.1 [.sh (.int c),.sh (.int p),.sh (.int m),.no])=_;unfold v7;have q1:Hl (.int c) (.int 48271)=.ok (.int (c*48271)):=aS (.inr ⟨by decide,by decide⟩);have q2:∀a,Hk (.int a) (.int p)=.ok (.int (a % p)):=fun a=>aS hp;have q3:Hl (.int (c*48271 % p)) (.int (c*48271 % p+7))=.ok (.int ((c*48271 % p)*(c*48271 % p+7))):=aS (.inl ⟨by omega,by omega⟩);have q4:∀a,Hk (.int a) (.int m)=.ok (.int (a % m)):=fun a=>aS hm;simp only[ev,cY,q1,q2,q3,q4,cg,cj,mix]
theorem T2(ns:List Int)(k:Int)(h:0<=k):∃c,Dw [.uZ ns,.int k]=.ok (.int c):=by
 show∃c,dE (B9 (Uq (.ok (decide (k<(ns.length:Int)))) (JI ((kS (L2.uC ns k)).bind fun n=>.ok (.int n))) (.ok (.nx [.sh (.uZ ns),.sh (.int k)]))) fun Y=>JI (Rs.ok (.int 0)))=_;by_cases hk:k<(ns.length:Int)
 ·have hl:k.toNat<ns.length:=by omega
  have e:L2.uC ns k=some (ns[k.toNat]):=by
   have q:=Ah (xs:=ns) (j:=k.toNat) (bQ hl);rw[Int.toNat_of_nonneg h]at q;exact q
  rw[iY hk,e];exact⟨_,rfl⟩
 ·rw[fh hk];exact⟨0,rfl⟩
theorem L8{l:List Tr}{k:Int}(h0:0<=k)(h1:k<l.length):∃t∈l,jI (.tup l) (.int k)=.ok t/\jI (.lst l) (.int k)=.ok t:=by
 have hl:k.toNat<l.length:=by omega
 have q:=Ah (xs:=l) (j:=k.toNat) (bQ hl);rw[Int.toNat_of_nonneg h0]at q;exact⟨l[k.toNat],kr _,by show kS (L2.uC l k)=_;rw[q];rfl,by show kS (L2.uC l k)=_;rw[q];rfl⟩
theorem Yj{l:List Str}{k:Int}(h0:0<=k)(h1:k<l.length):∃z∈l,jI (.tup (l.map .str)) (.int k)=.ok (.str z):=by
 obtain⟨t,ht,e,_⟩:=L8 (l:=l.map .str) h0 (by rw[bj];exact h1);obtain⟨z,hz,rfl⟩:=cA.mp ht;exact⟨z,hz,e⟩
abbrev OW:List Str:=["ann","bo","cy","dee","ed"]
abbrev three:List Str:=["ann","bo","zed"]
abbrev rms:List Str:=["hall","hall","hall","yard"]
abbrev sets:List Tr:=[.tup [.str "door",.str "open"],.tup [.str "door",.str "asked"],.tup [.str "voice",.str "all"],.tup [.str "voice",.str "some"],.tup [.str "past",.str "shown"],.tup [.str "past",.str "hidden"]]
inductive jF(ws:List Str):List Tr->Prop
 |OX {aZ:Str}:("come":Str)∈ws->aZ∈six->jF ws [.str "come",.str aZ]
 |one {c7 aZ c6:Str}:(c7="found"\/c7="enter"\/c7="leave")->c7∈ws->aZ∈six->(c6="hall"\/c6="yard")->jF ws [.str c7,.str aZ,.str c6]
 |arr {aZ c6 nM val:Str}:("arrange":Str)∈ws->aZ∈six->(c6="hall"\/c6="yard")->(nM="door"\/nM="voice"\/nM="past")->jF ws [.str "arrange",.str aZ,.str c6,.str nM,.str val]
 |role {aZ c6 d4 r:Str}:("role":Str)∈ws->aZ∈six->(c6="hall"\/c6="yard")->d4∈six->r∈gy->jF ws [.str "role",.str aZ,.str c6,.str d4,.str r]
 |two {c7 aZ c6 d4:Str}:(c7="ask"\/c7="out"\/c7="bar"\/c7="unbar")->c7∈ws->aZ∈six->(c6="hall"\/c6="yard")->d4∈six->jF ws [.str c7,.str aZ,.str c6,.str d4]
abbrev ten:List Str:=["come","found","enter","leave","arrange","role","ask","out","bar","unbar"]
theorem T5{b:Bool}{x y:Rs Out}{K:bO->Rs Out}{P:Rs Tr->Prop}(h:∀r,r=x\/r=y->P (dE (B9 r K))):P (dE (B9 (Uq (.ok b) x y) K)):=by
 cases b
 ·exact h y (.inr rfl)
 ·exact h x (.inl rfl)
theorem T6{ws:List Str}(hws:∀w∈ws,w∈ten)(hl:0<ws.length)(c:Int)(T:Tr):∃ts,DA [.int c,T,.tup (ws.map .str)]=.ok (.tup ts)/\jF ws ts:=by
 show∃ts,dE (uo.1 [.sh (.int c),.sh T,.sh (.tup (ws.map .str)),.no,.no,.no,.no,.no,.no,.no,.no,.no])=.ok (.tup ts)/\_;unfold uo;have mx:=fun p m (hp:0<p) (MV:p<=1048576) (hm:0<m)=>Yi c p m hp MV hm;simp only[ev,cY,mx 9931 20 (by decide) (by decide) (by decide),cg,cj];refine T5 (P:=fun r=>∃ts,r=.ok (.tup ts)/\jF ws ts) fun r h=>?_
 obtain⟨l,h0,h6,rfl⟩:∃l:List Str,(0:Int)<l.length/\(∀z∈l,z∈six)/\r=.ok (.nx [.sh (.int c),.sh T,.sh (.tup (ws.map .str)),.sh (.tup (l.map .str)),.no,.no,.no,.no,.no,.no,.no,.no]):=by
  rcases h with rfl|rfl
  ·exact⟨three,by decide,by decide+kernel,rfl⟩
  ·exact⟨OW,by decide,by decide+kernel,rfl⟩
 have hm:(0:Int)<ws.length:=by omega
 have k4:∀l:List Str,((l.map Tr.str).length:Int)=l.length:=fun l=>by rw[bj]
 have pk:=fun{l:List Str} {p m:Int} (hm:0<m) (hl:m=l.length)=>Yj (l:=l) (By (c:=c) (p:=p) hm).1 (hl▸(By hm).2);obtain⟨c6,hr,er⟩:=pk (l:=rms) (p:=9907) (m:=4) (by decide) rfl;obtain⟨c7,hw,ew⟩:=pk (l:=ws) (p:=9901) (m:=ws.length) hm rfl;obtain⟨aZ,g3,e3⟩:=pk (l:=l) (p:=9929) (m:=l.length) h0 rfl;obtain⟨d4,g4,e4⟩:=pk (l:=l) (p:=9923) (m:=l.length) h0 rfl;obtain⟨rl,hrl,e7⟩:=pk (l:=gy) (p:=9883) (m:=4) (by decide) rfl;obtain⟨st,cz,_,e8⟩:=L8 (l:=sets) (By (c:=c) (p:=9887) (m:=6) (by decide)).1 (by exact(By (by decide)).2);have Ct:c6="hall"\/c6="yard":=by simpa using hr
 have h3:=h6 aZ g3;have h4:=h6 d4 g4;have Qb:=hws c7 hw;simp only[bB,cI,cJ]at Qb cz;simp only[bH,mf]at er e7;have ni:Ho (.str "arrange") (.tup [.str "come",.str "found",.str "enter",.str "leave"])=.ok (.bl false)/\Ho (.str "role") (.tup [.str "come",.str "found",.str "enter",.str "leave"])=.ok (.bl false):=⟨rfl,rfl⟩;have l3:∀a b c,yN (.ok [a,b,c])=.ok (.lst [a,b,c]):=fun _ _ _=>rfl;have a3:yQ (.lst [.tup [.str "door",.str "open"],.tup [.str "door",.str "asked"],.tup [.str "voice",.str "all"]]) (.lst [.tup [.str "voice",.str "some"],.tup [.str "past",.str "shown"],.tup [.str "past",.str "hidden"]])=.ok (.lst sets):=rfl;simp only[ev,cY,k4,mx 9929 l.length (by decide) (by decide) h0,mx 9923 l.length (by decide) (by decide) h0,mx 9907 4 (by decide) (by decide) (by decide),mx 9901 ws.length (by decide) (by decide) hm,e3,e4,er,ew,cg,cj];rcases Qb with rfl|rfl|rfl|rfl|rfl|rfl|rfl|rfl|rfl|rfl
 all_goals first
  |exact⟨_,rfl,.OX hw h3⟩
  |exact⟨_,rfl,.one (by simp) hw h3 Ct⟩
  |exact⟨_,rfl,.two (by simp) hw h3 Ct h4⟩
  |skip
 all_goals simp only[ev,cY,sn,String.reduceBEq,bX,ni,mx 9887 6 (by decide) (by decide) (by decide),mx 9883 4 (by decide) (by decide) (by decide),e7,l3,a3,e8,cg,cj]
 all_goals first
  |exact⟨_,rfl,.role hw h3 Ct h4 hrl⟩
  |(rcases cz with rfl|rfl|rfl|rfl|rfl|rfl<;>exact⟨_,rfl,.arr hw h3 Ct (by simp)⟩)
abbrev E9:List (Str×Str):=[("ann","owner"),("bo","guest"),("cy","guest")]
abbrev L9:List (Str×Int):=[("ann",1),("bo",2),("cy",3)]
abbrev L_:List jB:=[("ann",1,1,none),("bo",1,2,none),("cy",1,3,none)]
abbrev L':List Tr:=[.tup [.int 1,.str "ann",.str "found"],.tup [.int 2,.str "bo",.str "enter"],.tup [.int 3,.str "cy",.str "enter"]]
abbrev E_:List (Str×Str):=[("dee","owner")]
abbrev Ma:List (Str×Int):=[("dee",1)]
abbrev Mb:List jB:=[("dee",1,1,none)]
abbrev Mc:List Tr:=[.tup [.int 1,.str "dee",.str "found"]]
abbrev DG:List (Str×Bool):=[("ann",true),("bo",true),("cy",true),("dee",true),("ed",true)]
def D10:Dat:=⟨L',E9,L9,fun z=>(L9.lookup z).getD 0,L_,[],[],[],"open","all","shown",19,20,26⟩
def D20:Dat:=⟨Mc,E_,Ma,fun z=>(Ma.lookup z).getD 0,Mb,[],[],[],"open","all","shown",39,40,42⟩
def B0:Ab:=[.ins "Hall" [("persons",.at 1),("places",.at 2),("hands",.at 3)],.bT [],.bT [],.lst []]
def B1:Ab:=B0++[.bT (dP id [("people",.at 5),("rooms",.at 6)]),.lst (OW.map .str),.bT []]
def A0:Ab:=[.ins "Hall" [("persons",.at 1),("places",.at 2),("hands",.at 3)],.bT (dP .bl DG),.bT (dP .at [("hall",7),("yard",27)]),.lst [],.bT (dP id [("people",.at 5),("rooms",.at 6)]),.lst (OW.map .str),.bT (dP .at [("hall",16),("yard",36)]),
 .ins "Room" (roomF 7),.lst L',.bT (dP .str E9),.bT (dP .int L9),.bT (dP .str (LX "open" "all" "shown")),.bT [],.bT [],.bT [],.bT [],
 .bT (dP id (C_ 16 19 20 26 "open" "all" "shown")),.lst L',.bT (dP .str E9),.lst (L_.map vD),.lst [],.lst [],.lst [],.lst [.str "ann"],.lst [],.lst [.str "ann"],.lst [],
 .ins "Room" (roomF 27),.lst Mc,.bT (dP .str E_),.bT (dP .int Ma),.bT (dP .str (LX "open" "all" "shown")),.bT [],.bT [],.bT [],.bT [],
 .bT (dP id (C_ 36 39 40 42 "open" "all" "shown")),.lst Mc,.bT (dP .str E_),.lst (Mb.map vD),.lst [],.lst [],.lst []]
theorem T7:xR "Hall" nW (.ok [] [])=.ok (.at 0) B0:=by kernel_rfl
theorem OY:zT [.tup [.str "ann",.str "bo",.str "cy",.str "dee",.str "ed"]] B0=.ok (.at 4) B1:=by kernel_rfl
theorem T8:DE [.at 0,.at 4] B1=.ok .cu A0:=by kernel_rfl
theorem rk0(h:(aQ.all fun p=>gy.contains p.2&&(decide (p.1.length<=1000)&&(ents.lookup p.1==some ((ents.lookup p.1).getD 0))))=true)(n:(aQ.map (·.1)).Nodup)(u:(aQ.map fun p=>(ents.lookup p.1).getD 0).Pairwise (· <·)):dG aQ ents fun z=>(ents.lookup z).getD 0:=by
 have q:=fun p hp=>dm.mp h p hp;simp only[bP,hU,eV]at q;exact⟨fun p hp=>eO.mp (q p hp).1,n,fun p hp=>(q p hp).2.1,fun p hp=>(q p hp).2.2,u⟩
theorem rows0(h:(rows.all fun t=>match t with|.tup us=>us.all yG&&decide (us.length<=10)|_=>false)=true):iU rows:=fun t ht=>by
 have q:=dm.mp h t ht;cases t with
 |tup us=>
  have q:(us.all yG&&decide (us.length<=10))=true:=q;rw[bP,hU]at q;exact⟨us,rfl,q⟩
 |_=>cases q
theorem st0:St A0 0:=⟨DG,OW,D10,D20,⟨rfl,rfl,rfl⟩,⟨rfl,rfl,rfl⟩,rfl,by decide,by decide+kernel,
 ⟨⟨rfl,rfl,rfl,rfl,rfl,rfl,rfl⟩,⟨rfl,rfl,rfl,rfl,rfl,rfl,by decide⟩,⟨rows0 rfl,rk0 (by decide+kernel) (by decide+kernel) (by decide+kernel),rfl,by decide+kernel,.inr (by decide+kernel),fun _=>rfl,by decide+kernel,by decide+kernel,by decide+kernel,by decide+kernel⟩,⟨by decide,by decide,by decide,by decide,by decide,by decide,by decide⟩,by decide,by decide⟩,
 ⟨⟨rfl,rfl,rfl,rfl,rfl,rfl,rfl⟩,⟨rfl,rfl,rfl,rfl,rfl,rfl,by decide⟩,⟨rows0 rfl,rk0 (by decide+kernel) (by decide+kernel) (by decide+kernel),rfl,by decide+kernel,.inr (by decide+kernel),fun _=>rfl,by decide+kernel,by decide+kernel,by decide+kernel,by decide+kernel⟩,⟨by decide,by decide,by decide,by decide,by decide,by decide,by decide⟩,by decide,by decide⟩,by unfold rA;decide,by unfold rA;decide,by unfold Apart;decide⟩
theorem IB(h:jF bw rows):mB rows=true:=by cases h<;>rfl
theorem GL{T:n6}{G:bO->Ab->Rz Out}{n:Nat}(I:Nat->bO->Ab->Prop)(h:∀k Y A,k<n->I k Y A->∃qS,T (.int (0+(k:Nat))) Y=.ok qS/\∃g_ A2,G qS A=.ok (.nx g_) A2/\I (k+1) g_ A2):∀(m k:Nat) (Y:bO) (A:Ab),k+m=n->I k Y A->∃g9 A',rN T G ((List.range' k m).map fun k=>Tr.int (0+(k:Nat))) Y A=.ok (.nx g9) A'/\I n g9 A'
 |0,k,Y,A,e,hi=>⟨Y,A,rfl,by rw[<-e];exact hi⟩
 |m+1,k,Y,A,e,hi=>by
  obtain⟨qS,e1,g_,A2,e2,h2⟩:=h k Y A (by omega) hi;obtain⟨g9,A',e3,h3⟩:=GL I h m (k+1) g_ A2 (by omega) h2;refine⟨g9,A',?_,h3⟩;rw[List.range'_succ,bH];simp only[Gz,e1,hJ,cY,e2];exact e3
theorem Md{n:Nat}{T:n6}{G K:bO->Ab->Rz Out}{Nd:bO}{A0:Ab}(I:Nat->bO->Ab->Prop)(h0:I 0 Nd A0)(h:∀k Y A,k<n->I k Y A->∃qS,T (.int (0+(k:Nat))) Y=.ok qS/\∃g_ A2,G qS A=.ok (.nx g_) A2/\I (k+1) g_ A2)(hK:∀Y A,I n Y A->xB (K Y A)=.ok (.bl true)):
  xB (Ej (rN T G ((List.range' 0 n).map fun k=>Tr.int (0+(k:Nat))) Nd A0) K)=.ok (.bl true):=by
 obtain⟨g9,A',e,q⟩:=GL I h n 0 Nd A0 (by omega) h0;rw[show rN T G ((List.range' 0 n).map fun k=>Tr.int (0+(k:Nat))) Nd A0=_ from e];exact hK g9 A' q
theorem OZ(j:Int):FH (.ok [.int j])=if-4611686018427387904<=j/\j<4611686018427387904 then .ok (B_ 0 j.toNat)else .bad:=rfl
theorem Yk:FH (.ok [.int 24])=.ok ((List.range' 0 24).map fun k=>Tr.int (0+(k:Nat))):=by rw[OZ,aS (by decide)];show Rs.ok (B_ 0 24)=_;unfold B_;rw[List.range_eq_range']
theorem St.push {A:Ab}{t:Nat}{o:Ao}(h:St A t):St (A++[o]) (t+1):=by
 obtain⟨bf,bw,D1,D2,s⟩:=h;have hl:=s.pl;have e:∀k∈([]:List Nat),6<k:=fun _ h=>(nomatch h);exact⟨bf,bw,D1,D2,cy.kp s.h (lF.push (S:=[])) e,fR.kp s.m (lF.push (S:=[])) e,s.pp,by omega,s.p6,s.r1.kp (lF.push (S:=[])) fun _ h=>(nomatch h),s.r2.kp (lF.push (S:=[])) fun _ h=>(nomatch h),s.c1,s.c2,s.ap⟩
theorem jF.mono {ws vs:List Str}{ts:List Tr}(h:jF ws ts)(q:∀w∈ws,w∈vs):jF vs ts:=by
 cases h with
 |OX a b=>exact .OX (q _ a) b
 |one a b c d=>exact .one a (q _ b) c d
 |arr a b c d=>exact .arr (q _ a) b c d
 |role a b c d e=>exact .role (q _ a) b c d e
 |two a b c d e=>exact .two a (q _ b) c d e
abbrev ws:List Str:=["role","role","role","role","enter","leave"]
abbrev wr:List Str:=["role","enter","role","role","role","role","enter","leave"]
theorem step{ts:List Tr}(h:St A aM)(hd:jF wr ts)(ht:aM<=1000):∃A',jt [.at 0,.at 4,.tup ts] A=.ok (.bl true) A'/\St A' (aM+1):=by
 cases hd with
 |OX q _=>exact absurd q (by decide+kernel)
 |@one c7 aZ c6 hw q h6 hr=>
  rcases hw with rfl|rfl|rfl
  ·exact absurd q (by decide+kernel)
  ·exact h.go (f:=fun c6=>[.str "enter",.str aZ,.str c6]) (fun P hH hM hi hj hp=>OR P hH hM hi hj hp h6 ht) hr
  ·exact h.go (f:=fun c6=>[.str "leave",.str aZ,.str c6]) (fun P hH hM hi hj hp=>OS P hH hM hi hj hp h6 ht) hr
 |@arr aZ c6 nM val q h6 hr hw=>exact absurd q (by decide+kernel)
 |@role aZ c6 d4 r q h6 hr h7 h4=>exact h.go (f:=fun c6=>[.str "role",.str aZ,.str c6,.str d4,.str r]) (fun P hH hM hi hj hp=>TX P hH hM hi hj hp h6 h7 h4 ht) hr
 |@two c7 aZ c6 d4 hw q h6 hr h7=>
  rcases hw with rfl|rfl|rfl|rfl
  ·exact absurd q (by decide+kernel)
  ·exact absurd q (by decide+kernel)
  ·exact absurd q (by decide+kernel)
  ·exact absurd q (by decide+kernel)
def LI(ns:List Int)(k:Nat)(Y:bO)(A:Ab):Prop:=St A (k+4)/\∃a b c,Y=[.sh (.uZ ns),.sh (.at 0),.sh (.at 4),.sh c,.sh a,.sh (.tup (ws.map .str)),b]
theorem Me(ns:List Int):yt [.uZ ns]=.ok (.bl true):=by
 unfold yt Cp;rw[aS ⟨rfl,rfl⟩];show xB (GH.1 [.sh (.uZ ns),.no,.no,.no,.no,.no,.no] [])=_;unfold GH;have ef:∀A,rW (.ok (.tup [.str "ann",.str "bo",.str "cy",.str "dee",.str "ed"])) A=.ok (.tup [.str "ann",.str "bo",.str "cy",.str "dee",.str "ed"]) A:=fun A=>rfl;have tw:Aq (.ok (ws.map .str))=.ok (.tup (ws.map .str)):=rfl;have eg:∀A,rW (.ok (.tup (ws.map .str))) A=.ok (.tup (ws.map .str)) A:=fun A=>rfl;have nt:∀A,SI (SG (.ok (.bl true) A))=.ok false A:=fun _=>rfl;have l2:∀a b,yN (.ok [a,b])=.ok (.lst [a,b]):=fun _ _=>rfl;have l1:∀a,yN (.ok [a])=.ok (.lst [a]):=fun _=>rfl;simp only[bH,mf]at tw eg;have n2:∀A,uG (.ok (.lst [.tup [.str "role",.str "ann",.str "hall",.str "bo",.str "keeper"],.tup [.str "enter",.str "ed",.str "hall"]])) A=.ok (.at A.length) (A++[.lst [.tup [.str "role",.str "ann",.str "hall",.str "bo",.str "keeper"],.tup [.str "enter",.str "ed",.str "hall"]]]):=fun _=>rfl;have t5:aU 5 (A0++[.lst [.tup [.str "role",.str "ann",.str "hall",.str "bo",.str "keeper"],.tup [.str "enter",.str "ed",.str "hall"]]]) (.at A0.length)=.lst [.tup [.str "role",.str "ann",.str "hall",.str "bo",.str "keeper"],.tup [.str "enter",.str "ed",.str "hall"]]:=by rw[kI ly];rfl
 have al:∀a b c,Gq (.lst [a,b]) (.lst [c])=.ok (.lst [a,b,c]):=fun _ _ _=>rfl;have lw:Ld (.ok (.lst [.tup [.str "role",.str "ann",.str "hall",.str "bo",.str "keeper"],.tup [.str "enter",.str "ed",.str "hall"],.tup [.str "role",.str "bo",.str "hall",.str "cy",.str "speaker"]]))=.ok [.tup [.str "role",.str "ann",.str "hall",.str "bo",.str "keeper"],.tup [.str "enter",.str "ed",.str "hall"],.tup [.str "role",.str "bo",.str "hall",.str "cy",.str "speaker"]]:=rfl;obtain⟨A1,b1,s1⟩:=step (ts:=[.str "role",.str "ann",.str "hall",.str "bo",.str "keeper"]) (st0.push (o:=.lst [.tup [.str "role",.str "ann",.str "hall",.str "bo",.str "keeper"],.tup [.str "enter",.str "ed",.str "hall"]])) (.role (by decide+kernel) (by decide+kernel) (.inl rfl) (by decide+kernel) (by decide+kernel)) (by decide);obtain⟨A2,b2,s2⟩:=step (ts:=[.str "enter",.str "ed",.str "hall"]) s1 (.one (.inr (.inl rfl)) (by decide+kernel) (by decide+kernel) (.inl rfl)) (by decide);obtain⟨A3,b3,s3⟩:=step (ts:=[.str "role",.str "bo",.str "hall",.str "cy",.str "speaker"]) s2 (.role (by decide+kernel) (by decide+kernel) (.inl rfl) (by decide+kernel) (by decide+kernel)) (by decide);simp only[ev,cY,hJ,iz,T7,ef,OY,T8,l1,l2,n2,t5,al,lw,nt,b1,b2,b3,tw,eg,cg,cj,Yk,Gz];refine Md (LI ns) ⟨s3,_,.no,_,rfl⟩ (fun k Y A hk hI=>?_) fun Y A hI=>?_
 ·obtain⟨hs,a,b,c0,rfl⟩:=hI;obtain⟨c,ec⟩:=T2 ns ((0+(k:Nat):Int) % 11) (wH _ (by decide));obtain⟨ts,ed,hd⟩:=T6 (ws:=ws) (by decide+kernel) (by decide) (c+41*(0+(k:Nat))) (aU 5 A (.at 4));obtain⟨A',eb,hs'⟩:=step hs (hd.mono (by decide+kernel)) (by omega);have m1:Hk (.int (0+(k:Nat))) (.int 11)=.ok (.int ((0+(k:Nat):Int) % 11)):=T1 (by decide);have m2:Hl (.int 41) (.int (0+(k:Nat)))=.ok (.int (41*(0+(k:Nat)))):=TZ (.inl ⟨by decide,by decide⟩);have fz:∀A,rW (.ok (.tup ts)) A=.ok (.tup ts) A:=fun A=>aS (IB hd);simp only[bH,mf]at ed⊢;refine⟨_,rfl,[.sh (.uZ ns),.sh (.at 0),.sh (.at 4),.sh c0,.sh (.tup ts),.sh (.tup (ws.map .str)),.sh (.int (0+(k:Nat)))],A',?_,hs',_,_,_,rfl⟩;simp only[ev,cY,hJ,iz,m1,ec,m2,ed,fz,cg,cj,eb,nt]
  rfl
 ·obtain⟨⟨bf,bw,D1,D2,s⟩,a,b,c0,rfl⟩:=hI;simp only[ev,cY,hJ,Yh s (by decide)]
  rfl
def O:UD:=⟨["ValueError","all","bool","dict","int","isinstance","len","list","max","min","range","set","sorted","str","tuple","zip"],["Barred","Hall","Known","NoHand","NoLine","NoPerson","NoRight","NoRoom","NoRow","NotAsked","NotIn","Room","TalkError"],["Hall","Room"],[("Room",["banned","chosen","entries","invited","log","ranks","read_marks","said_by_key"]),("Hall",["hands","persons","places"])],[il],["Known","NoPerson","NoRoom","NotIn","NotAsked","Barred","NoRight","NoRow","NoHand","NoLine"],[.inl "Barred",.inl "Known",.inl "NoHand",.inl "NoLine",.inl "NoPerson",.inl "NoRight",.inl "NoRoom",.inl "NoRow",.inl "NotAsked",.inl "NotIn",.inr "ValueError"],["TalkError"],["Barred","Known","NoPerson","NoRight","NoRoom","NotAsked","NotIn"]⟩
set_option maxHeartbeats 8000000 in
theorem all_mk{l:PySem.W.OpenLaw}{w:World}{K:Frag}{h:Heap}{mg:Str->Option Value}{fa:Addr}(X:K.In h)(G:h.Ns mainGlobals mg)(hfa:mg "law"=some (.ref fa))
  (c1:DS.map (Df.fd K)=DS.map (fun d=>d.re (d.fd K))) (c2:DS.all (Df.P7 K)=true) (c3:O.P7 K=true)
  {yD:Addr} {Mf:Nat} {Mg:Array (Option Value)} {IC ID IE IF:Tok} (GN:PySem.W.nsIn K mainGlobals "ROLES"=some (some (.ref yD))) (GO:K.lookup yD=some ⟨.type "tuple",none,.seq #[.str "guest" IC,.str "speaker" ID,.str "keeper" IE,.str "owner" IF] Mf,Mg⟩)
  {da1:Addr} {dn1:Nat} {aa1 aa2 aa3:Tok} {Yl Ym Yn:Addr} (e1:PySem.W.nsIn K mainGlobals "SETTINGS"=some (some (.ref da1))) (d1:K.lookup da1=some ⟨.type "dict",none,.dict #[⟨PyData.keyHash w.params "door",.str "door" aa1,.ref Yl⟩,⟨PyData.keyHash w.params "voice",.str "voice" aa2,.ref Ym⟩,⟨PyData.keyHash w.params "past",.str "past" aa3,.ref Yn⟩] dn1,#[]⟩) (s1:(da1==sysModules)=false)
  {Yo:Option Addr} {Yp:Nat} {Yq:Array (Option Value)} {T9 T_:Tok} (Yr:K.lookup Yl=some ⟨.type "tuple",Yo,.seq #[.str "open" T9,.str "asked" T_] Yp,Yq⟩)
  {Ys:Option Addr} {Yt:Nat} {Yu:Array (Option Value)} {T' Ua:Tok} (Yv:K.lookup Ym=some ⟨.type "tuple",Ys,.seq #[.str "all" T',.str "some" Ua] Yt,Yu⟩)
  {Yw:Option Addr} {Yx:Array (Option Value)} {Ub Uc:Tok} (Yy:K.lookup Yn=some ⟨.type "tuple",Yw,.seq #[.str "shown" Ub,.str "hidden" Uc] aM,Yx⟩)
  :∃fd:FuncData,(∀(s:Shared) (v:Value),BindsTo s fd ⟨[v],[]⟩ [("_law_script",v)])/\∀base:Heap,K.In base->base.Ns mainGlobals mg->d5 l.prog w K mg base lX 10 fa fd ["_law_script"] (spT K yt):=by
 have o:=O.ok X G c3;have T:P8 K w mg:=⟨fun i d e=>La X G c1 c2 d (dS e),o.bl rfl,o.bl rfl,o.bl rfl,o.bl rfl,o.bl rfl,o.bl rfl,o.bl rfl,o.bl rfl,o.bl rfl,o.bl rfl,o.bl rfl,o.bl rfl,o.bl rfl,o.bl rfl,o.bl rfl,o.bl rfl,o.bn 0 rfl,o.mk_ rfl,o.mk_ rfl,⟨⟨.ref yD,_,W.mg_of X G GN,rfl,fun H=>.tup (vs:=[.str "guest",.str "speaker",.str "keeper",.str "owner"]) (.inr ⟨_,_,_,GO,rfl,rfl,by show 4<=sizeLine;decide,(.cons ⟨_,rfl⟩ (.cons ⟨_,rfl⟩ (.cons ⟨_,rfl⟩ (.cons ⟨_,rfl⟩ .nil))))⟩) (.cons (.str _ (by decide)) (.cons (.str _ (by decide)) (.cons (.str _ (by decide)) (.cons (.str _ (by decide)) .nil))))⟩,⟨_,_,W.mg_of X G GN,GO,rfl,rfl⟩⟩,o.fl (c:="Room") rfl rfl,o.fl (c:="Room") rfl rfl,o.fl (c:="Room") rfl rfl,o.fl (c:="Hall") rfl rfl,o.fl (c:="Room") rfl rfl,o.fl (c:="Room") rfl rfl,o.fl (c:="Hall") rfl rfl,o.fl (c:="Hall") rfl rfl,o.fl (c:="Room") rfl rfl,o.fl (c:="Room") rfl rfl,o.fl (c:="Room") rfl rfl,Ei.gd (bt:=[("door",.tup [.str "open",.str "asked"]),("voice",.tup [.str "all",.str "some"]),("past",.tup [.str "shown",.str "hidden"])]) (.cons (v:=.ref _) rfl (fun H=>.tup (vs:=[.str "open",.str "asked"]) (.inr ⟨_,_,_,Yr,rfl,rfl,by show 2<=sizeLine;decide,(.cons ⟨_,rfl⟩ (.cons ⟨_,rfl⟩ .nil))⟩) (.cons (.str _ (by decide)) (.cons (.str _ (by decide)) .nil))) (.cons (v:=.ref _) rfl (fun H=>.tup (vs:=[.str "all",.str "some"]) (.inr ⟨_,_,_,Yv,rfl,rfl,by show 2<=sizeLine;decide,(.cons ⟨_,rfl⟩ (.cons ⟨_,rfl⟩ .nil))⟩) (.cons (.str _ (by decide)) (.cons (.str _ (by decide)) .nil))) (.cons (v:=.ref _) rfl (fun H=>.tup (vs:=[.str "shown",.str "hidden"]) (.inr ⟨_,_,_,Yy,rfl,rfl,by show 2<=sizeLine;decide,(.cons ⟨_,rfl⟩ (.cons ⟨_,rfl⟩ .nil))⟩) (.cons (.str _ (by decide)) (.cons (.str _ (by decide)) .nil))) .nil))) (W.mg_of X G e1) d1 s1 (show List.Nodup (["door","voice","past"]:List Str) by decide),Ei.gk (bt:=[("door",.tup [.str "open",.str "asked"]),("voice",.tup [.str "all",.str "some"]),("past",.tup [.str "shown",.str "hidden"])]) (.cons (v:=.ref _) rfl (fun H=>.tup (vs:=[.str "open",.str "asked"]) (.inr ⟨_,_,_,Yr,rfl,rfl,by show 2<=sizeLine;decide,(.cons ⟨_,rfl⟩ (.cons ⟨_,rfl⟩ .nil))⟩) (.cons (.str _ (by decide)) (.cons (.str _ (by decide)) .nil))) (.cons (v:=.ref _) rfl (fun H=>.tup (vs:=[.str "all",.str "some"]) (.inr ⟨_,_,_,Yv,rfl,rfl,by show 2<=sizeLine;decide,(.cons ⟨_,rfl⟩ (.cons ⟨_,rfl⟩ .nil))⟩) (.cons (.str _ (by decide)) (.cons (.str _ (by decide)) .nil))) (.cons (v:=.ref _) rfl (fun H=>.tup (vs:=[.str "shown",.str "hidden"]) (.inr ⟨_,_,_,Yy,rfl,rfl,by show 2<=sizeLine;decide,(.cons ⟨_,rfl⟩ (.cons ⟨_,rfl⟩ .nil))⟩) (.cons (.str _ (by decide)) (.cons (.str _ (by decide)) .nil))) .nil))) (W.mg_of X G e1) d1 s1 (show List.Nodup (["door","voice","past"]:List Str) by decide) (show∀z∈(["door","voice","past"]:List Str),z.length<=cS by decide),o.xc 0 rfl,o.xc 1 rfl,o.xc 2 rfl,o.xc 3 rfl,o.xc 4 rfl,o.xc 5 rfl,o.xc 6 rfl,o.xc 7 rfl,o.xc 8 rfl,o.xc 9 rfl,o.xc 10 rfl,o.GC rfl,o.GC rfl,o.GC rfl,o.GC rfl,o.GC rfl,o.GC rfl,o.GC rfl,o.GC rfl,o.GC rfl,o.GC rfl,o.ca rfl rfl,o.er rfl rfl,o.er rfl rfl,o.er rfl rfl,o.er rfl rfl,o.er rfl rfl,o.er rfl rfl,o.er rfl rfl⟩;cases hfa.symm.trans ((T.d 53 rfl:Di.Ok K mg).m0 rfl);obtain⟨oc,od,kV,doc,pm,an,fH,ct,Jm,e9,_,_⟩:=(T.d 53 rfl:Di.Ok K mg).fn.ex;exact⟨_,fun s v=>by rw[e9];exact .of_eq rfl,fun base _ _=>(X8 T).ok⟩
theorem Ud{K:Frag}{H:Hp}{Q:VK}{E:XK}{a:Addr}{ns:List Int}(hS:ll K H a (ns.map V.int))(hQ:∀H',Q (.bl true) H'):spT K yt [.ref a] H Q E:=
 ⟨⟨fun _=>false,fun _=>none⟩,[.uZ ns],fun b e=>(nomatch e),.cons (.uZ hS) .nil,.bl true,Me ns,fun v H' _ r=>by rw[r.xn];exact hQ H'⟩
theorem walk{l:PySem.W.OpenLaw}{q:Program}{XP:(Str->Option Value)->Heap->Prop}{YP:World->Heap->Prop}{d:DefRec}{K:Params->Frag}(hn:l.most=some 63)(UJ:d.params.defaults=[])
  (hY:∀(w:World) (h:Heap),YP w h->(K w.params).In h)
  (F:∀(w:World) (mg:Str->Option Value) (fa:Addr) (h:Heap),(K w.params).In h->h.Ns mainGlobals mg->mg d.name=some (.ref fa)->
   ∃fd:FuncData,(∀(s:Shared) (u:Value),BindsTo s fd ⟨[u],[]⟩ [("_law_script",u)])/\∀base:Heap,(K w.params).In base->base.Ns mainGlobals mg->d5 l.prog w (K w.params) mg base lX 10 fa fd ["_law_script"] (spT (K w.params) yt)):
  PySem.W.WalkO q bw XP YP l.row.toRowW d [] (fun f vs=>PySem.call f vs):=
 L2.M3 (n:=63) (k:=10) (x:="_law_script") (CX:=fun _=>lX) (sp:=fun w=>spT (K w.params) yt) hn (by decide) UJ ⟨rfl,by decide,by decide⟩ hY F (fun _ _ a ns hl _ hS=>Ud hS fun _=>rfl) fun _ _ _ _ _ z=>z
end M09
namespace PySem.W.Fast
def tw10464637156091761104:=0
def tw10515034078024089985:=0
def tw6675453018911643667:=0
def tw9547723325372112924:=0
def tw8116089367906980112:=0
def tw4195480414951660988:=0
def tw8756953267665696525:=0
def tw121251333810957564:=0
def tw6018059094453325237:=0
def tw11123816975804526728:=0
def tw9649372963634934861:=0
def tw16246887694841048436:=0
def tw5262175307353935077:=0
def tw17359297246138811708:=0
def tw3264089759816512381:=0
def tw2943254842417104751:=0
def tw4735320196502602277:=0
def tw3984199747374945026:=0
def tw16892388939692995564:=0
def tw10207168643240059713:=0
def tw10299718123026739485:=0
def tw11842553864911312437:=0
def tw17436122315890859215:=0
def tw11775332780399978771:=0
def tw2288364637561882323:=0
def tw9900563658319208520:=0
def tw12741954776965835925:=0
def tw7297099762554461996:=0
def tw5397142413749256817:=0
def tw12715133603516860689:=0
def tw18083903626914378712:=0
def tw2076211365529914985:=0
def tw890907200447581055:=0
def tw7531262518003265152:=0
def tw10455707313290078044:=0
def tw5907023011812815255:=0
def tw795207819068347744:=0
def tw1242340501441765678:=0
def tw18359649840220746036:=0
def tw3003109089842728282:=0
def tw13183362806296509686:=0
def tw1565185096255016966:=0
def tw12482217533078843758:=0
def tw1871175193854305380:=0
def tw17148751349002705029:=0
def tw4487877979297978551:=0
def tw10072367029951196760:=0
def tw16896104078675830073:=0
def tw6905618832822943270:=0
def tw1807121888983793897:=0
def tw13611660834575341211:=0
def tw9842052180549613272:=0
def tw10598908186204348779:=0
def tw13929120461929054944:=0
def tw2176214113485412619:=0
def tw4438264779871268629:=0
def tw16469775638622324948:=0
def tw8040953532579089751:=0
def tw11953785449455939522:=0
def tw14636424988783404301:=0
def tw5493374268617677336:=0
def tw16679944631732337341:=0
def tw13376222481098605578:=0
def tw1360039573960666269:=0
def tw15022383865784251604:=0
def tw15071238916824520433:=0
def tw15196281409686353236:=0
def tw8835806833323016209:=0
def tw2883347857289706710:=0
def tw15694230978727564347:=0
def tw14312247694444243038:=0
def tw1801121323951053789:=0
def tw8668090564330900233:=0
def tw569152942701146072:=0
def tw13367234997549045301:=0
def tw2007400248385397693:=0
def tw3067431678171973004:=0
def tw6529962061281292964:=0
def tw8658903105526012597:=0
def tw10651862656092769874:=0
def tw8134271959748552428:=0
def tw11632530301520466241:=0
def tw3584798542778741258:=0
def tw5584494935407238611:=0
def tw17493536473341192336:=0
def tw5268637461686867906:=0
def tw11882830722135565390:=0
def tw12329282670685698725:=0
def tw14338236786333662747:=0
def tw7851519431681861247:=0
def tw1328245310928275213:=0
def tw918622848014954849:=0
def tw17848886735167070400:=0
def tw10467163471728243311:=0
def tw12575150061681402519:=0
def tw3478876973431118472:=0
def tw10590560439143453216:=0
def tw2064092926463008069:=0
def tw5794706235771689723:=0
def tw3491055686986638422:=0
def tw15137812271664308456:=0
def tw9496439799349237623:=0
def tw13068537926146479451:=0
def tw11606556217069376949:=0
def tw7073638818968660680:=0
def tw4627645196356023865:=0
def tw15074011640016286797:=0
def tw3598701694642238531:=0
def tw17584140027539251629:=0
def tw3067878902613925390:=0
def tw12264707894825827210:=0
def tw16621741782441293217:=0
def tw16519725633883605057:=0
def tw1224183963579229717:=0
def tw5473320888232479550:=0
def tw18298783569328051641:=0
def tw9152548227296327202:=0
def tw778366611481614360:=0
def tw9562816009207142285:=0
def tw3992765277475242626:=0
def tw1747140569074043441:=0
def tw4783580025110147446:=0
def tw15631276164167341951:=0
def tw996158327876603332:=0
def tw1104049402778648769:=0
def tw12957517466652506314:=0
def tw9494925462300074223:=0
def tw265064851837406602:=0
def tw4975819197545189499:=0
def tw5131213250528144732:=0
def tw15587515209425667978:=0
def tw8310964269311458581:=0
def tw797472077152956912:=0
def tw13593716536346194286:=0
def tw4966424181701854684:=0
def tw6857694836818317926:=0
def tw295174059659823341:=0
def tw14967962253893740144:=0
def tw13996287598278960745:=0
def tw4616458502998947552:=0
def tw8065609931461495051:=0
def tw7801355276214723685:=0
def tw14759198227276672748:=0
def tw8221391057946399298:=0
def tw11837628541494305900:=0
def tw5780047267679352969:=0
def tw527465357759582474:=0
def tw1022763027547294594:=0
def tw17291697783560423362:=0
def tw2006846703832834923:=0
def tw8567274752418850439:=0
def tw1184321792271817796:=0
def tw6600826841025060856:=0
def tw17915278996962466587:=0
def tw16293115488439804529:=0
def tw6675843883093192740:=0
def tw6797514815038714067:=0
def tw4155914063391921583:=0
def tw5276486870002160485:=0
def tw6750909813305723099:=0
def tw8413355215116129117:=0
def tw17637387483755116172:=0
def tw4106232452707691628:=0
def tw11605982256587002788:=0
def tw11186725145325168435:=0
def tw16509812556282626914:=0
def tw9245669837169074298:=0
def tw600765159903846434:=0
def tw6474083165017949403:=0
def tw9406346509663380321:=0
def tw18314346392548766634:=0
def tw7653370881121340536:=0
def tw4709705505641590987:=0
def tw11308480548478090430:=0
def tw11062481919996042316:=0
def tw11782096990494295695:=0
def tw7979730673314071533:=0
def tw11217109383399011614:=0
def tw6534978709090248642:=0
def tw17928177231106131545:=0
def tw15517843106643965266:=0
def tw12351766531702352403:=0
def tw1235863191345896732:=0
def tw8808055421218235037:=0
def tw548218408491346111:=0
def tw8116407407738681362:=0
def tw3915295919978838783:=0
def tw18197147043324878505:=0
def tw1956011762600666924:=0
def tw3569344954501952080:=0
def tw16516004638270933226:=0
def tw3156697458134305322:=0
def tw4407235804566412061:=0
def tw15904326374526810083:=0
def tw15787411504740896642:=0
def tw4961483322091589746:=0
def tw10363223266215552203:=0
def tw11426900168522973119:=0
def tw5426224499515742651:=0
def tw3052878599133144056:=0
def tw17020675991112919211:=0
def tw12937294601889861152:=0
def tw17401925711243722604:=0
def tw13916533981778677793:=0
def tw7673149277689769011:=0
def tw9567699812188537519:=0
def tw7496232485221998626:=0
def tw3179236634568473776:=0
def tw18347342745682327333:=0
def tw12494294358527179010:=0
def tw132595371364774894:=0
def tw10115351983315274645:=0
def tw16883377412360061118:=0
def tw16073000636587212939:=0
def tw9078207480631615033:=0
def tw4708823706407029280:=0
def tw678207255414458698:=0
def tw7955113722810386324:=0
def tw12961395012730481759:=0
def tw10309672586003433554:=0
def tw3544540856365459638:=0
def tw7248527151908226065:=0
def tw17656163320954777542:=0
def tw10098157236683120490:=0
def tw5845345682053766868:=0
def tw6808098374603839150:=0
def tw4196077291338957963:=0
def tw935970839220826997:=0
def tw6569998156635544163:=0
def tw6695411145318412108:=0
def tw17395281686936311061:=0
def tw10135997758759475768:=0
def tw5593057370130704398:=0
def tw7507980780881144991:=0
def tw2020433781318245373:=0
def tw8407925495630099368:=0
def tw5142755994381834731:=0
def tw17823275366114118972:=0
def tw2880479789504787865:=0
def tw14361181732236866593:=0
def tw11594895079507352170:=0
def tw14361422060515735454:=0
def tw6738082759915532830:=0
def tw15796486924489399211:=0
def tw2804413595293737047:=0
def tw10778470923462987127:=0
def tw6429376457152632772:=0
def tw10751062556466516635:=0
def tw18374996790112989436:=0
def tw8740080475305329687:=0
def tw16312121993099437843:=0
def tw7448730433769952269:=0
def tw2597298338014609702:=0
def tw16347899273434564145:=0
def tw1226260843383026086:=0
def tw9195302903382655732:=0
def tw6143334561651974147:=0
def tw646949927854596279:=0
def tw15293838103687012257:=0
def tw14203477064751780146:=0
def tw7449443240722415841:=0
def tw17073434662661126783:=0
def tw9487009972092204914:=0
def tw10642790318599183182:=0
def tw12527353745927007933:=0
def tw3353290029251080480:=0
def tw5275830418333837587:=0
def tw12789306863568558829:=0
def tw15537504883635378780:=0
def tw369458522919761949:=0
def tw16042700659914061164:=0
def tw2152055261694981121:=0
def tw10579947367067507287:=0
def tw3430177969157804203:=0
def tw699969136590548444:=0
def tw5566493201155589824:=0
def tw8245639824217141388:=0
def tw15470074942280333391:=0
def tw8293566463122686822:=0
def tw6225934845135046748:=0
def tw5431434242592678471:=0
def tw1668639268252288030:=0
def tw8528781184886133725:=0
def tw15438347923579066445:=0
def tw10239540699581647862:=0
def tw493961087981956671:=0
def tw10953761826948301219:=0
def tw4609657005401768853:=0
def tw18054732186594988433:=0
def tw17557027843935449448:=0
def tw3686910821258809510:=0
def tw786031366835468267:=0
def tw13162737997946218249:=0
def tw8082043223975731349:=0
def tw14190366958339480635:=0
def tw13796487450350227990:=0
def tw8034926864213352889:=0
def tw14397412598990831709:=0
def tw1071898656611307844:=0
def tw8034659857774790271:=0
def tw5504009927998214348:=0
def tw2310074049090332366:=0
def tw16249523024469620612:=0
def tw9114403106917747392:=0
def tw14799872147637473711:=0
def tw10604483861755096899:=0
def tw1916049391840854452:=0
def tw5658741670791748702:=0
def tw15042517317108439701:=0
def tw8831025827922481959:=0
def tw1470988283926012351:=0
def tw589126460737886144:=0
def tw2592400337950063406:=0
def tw4507932415005652993:=0
def tw591913004096784473:=0
def tw2478823714754419886:=0
def tw358807243732206750:=0
def tw7351436670909783500:=0
def tw8586576027093722348:=0
def tw5351345061087797423:=0
def tw10147381187305469382:=0
def tw5700589074766854893:=0
def tw10157285607056814813:=0
def tw8289294426465005683:=0
def tw10166393098606602075:=0
def tw14624971471324842638:=0
def tw6190016025720367399:=0
def tw3739859379987618995:=0
def tw9684655567042705986:=0
def tw7233925859712222236:=0
def tw10064528169156296333:=0
def tw440188833897091801:=0
def tw12321108912201750788:=0
def tw6857635910556369119:=0
def tw1073321704091699902:=0
def tw8493710912686560758:=0
def tw18338566319944308763:=0
def tw12208965784134390963:=0
def tw17127172086210980001:=0
def tw13083071927146680128:=0
def tw6664318322636503957:=0
def tw3812966052222999560:=0
def tw1574742949569522845:=0
def tw5086333620589584118:=0
def tw79664377439388673:=0
def tw7543067933793444833:=0
def tw3234874894471371340:=0
def tw1591821705063420157:=0
def tw6014135076738632504:=0
def tw1007356557337969974:=0
def tw15202496882154975637:=0
def tw12840347270541571559:=0
def tw10424549173165237758:=0
def tw4844505824530347427:=0
def tw8095381433583156848:=0
def tw7654400144294150974:=0
def tw5389640030345889887:=0
def tw16214597977409186237:=0
def tw15625199144975774090:=0
def tw16300975838725290122:=0
def tw6359663228393735142:=0
def tw9365937871056715720:=0
def tw15122184421483677072:=0
def tw1296215461861146725:=0
def tw2104154987404763998:=0
def tw7185590795370055926:=0
def tw10828289800682623634:=0
def tw4068390998038906197:=0
def tw2587193556757572076:=0
def tw15181050866819796319:=0
def tw9663818122508663981:=0
def tw13998881252666733903:=0
def tw10574465549459909925:=0
def tw4397768745642683126:=0
def tw2691824658822350893:=0
def tw2324371306690558180:=0
def tw2275505446575366978:=0
def tw6853071891360250186:=0
def tw13469450776644739427:=0
def tw13380543481357615559:=0
def tw7498921074180795830:=0
def tw15648534702965397994:=0
def tw14623797538127017481:=0
def tw9773065775651882736:=0
def tw6558953097517528551:=0
def tw13165075177921097796:=0
def tw3640050129516141934:=0
def tw17052489404442259608:=0
def tw16147110132282666383:=0
def tw15673222802481312903:=0
def tw14554743630321596901:=0
def tw8327641484614372028:=0
def tw478794376540296934:=0
def tw10330256999476769187:=0
def tw7507503830811439818:=0
def tw574474666685660877:=0
def tw6189314791500273447:=0
def tw17235617488855993526:=0
def tw7517210500611938605:=0
def tw15360149742229540933:=0
def tw12493254430694926664:=0
def tw11882901977420271436:=0
def tw1203257618847889292:=0
def tw10770888473986722225:=0
def tw370735582076023036:=0
def tw18059619950915154876:=0
def tw18302147097318334498:=0
def tw12871382217401649647:=0
def tw3130854370029054689:=0
def tw7509507547394245789:=0
def tw929908068149242626:=0
def tw15869790143604354716:=0
def tw15405886209095817366:=0
def tw4274046507546170202:=0
def tw10211844138726326069:=0
def tw5321104548894652618:=0
def tw313696832324715052:=0
def tw13722901677078839065:=0
def tw14054043988299479727:=0
def tw13470715548036748458:=0
def tw18094627236865630275:=0
def tw5274005316583969613:=0
def tw996847768483589714:=0
def tw6557941041957509658:=0
def tw13177746325913733690:=0
def tw6534566868997848964:=0
def tw5161719759872984282:=0
def tw7277816507184703472:=0
def tw18306804460410523956:=0
def tw7463983763934942392:=0
def tw9510536014857245656:=0
def tw12059368723715918297:=0
def tw6779097109857763503:=0
def tw16279458574254628642:=0
def tw11603738465907131597:=0
def tw11289566779660958552:=0
def tw1874259470340246322:=0
def tw10928364189309566924:=0
def tw2042818503056379255:=0
def tw12587991237030368112:=0
def tw9414227737205331994:=0
def tw18248753640286711922:=0
def tw1360209748830515454:=0
def tw5740529405351067337:=0
def tw1275715305709044354:=0
def tw8328040385931950516:=0
def tw16161396928428059990:=0
def tw965141371325927834:=0
def tw18044894532854456387:=0
def tw11082195185310126430:=0
def tw18270168641790402022:=0
def tw1551375814971085548:=0
def tw5170954130197972286:=0
def tw12409404440852176656:=0
def tw2581715682535139031:=0
def tw15409440446428868743:=0
def tw10689268693462672133:=0
def tw11294725137829583603:=0
def tw17776519145464658786:=0
def tw5409906571601238987:=0
def tw8364889337501776469:=0
def tw15619328972022497163:=0
def tw11108778475055832880:=0
def tw2856770856791446516:=0
def tw12954451159559739825:=0
def tw17114872575466489871:=0
def tw6782836455878016536:=0
def tw14681983441617875227:=0
def tw9724165668183344542:=0
def tw18089311787551991326:=0
def tw4303047924072155892:=0
def tw7367891594980431044:=0
def tw2877107461767114873:=0
def tw8975439630148021766:=0
def tw16973218077512191896:=0
def tw3834483506514287756:=0
def tw16893878655988562595:=0
def tw10672887164051668547:=0
def tw8475546986387792562:=0
def tw1502370929976425826:=0
def tw10763304651276960961:=0
def tw16932189247845818195:=0
def tw7330695524189700234:=0
def tw2390746144480477962:=0
def tw7692634926560906699:=0
def tw5209357880855414480:=0
def tw9948473951360869377:=0
def tw17889134904802408092:=0
def tw12802653428910561858:=0
def tw1614190933097245071:=0
def tw523345717100954711:=0
def tw18140620283387717913:=0
def tw10264345312707736024:=0
def tw9607238152195601055:=0
def tw4685982493477851549:=0
def tw3704808480444187603:=0
def tw11687351866411658181:=0
def tw12462560226773346984:=0
def tw3481394790539266176:=0
def tw3148305037842265652:=0
def tw7744460629128462145:=0
def tw10872954628879073987:=0
def tw8981640369666485473:=0
def tw16189341186038025543:=0
def tw1982439657936456713:=0
def tw12956840978018324163:=0
def tw2493459236858988034:=0
def tw2365200294793198649:=0
def tw11991234626043629790:=0
def tw3236074925241589700:=0
def tw12434600230523038230:=0
def tw4584395729361050878:=0
def tw5407848978831977052:=0
def tw13947928308039705276:=0
def tw17185835381314516809:=0
def tw4770354712906110619:=0
def tw17321664711707702450:=0
def tw380573441170007075:=0
def tw5643837322708268146:=0
def tw3243787522536476910:=0
def tw14626099331111709666:=0
def tw13277997414074006449:=0
def tw4720513921851269100:=0
def tw1517316653065992081:=0
def tw15328880540524321227:=0
def tw8813283144785544158:=0
def tw4812728066023370798:=0
def tw13351892093725616675:=0
def tw390093388612424822:=0
def tw4299705971990894705:=0
def tw10660205261388094761:=0
def tw10409252633894128738:=0
def tw7255267412438232928:=0
def tw10628912063982287607:=0
def tw3146919784633237530:=0
def tw1623708891650287874:=0
def tw6857076685221639168:=0
def tw11807254328221652016:=0
def tw11310319727184833954:=0
def tw7415707529208249507:=0
def tw4127702092844387840:=0
def tw10986135080726105659:=0
def tw2828321330934193515:=0
def tw10850712050781368977:=0
def tw17669392288993161400:=0
def tw793991771758870631:=0
def tw18374007615250893001:=0
def tw4054105418601424082:=0
def tw7665075450714148121:=0
def tw11863705151274763269:=0
def tw7238871183374216874:=0
def tw16135813486797251322:=0
def tw15760507848303443512:=0
def tw8134350168939075514:=0
def tw3778928601424340673:=0
def tw4936735270099766965:=0
def tw14704634485213246407:=0
def tw18348407628836058562:=0
def tw6537443908808882127:=0
def tw7963320064516480056:=0
def tw5947839899325765149:=0
def tw4947127195401705312:=0
def tw11851988987667440204:=0
def tw17094214472518740264:=0
def tw3710696948691100588:=0
def tw16686338611916477998:=0
def tw6398122902317476070:=0
def tw12047192035199421883:=0
def tw3678836251361116064:=0
def tw16914736313684604739:=0
def tw1979823121703332899:=0
def tw937396873712093163:=0
def tw8184484859818161863:=0
def tw12063445482426113381:=0
def tw14208076067368660610:=0
def tw10757734217729798191:=0
def tw11835788586162560094:=0
def tw13943505199788453529:=0
def tw10826741009242127426:=0
def tw18232928834133500067:=0
def tw13430090829301213255:=0
def tw5365838324833800469:=0
def tw18262636250543044339:=0
def tw13573334800846355392:=0
def tw6851552250542841539:=0
def tw6296051147190115924:=0
def tw14229196266678852792:=0
def tw8477654651260491719:=0
def tw14176131527977775099:=0
def tw9210355549802370437:=0
def tw17437544004288871652:=0
def tw13570739168134628973:=0
def tw2541816673767620492:=0
def tw6760279196664780588:=0
def tw818052998758227798:=0
def tw7772074283486715635:=0
def tw16093022648923231764:=0
def tw6516966262500735783:=0
def tw10239342070129068576:=0
def tw15616376685297304573:=0
def tw2565531039030269193:=0
def tw4768608786290557563:=0
def tw6695318345727632586:=0
def tw12369513534212635259:=0
def tw8263182613980823561:=0
def tw11530433053080257196:=0
def tw1399056839870781374:=0
def tw8608391098487730685:=0
def tw13016964558980980522:=0
def tw2347535631814042853:=0
def tw11895495161297062694:=0
def tw12714002937189936384:=0
def tw17254742670441462802:=0
def tw2704442675254969828:=0
def tw4041487167488423162:=0
def tw16485455462638581374:=0
def tw13154575001435945042:=0
def tw10890433413558836501:=0
def tw15432633713326088972:=0
def tw4847879476972283329:=0
end PySem.W.Fast
open PySem PySem.W PyProof.Rows
set_option maxRecDepth 100000 in
set_option maxHeartbeats 0 in
theorem PySem.Challenge.cw_talkhall_k09_roles_holds : PySem.Challenge.rw_talkhall_k09_roles.Holds := by
 w_on;o_law;k_head;(case hw=>w_witness2)
 k_fill
 refine M09.walk (l:=PySem.Challenge.rw_talkhall_k09_roles) rfl rfl (fun w h ρ=>PySem.W.kIn_of ρ) ?F
 case F=>
  intro w mg fa h KX G UK
  refine' M09.all_mk KX G UK ?_ ?_ ?_ ?_ ?_ ?_ ?_ ?_ ?_ ?_ ?_
  all_goals first|k_is|kernel_rfl|skip
