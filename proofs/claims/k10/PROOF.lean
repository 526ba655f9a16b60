import PyProof.Rows.All
import Wide.All
import OpenK.AllK
import Wide.FinOn
import Lean
import PyProof.EqAt
import PyProof.EqKinds
import PyProof.TupleCall
import PyProof.ExcArgsOwn
import PyProof.AttrMissSeq
import KE.KMinKey
import KE.KBoundM
import KE.KSortTup
import KE.KItemsList
import PyProof.SeqI3
import PySem.Challenge.RW_talkhall_k10_put_out_and_barred
set_option Elab.async false
set_option linter.all false
set_option maxRecDepth 100000
set_option bootstrap.genMatcherCode false
set_option genSizeOf false
set_option genInjectivity false
set_option compiler.extract_closed false
noncomputable section
set_option maxHeartbeats 4000000
def aU:=@PySem.wpAny_bind
def bu:=@List.length_map
def bZ:=@List.getElem?_eq_getElem
def bS:=@PySem.Heap.get?_push_of_some
def bg:=@PySem.wpAny_pure
def cw:=@List.mem_cons_of_mem
def bH:=@List.mem_cons
def cq:=@List.getElem?_map
def bA:=@Nat.le_refl
def cF:=@List.set_cons_succ
def b_:=@List.set_cons_zero
def bB:=@List.map_cons
def bU:=@beq_self_eq_true
def bz:=@PySem.Heap.lt_size
def cz:=@PySem.Heap.get?_push_size
def bY:=@Bool.and_eq_true
def aY:=@if_pos
def cG:=@List.mem_cons_self
def cH:=@Bool.false_eq_true
def cM:=@List.not_mem_nil
def bc:=@if_neg
def cf:=@Nat.ne_of_lt
def cU:=@List.size_toArray
def cQ:=@List.lookup_cons
def dc:=@Nat.lt_of_lt_of_le
def de:=@List.mem_singleton
def eQ:=@List.getD_eq_getElem?_getD
def dD:=@List.mem_append_right
def cB:=@Nat.le_trans
def cC:=@List.mem_map
def dq:=@Option.map_some
def d8:=@List.mem_of_getElem?
def cO:=@List.map_map
def dA:=@List.length_cons
def eY:=@List.contains_iff_mem
def dE:=@List.all_eq_true
def dg:=@Bool.not_true
def gD:=@List.getElem?_eq_some_iff
def dF:=@List.mem_append
def eR:=@of_decide_eq_true
def cg:=@if_false
def du:=@Nat.le_of_lt
def fm:=@List.length_append
def fI:=@Bool.false_ne_true
def f_:=@List.map_congr_left
def f':=@List.mem_map_of_mem
def d9:=@Bool.not_false
def cj:=@if_true
def jq:=@List.getElem?_eq_none_iff
def gE:=@Array.length_toList
def dN:=@Nat.ne_of_gt
def fo:=@decide_eq_false
def cN:=@or_false
def g_:=@PySem.Around.under_plainId
def fq:=@PySem.W.kia_one
def fJ:=@List.mem_filter
def eZ:=@Nat.lt_irrefl
def cV:=@congrArg
def ke:=@List.filter_cons_of_neg
def dW:=@PySem.sizeLine_eq
def gb:=@PySem.codeAny_builtin
def d_:=@Nat.zero_le
def gF:=@List.nodup_cons
def jr:=@beq_eq_false_iff_ne
def iK:=@decide_eq_true_eq
def fK:=@PySem.wpAny_holding
def hJ:=@PySem.wpAny_call_entry
def lN:=@List.filter_cons_of_pos
def kg:=@List.mem_append_left
def ee:=@PySem.wpAny_mono
def js:=@PySem.wpAny_setField_rec
def hU:=@decide_eq_true
def iL:=@List.map_append
def kh:=@Option.isSome_some
def lO:=@PySem.W.hideAll_none
def nM:=@PySem.F.slot_list_append
def hV:=@PySem.wpAny_seqItems
def fu:=@beq_iff_eq
def ki:=@Option.isSome_map
def nN:=@PySem.F.plain_min_loop
def lP:=@PySem.mem_of_lookup
def hW:=@PySem.plainId_quiet
def nO:=@PySem.Calls.callWith_builtin
def nP:=@PySem.Heap.get?_update_other
def nQ:=@Array.getElem?_toList
def lQ:=@List.mem_filterMap
def iM:=@Bool.false_or
def iN:=@List.all_cons
def qS:=@PySem.F.type_list_append
def qT:=@PySem.F.plainAttrs_dict
def lR:=@Nat.lt_succ_of_lt
def lS:=@Int.toNat_natCast
def kj:=@List.append_nil
def kl:=@List.find?_cons
def km:=@beq_false_of_ne
def nR:=@PySem.Calls.evalArgs_plain
def nT:=@List.replicate_succ
def gG:=@PySem.wpAny_field
def jt:=@List.any_cons
def qU:=@PySem.wpAny_callSpecial?_slot
def mI:=@List.length_filter_le
def mJ:=@PySem.F.slot_dict_get
def o7:=@List.getElem?_append_left
def o8:=@List.drop_eq_getElem_cons
def mK:=@List.getElem?_set_ne
def kN:=@PySem.Calls.spliced_cons
def mL:=@PySem.W.hideAll_get
def mM:=@List.filter_eq_self
def kO:=@PySem.wpAny_newObj_type
def kP:=@PySem.wpAny_pyIter_list
def o9:=@PySem.Str.length_append
def kQ:=@PySem.wpAny_setState_of
def kR:=@List.getElem_mem
def o_:=@decide_eq_false_iff_not
def fP:=@PySem.wpAny_rule
def mO:=@PySem.W.of_hideAll
def pb:=@List.getElem?_set_self
def pd:=@PySem.W.funFrames_hide
def jE:=@PySem.Heap.size_push
def kS:=@List.length_set
def mP:=@List.flatten_cons
def mQ:=@List.getElem?_set
def iO:=@PySem.codeAny_mono
def mR:=@PySem.wpAny_Call_Name_kw
def mS:=@PySem.tupleKind_room_in1
def mT:=@Nat.succ_ne_self
def mU:=@Nat.le_add_right
def pf:=@List.filterMap_cons
def ph:=@PySem.W.plainGet_of
def kT:=@Bool.or_false
def sX:=@PySem.F.slot_tuple_iterator_next
def kU:=@PySem.wpAny_tryCatch
def jF:=@PySem.call_meetsIn
def jG:=@PySem.F.called_set
def sY:=@List.getElem?_replicate
def sZ:=@PySem.F.plainAttrs_list
def jH:=@List.map_id
def s_:=@PySem.F.plain_list_iadd
def pj:=@PySem.Heap.SameBut.update
def tm:=@PySem.F.entry_dict_get
def pq:=@List.ext_getElem?
noncomputable def pv:=@Bool.not_eq_true'
def mV:=@PySem.wpAny_ite_split
def tq:=@PySem.F.slot_dict_pop
def pw:=@Nat.lt_succ_self
def px:=@List.filter_cons
def pz:=@Option.getD_some
def pA:=@List.drop_length
def pB:=@PySem.wpAny_truthy_bool
def pC:=@PySem.Calls.spliced_nil
def tB:=@Array.toArray_toList
def tD:=@Bool.or_eq_false_iff
def pD:=@List.forIn_cons
def pE:=@List.filter_map
def tH:=@PySem.Heap.get?_update_self
def tK:=@List.length_pos_iff
def xg:=@PyProof.Rows.callWith_type1
def mW:=@List.map_nil
def pF:=@PySem.wpAny_isInstance
def xh:=@List.getElem?_append_right
def tL:=@Option.isSome_none
def pG:=@PySem.wpAny_passesOwn
def pH:=@PySem.PassesOwn.never
def pI:=@PySem.wpAny_updateSeq
def tM:=@PySem.W.kitx_dict
def xi:=@PyProof.Rows.slot_tuple_getitem
def tN:=@bne_self_eq_false
def tR:=@List.length_range
def tT:=@List.filter_congr
def xj:=@Option.isSome_iff_exists
def xk:=@PySem.F.slot_tuple_index
def pJ:=@Bool.true_and
def xl:=@PySem.Calls.Name_function_global
def kW:=@PySem.call_meets
def pK:=@Bool.or_true
def pL:=@List.all_map
def xm:=@Nat.le_of_succ_le_succ
def xn:=@PySem.F.entry_min_loop
def tU:=@List.of_mem_zip
def tV:=@PySem.wpAny_Call_method
def tW:=@PySem.W.kia_tup
def tX:=@Bool.eq_iff_iff
def mX:=@PySem.wpAny_letGo
def tY:=@Option.map_none
def xo:=@List.length_replicate
def pM:=@PySem.wpAny_newList
def xp:=@PySem.F.slot_list_getattribute
def t7:=@List.mem_range
def pN:=@Nat.le_succ
def t8:=@PySem.wpAny_execs_nil
def t9:=@PySem.F.slot_zip_next
def xq:=@PySem.W.callWith_K
def xr:=@Nat.lt_of_le_of_lt
def xt:=@PySem.builtinLookup_eq_fast
def xu:=@PySem.F.typeOf_object_class
def xw:=@Option.isNone_some
def CD:=@List.findIdx?_eq_some_iff_getElem
def t_:=@PySem.W.looks_findIn
def xx:=@PySem.W.kitx_list
def xy:=@List.append_assoc
def xA:=@List.nodup_append
def xB:=@PySem.codeAny_call_builtin
def mY:=@PySem.W.Looks.ld
def xC:=@Nat.le_of_lt_succ
def xD:=@PyProof.Rows.F.plain_set_update_loop
def xE:=@decide_eq_decide
def xF:=@List.any_eq_true
def ua:=@PySem.wpAny_attempt
def pO:=@PySem.wpAny_load
def pP:=@PySem.wpAny_call
def xG:=@List.length_nil
def xH:=@Nat.not_lt_zero
def xI:=@List.filter_nil
def xJ:=@Int.emod_nonneg
def CF:=@PySem.F.plain_proto_collect
def xK:=@Bool.false_and
def xM:=@Bool.and_false
def xN:=@PySem.PassesOwn.leaving
def CG:=@List.length_eraseIdx_of_lt
def xO:=@PySem.fits_of_scanBound
def kX:=@not_or
def xQ:=@List.nodup_nil
def ub:=@PySem.wpAny_typeOf
def xR:=@List.forIn_nil
def CH:=@PySem.F.excBase_ValueError
namespace HT
open PySem PyProof.Rows
section
open PySem.SeqAt
open PySem.AutoSeq1 (wpAny_loadPart')
open PySem.MeetsSeq PySem.MeetsSeq2 PySem.MeetsSeq3
end
section
variable {prog:Program}{w:World}{A:Around}{E:Value->Shared->Prop}{s:Shared}
theorem Nr{t b:Addr}{vs ws:List Value}{Q:Value->Shared->Prop}(ht:IsTup s.heap t vs.toArray)(hb:IsTup s.heap b ws.toArray)(q:vs≠[])
  (h1:ws=[]->Q (.ref t) s) (h2:ws≠[]->Q (.ref s.heap.objs.size) {s with heap:=s.heap.push {cls:=.type "tuple",data:=.seq (vs++ws).toArray}})
  (hsz:vs.length+ws.length<=sizeLine):wpAny (model prog w) A (binaryOp .Add (.ref t) (.ref b)) Q E s:=by
 obtain⟨⟨cls,dd,data,sl⟩,l,I,n,hd⟩:=id ht;obtain⟨⟨abQ,L,data2,M⟩,r,g,S,hd2⟩:=id hb;simp only at I hd g hd2;subst I hd g hd2;have e:vs.toArray++ws.toArray=(vs++ws).toArray:=by simp
 by_cases hw:ws=[]
 ·exact concat_meets ⟨_,l,rfl⟩ ⟨_,r,rfl⟩ noFill_tuple_add seq_tuple_add PySem.F.slot_tuple_add PySem.F.entry_tuple_add (PySem.F.args_tuple_add_2 _ _)
   (tuple_addW1 t b vs.toArray ws.toArray n S dd L sl M (by simpa using q) (by simp[hw])) ⟨l,r,h1 hw⟩
 ·refine concat_meets ⟨_,l,rfl⟩ ⟨_,r,rfl⟩ noFill_tuple_add seq_tuple_add PySem.F.slot_tuple_add PySem.F.entry_tuple_add (PySem.F.args_tuple_add_2 _ _)
   (tuple_addW2 t b vs.toArray ws.toArray n S dd L sl M (by simpa using q) (by simpa using hw) (by rw[List.size_toArray,List.size_toArray];exact hsz)) ⟨l,r,?_⟩
  rw[e];exact h2 hw
noncomputable def iF(n d:Nat):Option Int->Nat
 |none=>d
 |some v=>if v<0 then(v+(n:Int)).toNat else min v.toNat n
def Rp(n d:Nat)(hd:d<=n)(o:Option Int):iF n d o<=n:=by
 cases o with
 |none=>exact hd
 |some v=>
  show(if v<0 then(v+(n:Int)).toNat else min v.toNat n)<=n;by_cases b:v<0
  ·rw[if_pos b];omega
  ·rw[if_neg b];exact Nat.min_le_right _ _
def AW(v:Int)(n d:Nat):(if v<0 then max (v+(n:Int)) 0 else min v (n:Int))=((iF n d (some v):Nat):Int):=by
 show(if v<0 then max (v+(n:Int)) 0 else min v (n:Int))=(((if v<0 then(v+(n:Int)).toNat else min v.toNat n):Nat):Int);by_cases b:v<0
 ·simp only[if_pos b];omega
 ·simp only[if_neg b];omega
def EJ(lo hi:Option Int)(n:Nat):Builtin.Slice.sliceAdjust lo hi 1 (n:Int)=(((iF n 0 lo:Nat):Int),((iF n n hi:Nat):Int)):=by
 have b:¬((1:Int)<0):=by omega
 unfold Builtin.Slice.sliceAdjust;simp only[b,if_false];refine Prod.ext ?_ ?_
 ·cases lo with
  |none=>rfl
  |some v=>exact AW v n 0
 ·cases hi with
  |none=>rfl
  |some v=>exact AW v n n
def EK(i j:Nat):Builtin.Slice.slicePlaces (i:Int) (j:Int) 1=j - i:=by
 unfold Builtin.Slice.slicePlaces;have b:(1:Int)>0:=by omega
 simp only[b,if_true,Int.ediv_one];split<;>omega
def xT{v:Value}{o:Option Int}{Q:Option Int->Shared->Prop}(p:IsPart v o)(h:Q o s):wpAny (model prog w) A (Builtin.Slice.slicePartIndex v) Q E s:=by
 cases p with
 |none=>exact slicePart_none h
 |int i t=>exact slicePart_int h
theorem mZ{sl:Addr}{q vu:Value}{lo hi:Option Int}{n:Nat}{Q:Int×Int×Nat->Shared->Prop}(hs:s.heap.IsSliceOf sl q vu .none)(pl:IsPart q lo)(pu:IsPart vu hi)
  (h:Q (((iF n 0 lo:Nat):Int),1,iF n n hi - iF n 0 lo) s):wpAny (model prog w) A (Builtin.Slice.sliceApplied (.ref sl) (pure (n:Int))) Q E s:=by
 obtain⟨os,b,l,g⟩:=id hs;unfold Builtin.Slice.sliceApplied Builtin.Slice.sliceFields;refine wpAny_bind (wpAny_bind (wpAny_field b g (x:=q) rfl (wpAny_bind (wpAny_field b g (x:=vu) rfl (wpAny_bind (wpAny_field b g (x:=.none) rfl (wpAny_pure ?_)))))));refine wpAny_bind (slicePart_none ?_);show wpAny _ _ (if((1:Int)==0)=true then _ else _) _ _ s;rw[if_neg (by decide)];refine wpAny_bind (xT pl (wpAny_bind (xT pu (wpAny_bind (wpAny_pure ?_)))));show wpAny _ _ (match Builtin.Slice.sliceAdjust lo hi 1 (n:Int)with|(lo,hi)=>pure (lo,(1:Int),Builtin.Slice.slicePlaces lo hi 1)) _ _ s;rw[EJ lo hi n];show wpAny _ _ (pure (((iF n 0 lo:Nat):Int),(1:Int),Builtin.Slice.slicePlaces ((iF n 0 lo:Nat):Int) ((iF n n hi:Nat):Int) 1)) _ _ s;rw[EK];exact wpAny_pure h
def J4(xs:Array Value)(i k:Nat):((List.range k).filterMap λ(m:Nat)=>xs[((i:Int)+(m:Int)*1).toNat]?).toArray=((xs.toList.drop i).take k).toArray:=by
 have e:(λ(m:Nat)=>xs[((i:Int)+(m:Int)*1).toNat]?)=λm=>xs[i+m]? :=by
  funext m;have:((i:Int)+(m:Int)*1).toNat=i+m:=by omega
  rw[this]
 rw[e];have:=pick_run xs i k;rw[List.filterMap_map]at this;have b:((λx=>xs[x]?)∘λx=>i+x)=λm=>xs[i+m]? :=rfl
 rw[b]at this;rw[this]
theorem uc{t sl:Addr}{a8:Array Value}{vl vu:Value}{lo hi:Option Int}{Q:Value->Shared->Prop}(ht:IsTup s.heap t a8)(hs:s.heap.IsSliceOf sl vl vu .none)(pl:IsPart vl lo)(pu:IsPart vu hi)
  (hw:¬(iF a8.size 0 lo=0/\iF a8.size a8.size hi=a8.size))
  (h:Q (.ref s.heap.objs.size) {s with heap:=s.heap.push {cls:=.type "tuple",data:=.seq ((a8.toList.drop (iF a8.size 0 lo)).take (iF a8.size a8.size hi - iF a8.size 0 lo)).toArray}})
  (hsz:a8.size<=sizeLine):wpAny (model prog w) A (getItem (.ref t) (.ref sl)) Q E s:=by
 have b:sizeOk (.seq ((a8.toList.drop (iF a8.size 0 lo)).take (iF a8.size a8.size hi - iF a8.size 0 lo)).toArray):=by
  show((a8.toList.drop (iF a8.size 0 lo)).take (iF a8.size a8.size hi - iF a8.size 0 lo)).toArray.size<=sizeLine;rw[List.size_toArray,List.length_take,List.length_drop,Array.length_toList];omega
 have I:iF a8.size a8.size hi<=a8.size:=Rp _ _ (Nat.le_refl _) hi;obtain⟨os,l,n,L⟩:=id hs;have g:s.TypeIs (.ref sl) "slice":=⟨os,l,n⟩;unfold getItem
 try with_reducible refine wpAny_holding ?_
 first|refine wpAny_bind (wpAny_pure ?_)|skip
 refine wpAny_bind (wpAny_sequenceKey ht.typeIs (by decide) ?_);refine wpAny_bind (wpAny_callSpecial?_slot (name:=Str.ofString "__getitem__") ht.typeIs PyProof.Rows.slot_tuple_getitem
  (wpAny_call_entry PyProof.Rows.slot_tuple_getitem ht.typeIs entry_tuple_getitem ?_ (args_tuple_getitem _ _)))
 show wpAny _ _ (Builtin.Tuple.tupleItemsOf (.ref t)>>=_) _ _ s;refine wpAny_bind (tupleItemsOf_ ht ?_);refine wpAny_bind (wpAny_typeOf g ?_);rw[if_pos (by decide)];refine wpAny_bind (mZ hs pl pu ?_);have r:¬((((iF a8.size 0 lo:Nat):Int)==0&&(1:Int)==1&&(iF a8.size a8.size hi - iF a8.size 0 lo)==a8.size)=true):=by
  intro q;rw[Bool.and_eq_true,Bool.and_eq_true]at q;have M:((iF a8.size 0 lo:Nat):Int)=0:=eq_of_beq q.1.1;have S:iF a8.size a8.size hi - iF a8.size 0 lo=a8.size:=eq_of_beq q.2;exact hw ⟨by omega,by omega⟩
 show wpAny _ _ (if(((iF a8.size 0 lo:Nat):Int)==0&&(1:Int)==1&&(iF a8.size a8.size hi - iF a8.size 0 lo)==a8.size)=true then _ else _) _ _ s;rw[if_neg r,J4]
 first
  |exact wpAny_bind (m:=Builtin.Tuple.tupleExact _) (wpAny_newObj_type (wpAny_pure ⟨_,rfl,wpAny_pure h⟩) b)
  |exact wpAny_bind (m:=Builtin.Tuple.tupleExact _) (wpAny_newObj_type (wpAny_bind (wpAny_pure (wpAny_pure ⟨_,rfl,wpAny_pure h⟩))) b)
  |exact wpAny_bind (wpAny_bind (m:=Builtin.Tuple.tupleExact _) (wpAny_newObj_type (wpAny_pure (wpAny_pure ⟨_,rfl,wpAny_pure h⟩)) b))
  |exact wpAny_bind (wpAny_bind (m:=Builtin.Tuple.tupleExact _) (wpAny_newObj_type (wpAny_pure ⟨_,rfl,wpAny_pure h⟩) b))
end
end HT
namespace Att
open PySem PySem.W PySem.Calls PyProof.Rows
def wt{P:Params}{h:Heap}:∀(ns:List Int) (vs:List Value),WellAll P h vs (ns.map WData.int)->IntsAre vs ns:=by
 intro ns
 induction ns with
 |nil=>
  intro vs w;rw[List.map_nil]at w;cases w;exact .nil
 |cons n ns g=>
  intro vs w;rw[List.map_cons]at w;cases w with
  |cons a b=>
   cases a;exact .cons _ _ (g _ b)
theorem HX{l:OpenLaw}{n:Nat}(hn:l.most=some n){P:Params}{h:Heap}{args:List WData}{vals:List Value}
  (Nt:l.row.toRowW.claim.pre args=true) (VA:WellAll P h vals args):
  ∃a vs ns,vals=[Value.ref a]/\args=[WData.list (ns.map WData.int)]/\h.get? a=some {cls:=.type "list",data:=.seq vs.toArray}/\IntsAre vs ns/\ns.length<=n:=by
 have I:WShape.hasAll [] args [.list .int]=true:=(pre_splitW Nt).1;have L:l.pre.holds [] {args:=args}=true:=(pre_splitW Nt).2;obtain⟨d,r,rfl,h1,h2⟩:=hasAllW_cons I;obtain rfl:=hasAllW_nil h2;obtain⟨xs,rfl,M⟩:=hasW_list h1;obtain⟨ns,rfl⟩:=items_int M;have S:ns.length<=n:=by
  unfold OpenLaw.pre at L;have b:(WTm.not (.lt (.lit (.int (n:Int))) (.len (.arg 0)))).holds [] {args:=[.list (ns.map .int)]}=true:=by
   have b:=(holds_andW L).1;rw[hn]at b;exact b
  have g:=condW_of b (w_not (w_lt w_lit (w_len_list (w_arg rfl))));rw[List.length_map]at g;refine Nat.le_of_not_lt λq=>?_
  have q':(n:Int)<((ns.length:Nat):Int):=by omega
  first
   |(rw[decide_eq_true q']at g;exact absurd g (by decide))
   |(simp at g;omega)
 cases VA with
 |cons w1 w2=>
  cases w2;cases w1 with
  |list ho vf=>exact⟨_,_,ns,rfl,rfl,ho,wt ns _ vf,S⟩
theorem HY(l:OpenLaw)(args:List WData):l.row.toRowW.claim.post args (.bool true) args=true:=
 postW_of (r:=l.row.toRowW) (X:=(true==true))
  (show WShape.has [] (.bool true) .bool=true by first|rfl|decide|simp[WShape.has,WShape.arms,WShape.armsAll])
  (show(WTm.eq .res (.lit (.bool true))).value [] {args:=args,res:=some (.bool true),after:=args}=some (.bool (true==true))from w_eq_bool (w_res rfl) w_lit) rfl
def CI{l:OpenLaw}{n:Nat}{q:Program}{loose:List Str}{XP:(Str->Option Value)->Heap->Prop}{YP:World->Heap->Prop}{d:DefRec}
  (hn:l.most=some n) (VB:d.params.defaults=[])
  (call:∀(w:World) (gH dr:Shared) (mg mb:Str->Option Value) (fa:Addr) (o:Obj) (pm cd doc:Value) (a:Addr) (vs:List Value) (ns:List Int),
   Ground q loose [] XP w gH mg mb dr.heap->YP w dr.heap->
   dr.heap.get? fa=some o->o.data=.func (docDef d.name d.params d.body d.scope pm cd doc)->dr.heap.CodeRec cd d.name->mg d.name=some (.ref fa)->
   dr.heap.get? a=some {cls:=.type "list",data:=.seq vs.toArray}->IntsAre vs ns->ns.length<=n->dr.gens=#[]->
   codeAny (model l.prog w) callerA (.call (.ref fa) ⟨[.ref a],[]⟩) (λr s'=>r=.ok (.ret (.bool true))/\OldK dr.heap s'.heap/\s'.os=dr.os/\AllBare s'.gens) dr):
  WalkO q loose XP YP l.row.toRowW d [] (λf vs=>PySem.call f vs):=by
 intro w gH dr mg mb G g fa o pm cd doc I kV L hd M b S hg args vals as Nt abR hrd VA hlo;obtain rfl:I=.none:=Dflts.none b VB;obtain rfl:kV=.none:=Dflts.noKw b;obtain⟨a,vs,ns,rfl,rfl,Rr,hints,b9⟩:=HX hn Nt VA;refine enter_call (codeAny_mono (call w gH dr mg mb fa o pm cd doc a vs ns G g L (fd_plain hd) M S Rr hints b9 hg) λr s' hq=>?_);obtain⟨rfl,h2,h3,h4⟩:=hq;exact⟨.inl ⟨.bool true,.bool true,[],rfl,λ_=>rfl,.bool true,HY l _,λ_=>⟨List.Pairwise.nil,λ_ hm=>(nomatch hm)⟩⟩,h2,h3,h4⟩
end Att
namespace PySem
noncomputable abbrev ZG(h:Heap)(l1:Addr):Heap:=h.push {cls:=.type "tuple_iterator",data:=.fields #[.ref l1,.int 0 0]}
abbrev ZH(h:Heap)(l1 l2:Addr):Heap:=(ZG h l1).push {cls:=.type "tuple_iterator",data:=.fields #[.ref l2,.int 0 0]}
abbrev ZI(h:Heap)(l1 l2:Addr):Heap:=(ZH h l1 l2).push {cls:=.type "tuple",data:=.seq #[.ref h.objs.size,.ref (ZG h l1).objs.size]}
abbrev ZJ(h:Heap)(l1 l2:Addr):Heap:=(ZI h l1 l2).push {cls:=.type "tuple",data:=.seq #[.none,.none]}
abbrev Va(h:Heap)(l1 l2:Addr):Heap:=(ZJ h l1 l2).push {cls:=.type "zip",data:=.fields #[.none,.bool false,.bool false,.ref (ZH h l1 l2).objs.size,.ref (ZI h l1 l2).objs.size]}
theorem EM(l1 l2:Addr)(xs ys:Array Value):Meets (Builtin.«zip.__new__» ⟨[.type "zip",.ref l1,.ref l2],[]⟩)
  (λ_ R s=>s.heap.IsTuple l1 xs/\s.heap.IsTuple l2 ys/\R (.ok (.ret (.ref (ZJ s.heap l1 l2).objs.size))) {s with heap:=Va s.heap l1 l2}):=
 .of_wp λprog w A R s h=>by
  obtain⟨hp,g,d,tk,os⟩:=s;obtain⟨l,n,h⟩:=h;have I:=sub_zip;have r:Heap.IsTuple (Shared.heap ⟨hp,g,d,tk,os⟩) l1 xs:=l;have b:Heap.IsTuple (Shared.heap ⟨hp.push {cls:=.type "tuple_iterator",data:=.fields #[.ref l1,.int 0 0]},g,d,tk,os⟩) l2 ys:=n.at λo e=>Heap.get?_push_of_some _ e
  wp_walk using wpAny_pyIter_tuple r,wpAny_pyIter_tuple b
  exact⟨_,rfl,h⟩
section
variable {prog:Program}{w:World}{A:Around}{E:Value->Shared->Prop}{s:Shared}
theorem HZ{l1 l2:Addr}{xs ys:Array Value}{Q:Value->Shared->Prop}(q:s.heap.IsTuple l1 xs)(Nu:s.heap.IsTuple l2 ys)
  (h:∀h',IsZip h' (s.heap.objs.size+4) (s.heap.objs.size+2) (s.heap.objs.size+3) .none->IsPair h' (s.heap.objs.size+2) (.ref s.heap.objs.size) (.ref (s.heap.objs.size+1))->
   IsPair h' (s.heap.objs.size+3) .none .none->h'.IsTupleIter s.heap.objs.size l1 0->h'.IsTupleIter (s.heap.objs.size+1) l2 0->(∀c o,s.heap.get? c=some o->h'.get? c=some o)->Q (.ref (s.heap.objs.size+4)) {s with heap:=h'}):
  wpAny (model prog w) A (call (.type "zip") [.ref l1,.ref l2]) Q E s:=by
 refine callType_new F.called_zip (by decide) (F.typeCall_zip_2 _ _) (F.newCall_zip_2 _ _) (λobj=>F.args_object_init_3 obj _ _) F.entry_zip_new (EM l1 l2 xs ys) ⟨q,Nu,?_⟩;have b:(ZG s.heap l1).objs.size=s.heap.objs.size+1:=Heap.size_push ..;have g:(ZH s.heap l1 l2).objs.size=s.heap.objs.size+2:=by rw[Heap.size_push,b]
 have l:(ZI s.heap l1 l2).objs.size=s.heap.objs.size+3:=by rw[Heap.size_push,g]
 have r:(ZJ s.heap l1 l2).objs.size=s.heap.objs.size+4:=by rw[Heap.size_push,l]
 have up:∀{h:Heap} {c:Addr} {o o':Obj},h.get? c=some o->(h.push o').get? c=some o:=λe=>Heap.get?_push_of_some _ e;have n:(Va s.heap l1 l2).get? (ZJ s.heap l1 l2).objs.size=some _:=Heap.get?_push_size _ rfl;have I:(Va s.heap l1 l2).get? (ZI s.heap l1 l2).objs.size=some _:=up (Heap.get?_push_size _ rfl);have g3:(Va s.heap l1 l2).get? (ZH s.heap l1 l2).objs.size=some _:=up (up (Heap.get?_push_size _ rfl));have g2:(Va s.heap l1 l2).get? (ZG s.heap l1).objs.size=some _:=up (up (up (Heap.get?_push_size _ rfl)));have g1:(Va s.heap l1 l2).get? s.heap.objs.size=some _:=up (up (up (up (Heap.get?_push_size _ rfl))));show _/\_;rw[g,l,r]at n;rw[b,g]at g3;rw[l]at I;rw[b]at g2;rw[r];exact⟨⟨_,n,rfl⟩,h _ n g3 I ⟨_,g1,rfl,rfl⟩ ⟨_,g2,rfl,rfl⟩ λc o x=>up (up (up (up (up x))))⟩
end
end PySem
namespace PySem.SeqAt
open PySem PySem.Spec PySem.Calls PyProof.Rows PySem.MeetsSeq
def H_{M:Model}{A:Around}{E:Value->Shared->Prop}{s:Shared}{β:Type}(f:Nat->β->Sem (ForInStep β))(I:List Nat->β->Shared->Prop)(Q:β->Shared->Prop)
  (turn:∀x c9 b s,I (x::c9) b s->wpAny M A (f x b) (λr s'=>match r with|.yield q=>I c9 q s'|.done q=>Q q s') E s)
  (fin:∀b s,I [] b s->Q b s) (n:Nat) (b:β) (h:I (List.range' 0 n) b s):wpAny M A (forIn [:n] b f) Q E s:=by
 rw[Std.Legacy.Range.forIn_eq_forIn_range'];simp only[Std.Legacy.Range.size,Nat.sub_zero,Nat.add_sub_cancel,Nat.div_one];exact wpAny_forIn_list f I Q turn fin _ b h
theorem zv(l:Addr)(q:Array Value)(n:Nat)(dd:Option Addr)(sl:Array (Option Value))(x:Value)(e:Value->Bool)(j:Nat)(hj:j<q.size)(hit:e q[j]=true)(J5:∀m (hm:m<q.size),m<j->e q[m]=false):
  Meets (Builtin.«tuple.index» ⟨[.ref l,x],[]⟩)
   (λA R s=>s.heap.get? l=some {cls:=.type "tuple",dict:=dd,data:=.seq q n,slots:=sl}/\(∀y,y∈q->EqAt A.in1 s y x (e y))/\R (.ok (.ret (.int j s.toks))) {s with toks:=s.toks+1}):=
 .of_wp λprog w A R s h=>by
  obtain⟨hp,g,d,tk,os⟩:=s;obtain⟨L,he,h⟩:=h
  wp_walk using wpAny_loadPart' L,H_ _ (λc9 (b:Option _×Unit) s'=>b.1=none/\s'=⟨hp,g,d,tk,os⟩/\∃i,c9=List.range' i (q.size - i)/\i<=j) _
  case turn=>
   rintro y c9 b s' ⟨hb,rfl,i,r,hi⟩
   have I:i<q.size:=Nat.lt_of_le_of_lt hi hj;obtain⟨rfl,M⟩:y=i/\c9=List.range' (i+1) (q.size - (i+1)):=by
    have e:q.size - i=(q.size - (i+1))+1:=by omega
    rw[e,List.range'_succ]at r;injection r with h1 h2
    exact⟨h1,h2⟩
   rw[Array.getElem?_eq_getElem I];refine wpAny_bind (he _ (Array.getElem_mem I) prog w _ _ ?_);by_cases z:y=j
   ·subst z;rw[hit]
    wp_walk
    exact⟨_,rfl,h⟩
   ·rw[J5 y I (by omega)]
    wp_walk
    exact⟨rfl,rfl,y+1,M,by omega⟩
  case fin=>
   rintro b s' ⟨hb,rfl,i,r,hi⟩
   have e:q.size - i=(q.size - (i+1))+1:=by omega
   rw[e,List.range'_succ]at r;exact nomatch r
  case h=>exact⟨rfl,rfl,0,by rw[Nat.min_self,Nat.sub_zero],Nat.zero_le _⟩
end PySem.SeqAt
namespace HT
open PySem PyProof.Rows
section
variable {prog:Program}{w:World}{A:Around}{E:Value->Shared->Prop}{s:Shared}
theorem rJ{t sl:Addr}{q:Array Value}{vl vu:Value}{lo hi:Option Int}{Q:Value->Shared->Prop}(ht:IsTup s.heap t q)(hs:s.heap.IsSliceOf sl vl vu .none)(pl:IsPart vl lo)(pu:IsPart vu hi)
  (hw:iF q.size 0 lo=0/\iF q.size q.size hi=q.size) (h:Q (.ref t) s):wpAny (model prog w) A (getItem (.ref t) (.ref sl)) Q E s:=by
 obtain⟨os,l,n,r⟩:=id hs;have b:s.TypeIs (.ref sl) "slice":=⟨os,l,n⟩;unfold getItem
 try with_reducible refine wpAny_holding ?_
 first|refine wpAny_bind (wpAny_pure ?_)|skip
 refine wpAny_bind (wpAny_sequenceKey ht.typeIs (by decide) ?_);refine wpAny_bind (wpAny_callSpecial?_slot (name:=Str.ofString "__getitem__") ht.typeIs PyProof.Rows.slot_tuple_getitem
  (wpAny_call_entry PyProof.Rows.slot_tuple_getitem ht.typeIs entry_tuple_getitem ?_ (args_tuple_getitem _ _)))
 show wpAny _ _ (Builtin.Tuple.tupleItemsOf (.ref t)>>=_) _ _ s;refine wpAny_bind (tupleItemsOf_ ht ?_);refine wpAny_bind (wpAny_typeOf b ?_);rw[if_pos (by decide)];refine wpAny_bind (mZ hs pl pu ?_);have g:((((iF q.size 0 lo:Nat):Int)==0&&(1:Int)==1&&(iF q.size q.size hi - iF q.size 0 lo)==q.size)=true):=by
  rw[hw.1,hw.2];simp
 show wpAny _ _ (if(((iF q.size 0 lo:Nat):Int)==0&&(1:Int)==1&&(iF q.size q.size hi - iF q.size 0 lo)==q.size)=true then _ else _) _ _ s;rw[if_pos g];refine wpAny_bind (m:=Builtin.Tuple.tupleIsExact (.ref t)) ?_
 show wpAny _ _ (typeOf (.ref t)>>=_) _ _ s;refine wpAny_bind (wpAny_typeOf ht.typeIs (wpAny_pure ?_));rw[if_pos (by decide)];exact wpAny_bind (wpAny_rule (wpAny_pure ⟨_,rfl,wpAny_pure h⟩))
end
end HT
namespace L2
open PySem.W (Frag)
open PySem PySem.Spec PyProof.Rows
variable {aa:Heap}{ae:Unit->Shared->Prop}{af:Value}{ag:Type}{ah aj:List Stmt}{ai:Stmt}{ak:Array Value}{am:Expr}{aq:List Value}{au:Addr}{av:Str}{aw:Result->Shared->Prop}{ax:Scope}{ay:String}{az:Nat}{aA:List Expr}{aM:Option Value->Shared->Prop}
variable {K:Frag}{U:List (Addr×Obj)}{pos p b8:Pos}{E Q:Value->Shared->Prop}{es:List Expr}{e tg o:Expr}{s:Shared}{a:Addr}{x:Str}{w:World}{A:Around}{mg:Str->Option Value}{i:Nat}{P:Program}{ps:List Str}
def fe{p:Prop}(h:False):p:=h.elim
abbrev Db(x:Str):Prop:=(x==("__debug__":Str))=false
abbrev ud(pos b8:Pos)(o:Expr)(m:Str)(es:List Expr)(env:Env)(pl:Sem Bool):Sem Value:=do
 let ov<-eval o env
 standAt b8.atName
 let(f,first)<-holding [ov] (getMethod ov m pl)
 callWith pos f first (backTo pos (starEach es env)) (backToKw pos (keywordEach [] env))
abbrev Key:=Sum Int Str
noncomputable def m3:Key->Value->Bool
 |.inl k,v=>Value.isInt k v
 |.inr x,v=>Value.isStrOf x v
def aac(w:World):Key->Int
 |.inl k=>hashInt k
 |.inr x=>hashStr w x
theorem dQ:∀{k:Key} {v:Value},m3 k v=true->(∃i t,k=Sum.inl i/\v=Value.int i t)\/(∃x t,k=Sum.inr x/\v=Value.str x t)
 |.inl i,v,h=>by
  obtain⟨t,e⟩:=Value.isInt_shape (k:=i) (v:=v) h;exact .inl ⟨i,t,rfl,e⟩
 |.inr x,v,h=>by
  obtain⟨t,e⟩:=Value.isStrOf_shape (x:=x) (v:=v) h;exact .inr ⟨x,t,rfl,e⟩
theorem Ia(i:Int)(t:Tok):m3 (.inl i) (.int i t)=true:=by simp[m3,Value.isInt]
theorem Ib(x:Str)(t:Tok):m3 (.inr x) (.str x t)=true:=by simp[m3,Value.isStrOf]
def Ru(a b:Int):decide ((Sum.inl a:Key)=Sum.inl b)=(a==b):=by
 by_cases e:a=b
 ·subst e;simp
 ·have h:¬(Sum.inl a:Key)=Sum.inl b:=λq=>e (Sum.inl.inj q);rw[fo h];exact(jr.mpr e).symm
def Rv(a b:Str):decide ((Sum.inr a:Key)=Sum.inr b)=decide (a=b):=by
 by_cases e:a=b
 ·subst e;simp
 ·have h:¬(Sum.inr a:Key)=Sum.inr b:=λq=>e (Sum.inr.inj q);rw[fo h,fo e]
def Rw(a:Int)(b:Str):decide ((Sum.inl a:Key)=Sum.inr b)=false:=fo (λq=>nomatch q)
def Rx(a:Str)(b:Int):decide ((Sum.inr a:Key)=Sum.inl b)=false:=fo (λq=>nomatch q)
def cu(prog:Program)(w:World):PySem.KeyKind prog w Key where
 is:=m3
 hash:=aac w
 inj:=λv a b n hb=>by
  rcases dQ n with⟨i,t,rfl,rfl⟩|⟨x,t,rfl,rfl⟩
  ·rcases dQ hb with⟨j,u,rfl,e⟩|⟨y,u,rfl,e⟩
   ·injection e with g _;rw[g]
   ·exact nomatch e
  ·rcases dQ hb with⟨j,u,rfl,e⟩|⟨y,u,rfl,e⟩
   ·exact nomatch e
   ·injection e with g _;rw[g]
 byValue:=λk v h=>by
  rcases dQ h with⟨i,t,rfl,rfl⟩|⟨x,t,rfl,rfl⟩<;>rfl
 pyHash:=λl h=>by
  rcases dQ l with⟨i,t,rfl,rfl⟩|⟨x,t,rfl,rfl⟩
  ·exact wpAny_pyHash_int h
  ·exact wpAny_pyHash_str h
 eqBool:=λr l h=>by
  rcases dQ r with⟨i,t,rfl,rfl⟩|⟨x,t,rfl,rfl⟩
  ·rcases dQ l with⟨j,u,rfl,rfl⟩|⟨y,u,rfl,rfl⟩
   ·rw[Ru]at h;exact wpAny_eqBool_int h
   ·rw[Rw]at h;exact SeqAt.EqAt.int_str i t y u _ _ _ _ h
  ·rcases dQ l with⟨j,u,rfl,rfl⟩|⟨y,u,rfl,rfl⟩
   ·rw[Rx]at h;exact SeqAt.EqAt.str_int x t j u _ _ _ _ h
   ·rw[Rv]at h;exact wpAny_eqBool_str h
 «strs»:=λk x t v h=>by
  rcases dQ h with⟨i,u,rfl,e⟩|⟨y,u,rfl,e⟩
  ·exact nomatch e
  ·injection e with g _
   subst g;cases v<;>rfl
def CJ(prog:Program)(w:World)(i:Int)(t:Tok):(cu prog w).is (.inl i) (.int i t)=true:=Ia i t
def CK(prog:Program)(w:World)(x:Str)(t:Tok):(cu prog w).is (.inr x) (.str x t)=true:=Ib x t
set_option genInjectivity true in
inductive V where
 |cA|bl (b:Bool)|int (i:Int)|str (x:Str)|Qd (b:Array UInt8)|zq (b:UInt64)|ref (a:Addr)|ty (n:String)
 deriving DecidableEq
variable {ar:List V}
variable {kvs:List (Key×V)}
def RelV:V->Value->Prop
 |.cA,u=>u=Value.none
 |.bl b,u=>u=Value.bool b
 |.int i,u=>∃t,u=Value.int i t
 |.str x,u=>∃t,u=Value.str x t
 |.Qd b,u=>∃t,u=Value.bytes b t
 |.zq b,u=>∃t,u=Value.float b t
 |.ref a,u=>u=Value.ref a
 |.ty n,u=>u=Value.type n
abbrev Vals:List V->List Value->Prop:=Paired RelV
theorem Vals.length {xs:List V}{us:List Value}(r:Vals xs us):xs.length=us.length:=Paired.length r
theorem Vals.get:∀{xs:List V} {us:List Value} {i:Nat} {x:V},Vals xs us->xs[i]?=some x->∃u,us[i]?=some u/\RelV x u
 |_,_,_,_,.nil,e=>by simp at e
 |_,_,0,_,.cons r _,e=>by simp at e;subst e;exact⟨_,rfl,r⟩
 |_,_,i+1,x,.cons _ t,e=>by
  obtain⟨u,h1,h2⟩:=Vals.get (i:=i) (x:=x) t (by simpa using e);exact⟨u,by simpa using h1,h2⟩
theorem Vals.set {x:V}{u:Value}(r:RelV x u):∀{xs:List V} {us:List Value} (i:Nat),Vals xs us->Vals (xs.set i x) (us.set i u)
 |_,_,_,.nil=>.nil
 |_,_,0,.cons _ t=>.cons r t
 |_,_,i+1,.cons q t=>.cons q (Vals.set r i t)
theorem Vals.append:∀{xs ys:List V} {us ws:List Value},Vals xs us->Vals ys ws->Vals (xs++ys) (us++ws)
 |_,_,_,_,.nil,s=>s
 |_,_,_,_,.cons r t,s=>.cons r (Vals.append t s)
theorem Vals.take:∀{xs:List V} {us:List Value} (n:Nat),Vals xs us->Vals (xs.take n) (us.take n)
 |_,_,0,_=>.nil
 |_,_,_+1,.nil=>.nil
 |_,_,n+1,.cons r t=>.cons r (Vals.take n t)
theorem Vals.drop:∀{xs:List V} {us:List Value} (n:Nat),Vals xs us->Vals (xs.drop n) (us.drop n)
 |_,_,0,r=>r
 |_,_,_+1,.nil=>.nil
 |_,_,n+1,.cons _ t=>Vals.drop n t
def mj:Option V->Option Value->Prop
 |some v,some u=>RelV v u
 |none,none=>True
 |_,_=>False
def KV{κ:Type}:List (κ×V)->List (κ×Value)->Prop:=Paired λ(p:κ×V) (q:κ×Value)=>p.1=q.1/\RelV p.2 q.2
noncomputable def kV:Key->V
 |.inl i=>.int i
 |.inr x=>.str x
inductive HO where
 |lst (xs:List V)
 |tup (xs:List V)
 |dK (kvs:List (Key×V))|dT (kvs:List (List Key×V))
 |set (S:Int->Bool) (n:Nat)
 |ins (C dx:Addr) (fs:List (Str×V))
 |own (x:Addr)
 |xd (fs:List (Str×V))
 |met (f x:Addr)
 |ZK (lo hi:Int)
 |lJ (o:Obj) (u:HO)
 |Qe (ps:Array Value)
 |ext (φ:Heap->Prop)
abbrev Hp:=Addr->Option HO
variable {ac:Hp}
variable {H:Hp}
noncomputable def upd(H:Hp)(a:Addr)(o:HO):Hp:=λb=>if b=a then some o else H b
def bP{o:HO}:upd H a o a=some o:=by unfold upd;rw[aY rfl]
def bq{b:Addr}{o:HO}(h:b≠a):upd H a o b=H b:=by unfold upd;rw[bc h]
theorem VF{b:Addr}{o u:HO}(h:H a=some o)(h':H b=some u)(d:o≠u):a≠b:=by
 intro e;subst e;rw[h]at h';exact d (Option.some.inj h')
def bV{b:Addr}{o:HO}(h:H a=some o)(h':H b=none):a≠b:=by
 intro e;subst e;rw[h]at h';cases h'
section
variable (P:Program)(w:World)
def cX(H:Hp)(h:Heap)(a:Addr):HO->Prop
 |.lst xs=>xs.length<=sizeLine/\∃(cy:List Value) (n:Nat),Vals xs cy/\h.get? a=some {cls:=.type "list",data:=.seq cy.toArray n}
 |.tup xs=>xs.length<=sizeLine/\∃cy:List Value,Vals xs cy/\IsTup h a cy.toArray
 |.dK kvs=>kvs.length<=sizeLine/\(a==sysModules)=false/\∃vs,KV kvs vs/\h.DictOf (cu P w) a vs
 |.dT kvs=>kvs.length<=sizeLine/\(a==sysModules)=false/\∃xs:List (List Key×Addr×Value),
   Paired (λ(p:List Key×V) (q:List Key×Addr×Value)=>p.1=q.1/\H q.2.1=some (.tup (p.1.map kV))/\RelV p.2 q.2.2) kvs xs/\
   ∃o es ep,h.get? a=some o/\o.ExactDict/\o.data=.dict es ep/\es.toList=xs.map (entryOfKey (tupleKind (cu P w)))/\(xs.map (·.1)).Nodup
 |.set S n=>h.SetOf (intKind P w) a S n
 |.ins C dx fs=>H dx=some (.own a)/\fs.length<=1000/\dx≠a/\h.get? a=some (PySem.W.instObj C dx)/\
   ∃mA,h.Ns1 dx mA/\(∀f,mj (fs.lookup f) (mA f))/\PySem.Within mA (fs.map (·.1))
 |.own _=>∃o,h.get? a=some o
 |.xd fs=>∃mA,h.Ns1 a mA/\∀f,mj (fs.lookup f) (mA f)
 |.ZK lo hi=>∃t u v,h.get? a=some {cls:=.type "range",data:=.fields #[.int lo t,.int hi u,.int 1 v]}
 |.lJ o u=>h.get? a=some o/\cX H h a u
 |.Qe ps=>h.get? a=some {cls:=.none,data:=.fields ps}
 |.met f x=>h.get? a=some (PySem.W.methodObj (.ref f) (.ref x))
 |.ext φ=>φ h/\(∃o,h.get? a=some o)/\∀h1 h2:Heap,φ h1->(∀o,h1.get? a=some o->h2.get? a=some o)->φ h2
def sA(H:Hp)(h:Heap):Prop:=∀a o,H a=some o->cX P w H h a o
end
section
variable {h':Heap}{o:HO}
theorem cX.lt (x:cX P w H aa a o):a<aa.objs.size:=by
 cases o with
 |lst xs=>obtain⟨_,_,_,_,e⟩:=x;exact bz e
 |tup xs=>obtain⟨_,_,_,p⟩:=x;exact p.lt
 |dK kvs=>obtain⟨_,_,_,_,o,_,_,e,_⟩:=x;exact bz e
 |dT kvs=>obtain⟨_,_,_,_,o,_,_,e,_⟩:=x;exact bz e
 |set S n=>obtain⟨o,_,_,_,e,_⟩:=x;exact bz e
 |ins C dx fs=>obtain⟨_,_,_,e,_⟩:=x;exact bz e
 |own y=>obtain⟨_,e⟩:=x;exact bz e
 |xd fs=>obtain⟨_,⟨_,_,_,e,_⟩,_⟩:=x;exact bz e
 |ZK lo hi=>obtain⟨_,_,_,e⟩:=x;exact bz e
 |lJ b u=>obtain⟨e,_⟩:=x;exact bz e
 |Qe ps=>exact bz (show aa.get? a=some _ from x)
 |met f y=>exact bz (show aa.get? a=some _ from x)
 |ext g=>obtain⟨_,⟨_,e⟩,_⟩:=x;exact bz e
theorem Paired.Ry {α β:Type}{F G:α->β->Prop}:∀{q:List α} {AX:List β},Paired F q AX->(∀a b,F a b->G a b)->Paired G q AX
 |_,_,.nil,_=>.nil
 |_,_,.cons r t,f=>.cons (f _ _ r) (Paired.Ry t f)
theorem cX.pQ (x:cX P w H aa a o)(k:∀b u,(b=a\/H b=some (.own a))->aa.get? b=some u->h'.get? b=some u)
  (ho:∀b,H b=some (.own a)->ac b=some (.own a)) (ht:∀b xs,H b=some (.tup xs)->ac b=some (.tup xs)):cX P w ac h' a o:=by
 induction o with
 |lst xs=>obtain⟨z,cy,n,r,e⟩:=x;exact⟨z,cy,n,r,k _ _ (.inl rfl) e⟩
 |tup xs=>obtain⟨z,cy,r,ob,e,c⟩:=x;exact⟨z,cy,r,ob,k _ _ (.inl rfl) e,c⟩
 |dK kvs=>obtain⟨z,y,vs,r,ob,es,ep,e,c⟩:=x;exact⟨z,y,vs,r,ob,es,ep,k _ _ (.inl rfl) e,c⟩
 |dT kvs=>
  obtain⟨z,y,xs,r,ob,es,ep,e,c⟩:=x;exact⟨z,y,xs,Paired.Ry r λp q z=>⟨z.1,ht _ _ z.2.1,z.2.2⟩,ob,es,ep,k _ _ (.inl rfl) e,c⟩
 |set S n=>obtain⟨ob,es,ep,t,e,c⟩:=x;exact⟨ob,es,ep,t,k _ _ (.inl rfl) e,c⟩
 |ins C dx fs=>
  obtain⟨d,z,ne,e,mA,⟨g,es,ep,l,c⟩,r⟩:=x;exact⟨ho _ d,z,ne,k _ _ (.inl rfl) e,mA,⟨g,es,ep,k _ _ (.inr d) l,c⟩,r⟩
 |own y=>obtain⟨ob,e⟩:=x;exact⟨ob,k _ _ (.inl rfl) e⟩
 |xd fs=>obtain⟨mA,⟨g,es,ep,e,c⟩,r⟩:=x;exact⟨mA,⟨g,es,ep,k _ _ (.inl rfl) e,c⟩,r⟩
 |ZK lo hi=>obtain⟨t,u,v,e⟩:=x;exact⟨t,u,v,k _ _ (.inl rfl) e⟩
 |lJ ob u I=>obtain⟨e,q⟩:=x;exact⟨k _ _ (.inl rfl) e,I q⟩
 |Qe ps=>
  have e:aa.get? a=some {cls:=.none,data:=.fields ps}:=x;show h'.get? a=some {cls:=.none,data:=.fields ps};exact k a _ (.inl rfl) e
 |met f y=>
  have e:aa.get? a=some (PySem.W.methodObj (.ref f) (.ref y)):=x;show h'.get? a=some (PySem.W.methodObj (.ref f) (.ref y));exact k a _ (.inl rfl) e
 |ext L=>obtain⟨p,⟨o,e⟩,st⟩:=x;exact⟨st _ _ p λo q=>k _ _ (.inl rfl) q,⟨o,k _ _ (.inl rfl) e⟩,st⟩
theorem sA.lt (x:sA P w H aa)(e:H a=some o):a<aa.objs.size:=(x a o e).lt
def sA.fresh (x:sA P w H aa)(e:aa.objs.size<=a):H a=none:=by
 cases q:H a with
 |none=>rfl
 |some u=>exact absurd (dc (x.lt q) e) (eZ _)
def sA.kept (x:sA P w H aa)(k:∀b u,aa.get? b=some u->h'.get? b=some u):sA P w H h':=λa o e=>
 (x a o e).pQ (λb u _ q=>k b u q) (λ_ q=>q) λ_ _ q=>q
def sA.laid (x:sA P w H aa)(k:∀b u,aa.get? b=some u->h'.get? b=some u)(hp:aa.objs.size<=a)(new:cX P w (upd H a o) h' a o):sA P w (upd H a o) h':=λb u e=>by
 have g:=x.fresh hp;by_cases hb:b=a
 ·subst hb;rw[bP]at e;cases e;exact new
 ·rw[bq hb]at e;exact(x b u e).pQ (λc v _ q=>k c v q) (λc q=>by rw[bq (bV q g)];exact q) λc xs q=>by rw[bq (bV q g)];exact q
end
def Rd(H:Hp)(a:Addr)(u:HO):Prop:=H a=some u\/∃o,H a=some (.lJ o u)
def Rd.ok {h:Heap}{a:Addr}{u:HO}(r:Rd H a u)(x:sA P w H h):cX P w H h a u:=by
 rcases r with r|⟨o,r⟩
 ·exact x a u r
 ·obtain⟨_,q⟩:=x a _ r;exact q
def VH:Option HO->Prop
 |some (.lst _)=>True
 |some (.dK _)=>True
 |some (.dT _)=>True
 |some (.set _ _)=>True
 |some (.ins _ _ _)=>True
 |some (.ext _)=>True
 |_=>False
section
variable {h':Heap}{x e:Addr}{o':HO}
def sA.write (ok:sA P w H aa)(mu:VH (H x))(he:e=x\/H e=some (.own x))(k:∀b u,b≠e->aa.get? b=some u->h'.get? b=some u)(Vb:∃u,h'.get? e=some u)
  (new:cX P w (upd H x o') h' x o'):sA P w (upd H x o') h':=λb u q=>by
 have I:∀c y,H c=some (.own y)->c≠x:=λc y r z=>by subst z;rw[r]at mu;exact mu
 have n:∀c xs,H c=some (.tup xs)->c≠x:=λc xs r z=>by subst z;rw[r]at mu;exact mu
 by_cases hb:b=x
 ·subst hb;rw[bP]at q;cases q;exact new
 ·rw[bq hb]at q;by_cases g:b=e
  ·have L:H b=some (.own x):=by
    rcases he with z|z
    ·exact absurd (g.trans z) hb
    ·rw[g];exact z
   rw[q]at L;cases L;obtain⟨v,M⟩:=Vb;exact⟨v,by rw[g];exact M⟩
  ·refine(ok b u q).pQ (λc v l r=>k c v ?_ r) (λc r=>by rw[bq (I c b r)];exact r) λc xs r=>by rw[bq (n c xs r)];exact r
   rcases l with rfl|l
   ·exact g
   ·rintro rfl
    rcases he with z|z
    ·exact I c b l z
    ·rw[l]at z;cases z;exact hb rfl
end
structure Un(fs ex:List Addr)(H H':Hp)(h h':Heap):Prop where
 keep:∀b o,h.get? b=some o->H b=none->b∉fs->b∉ex->h'.get? b=some o
 slot:∀b o,h.get? b=some o->H b=none->b∈fs->b∉ex->∃sl,h'.get? b=some {o with slots:=sl}
 free:∀b o,h.get? b=some o->H b=none->b∉ex->H' b=none
 there:∀b o,h.get? b=some o->b∉ex->∃o',h'.get? b=some o'
 m4:∀b xs,H b=some (.tup xs)->H' b=some (.tup xs)
 lK:∀b o u,H b=some (.lJ o u)->H' b=some (.lJ o u)
 nU:∀b ps,H b=some (.Qe ps)->∃more,H' b=some (.Qe (ps++more))
section
variable {fs fs' ex ex':List Addr}{H2:Hp}{h h2 h':Heap}{x e:Addr}{o:HO}
def Un.any (u:Un fs ex H ac h aa){b:Addr}{ob:Obj}(q:h.get? b=some ob)(n:H b=none)(hx:b∉ex):∃sl,aa.get? b=some {ob with slots:=sl}:=by
 by_cases hb:b∈fs
 ·exact u.slot b ob q n hb hx
 ·exact⟨ob.slots,u.keep b ob q n hb hx⟩
theorem Un.trans (a:Un fs ex H ac h aa)(b:Un fs ex ac H2 aa h2):Un fs ex H H2 h h2 where
 keep:=λc g q n I l=>b.keep c g (a.keep c g q n I l) (a.free c g q n l) I l
 slot:=λc g q n I l=>by
  obtain⟨sl,r⟩:=a.slot c g q n I l;obtain⟨M,L⟩:=b.slot c _ r (a.free c g q n l) I l;exact⟨M,L⟩
 free:=λc g q n l=>by
  obtain⟨o',r⟩:=a.there c g q l;exact b.free c o' r (a.free c g q n l) l
 there:=λc g q l=>by
  obtain⟨o',r⟩:=a.there c g q l;exact b.there c o' r l
 m4:=λc xs q=>b.m4 c xs (a.m4 c xs q)
 lK:=λc g xs q=>b.lK c g xs (a.lK c g xs q)
 nU:=λc ps q=>by
  obtain⟨S,r⟩:=a.nU c ps q;obtain⟨m2,L⟩:=b.nU c _ r;exact⟨S++m2,by rw[L,Array.append_assoc]⟩
def Un.kept (k:∀b u,h.get? b=some u->h'.get? b=some u):Un fs ex H H h h':=
 ⟨λb g q _ _ _=>k b g q,λb g q _ _ _=>⟨g.slots,k b g q⟩,λ_ _ _ n _=>n,λb g q _=>⟨g,k b g q⟩,λ_ _ q=>q,λ_ _ _ q=>q,λ_ ps q=>⟨#[],by rw[q];simp⟩⟩
def Un.refl:Un fs ex H H h h:=Un.kept λ_ _ q=>q
def Un.laid (k:∀b u,h.get? b=some u->h'.get? b=some u)(hp:h.objs.size<=a)(hn:H a=none):Un fs ex H (upd H a o) h h' where
 keep:=λb u q _ _ _=>k b u q
 slot:=λb u q _ _ _=>⟨u.slots,k b u q⟩
 free:=λb u q n _=>by rw[bq (cf (dc (bz q) hp))];exact n
 there:=λb u q _=>⟨u,k b u q⟩
 m4:=λb xs q=>by rw[bq (bV q hn)];exact q
 lK:=λb u xs q=>by rw[bq (bV q hn)];exact q
 nU:=λb ps q=>⟨#[],by rw[bq (bV q hn),q];simp⟩
def Un.write (mu:VH (H x))(he:e=x\/H e=some (.own x))(k:∀b u,b≠e->h.get? b=some u->h'.get? b=some u)(Vb:∃u,h'.get? e=some u):Un fs ex H (upd H x o) h h':=by
 have g:∀b,H b=none->b≠x:=λb n z=>by subst z;rw[n]at mu;exact mu
 have hb:∀b,H b=none->b≠e:=λb n z=>by
  subst z;rcases he with r|r
  ·exact g b n r
  ·rw[n]at r;cases r
 have hm:∀b u,H b=some u->¬VH (some u)->b≠x:=λb u q nm z=>by subst z;rw[q]at mu;exact nm mu
 refine⟨λb u q n _ _=>k b u (hb b n) q,λb u q n _ _=>⟨u.slots,k b u (hb b n) q⟩,λb u q n _=>by rw[bq (g b n)];exact n,λb u q _=>?_,
  λb xs q=>by rw[bq (hm b _ q λz=>z)];exact q,λb u xs q=>by rw[bq (hm b _ q λz=>z)];exact q,λb ps q=>⟨#[],by rw[bq (hm b _ q λz=>z),q];simp⟩⟩
 by_cases l:b=e
 ·subst l;exact Vb
 ·exact⟨u,k b u l q⟩
end
noncomputable def ZM(h:Heap)(H:Hp):List Addr:=(List.range h.objs.size).filter λa=>(H a).isSome
def AY(h:Heap)(H:Hp):Heap:=PySem.W.hideAll h (ZM h H)
def Ic(h:Heap)(H:Hp):(AY h H).objs.size=h.objs.size:=PySem.W.hideAll_size _ _
def J7{o:Obj}(e:aa.get? a=some o)(n:H a=none):(AY aa H).get? a=some o:=
 mL _ e λhm=>by
  have q:(H a).isSome=true:=(fJ.mp hm).2;rw[n]at q;simp at q
def Nv{h:Heap}{o:Obj}(e:(AY h H).get? a=some o):h.get? a=some o/\H a=none:=by
 have b:h.get? a=some o:=mO (ZM h H) e;refine⟨b,?_⟩;cases q:H a with
 |none=>rfl
 |some x=>
  have hm:a∈ZM h H:=fJ.mpr ⟨t7.mpr (bz b),by simp[q]⟩;have z:(AY h H).get? a=none:=lO (ZM h H) hm;rw[z]at e;cases e
structure Mod(K:Frag)(mg:Str->Option Value)(base:Heap):Prop where
 Qf:K.In base
 glob:base.Ns mainGlobals mg
 blt:∃mb,base.Ns builtinsNs mb/\∀x:Str,x≠"__name__"->mb x=bootBuiltins x
 nolimit:base.NoLimit
structure Cx where
 prog:Program
 w:World
 K:Frag
 mg:Str->Option Value
 base:Heap
 A:Around
 N:List Str
 gH:Shared
 CL:Hp
 env:Env
 outer:List Env
 stack:List Env
 ex:List Addr
 fn:Str->Bool
 calm:Bool
 pn:List (Addr×Obj)
 xe:Value->Shared->Prop
variable {X:Cx}
abbrev zr(X:Cx)(x:Str):Prop:=X.fn x=true\/X.env.scope.names.lookup x=some .local
noncomputable def j8(l:List Env):List Addr:=l.filterMap (·.frame)
abbrev Cx.fs (X:Cx):List Addr:=j8 X.outer
def ZN(sc:Scope)(x:Str):Prop:=sc.names.lookup x=some .local\/sc.names.lookup x=some .cell\/sc.names.lookup x=some .free
def Loc(sc:Scope)(x:Str):Prop:=sc.names.lookup x=some .local\/sc.names.lookup x=some .cell
def Look(env:Env)(h:Heap)(m:Str->Option Value)(x:Str)(u:Value):Prop:=
 (env.kindOf x=some .local/\m x=some u)\/((env.kindOf x=some .cell\/env.kindOf x=some .free)/\∃c,env.cells.lookup x=some c/\h.IsCell c (some u))
structure Cx.Ok (X:Cx):Prop where
 mod:Mod X.K X.mg X.base
 kind:X.env.scope.kind=.function
 glob:X.env.globals=mainGlobals
 blt:X.env.builtins=builtinsNs
 above:X.gH.heap.objs.size<=X.env.locals
 inj:∀x y c,X.env.cells.lookup x=some c->X.env.cells.lookup y=some c->x=y
 has:∀x,(X.env.kindOf x=some .cell\/X.env.kindOf x=some .free)->∃c,X.env.cells.lookup x=some c
 Qg:∀x c,X.fn x=true->X.env.cells.lookup x=some c->X.gH.heap.objs.size<=c
 hd:X.calm=true->X.A.handled=none
 frames:X.A.frames=some X.stack
 Ni:X.stack=X.outer\/(X.stack=X.env::X.outer/\X.env.frame=some X.env.locals)
 Vc:∀b∈X.ex,b≠X.env.locals/\∀x c,X.env.cells.lookup x=some c->c≠b
 bs:∀b o,X.base.get? b=some o->X.gH.heap.get? b=some o/\X.CL b=none
 Ie:X.base.objs.size<=X.gH.heap.objs.size
 AZ:∀b o,X.base.get? b=some o->b∉X.ex
 CM:∀b∈X.ex,b∉X.fs
 rK:X.gH.heap.FunFrames X.base X.outer
 J8:∀b∈X.fs,X.CL b=none
structure Inv(X:Cx)(U:List (Addr×Obj))(Z:List (Option V))(H:Hp)(s:Shared):Prop where
 ok:X.Ok
 os:s.os=X.gH.os
 bare:AllBare s.gens
 base:Un X.fs X.ex X.CL H X.gH.heap s.heap
 loc:∃m,s.heap.Ns X.env.locals m/\∀(i:Nat) (x:Str) (v:V),X.N[i]?=some x->Z[i]?=some (some v)->ZN X.env.scope x->∃u,RelV v u/\Look X.env s.heap m x u
 cell:∀x c,X.env.cells.lookup x=some c->∃v,s.heap.IsCell c v
 free:H X.env.locals=none
 gq:∀x c,X.env.cells.lookup x=some c->H c=none
 pin:∀p∈X.pn++U,s.heap.get? p.1=some p.2/\H p.1=none/\p.1≠X.env.locals/\p.1∉X.fs/\∀v,p.2.data≠ .cell v
 cW:sA X.prog X.w H s.heap
 len:Z.length=X.N.length
section
variable {Z:List (Option V)}{H':Hp}{h':Heap}
def Cx.Ok.aae (ok:X.Ok){b:Addr}{o:Obj}(e:X.base.get? b=some o):b∉X.fs:=λhb=>by
 have:=(ok.rK.mem hb).1;rw[e]at this;cases this
theorem Inv.bs (I:Inv X U Z H s):∀b o,X.base.get? b=some o->s.heap.get? b=some o/\H b=none:=λb o e=>
 ⟨I.base.keep b o (I.ok.bs b o e).1 (I.ok.bs b o e).2 (I.ok.aae e) (I.ok.AZ b o e),I.base.free b o (I.ok.bs b o e).1 (I.ok.bs b o e).2 (I.ok.AZ b o e)⟩
def Inv.bk (I:Inv X U Z H s):∀b o,X.base.get? b=some o->s.heap.get? b=some o:=λb o e=>(I.bs b o e).1
theorem Inv.mod (I:Inv X U Z H s):Mod X.K X.mg X.base:=I.ok.mod
def Inv.ml (I:Inv X U Z H s):X.K.In s.heap:=I.ok.mod.Qf.keeps I.bk
def Inv.fr (I:Inv X U Z H s):∃m,Fr X.base X.env.locals s.heap m:=
 let⟨m,hn,_⟩:=I.loc
 ⟨m,hn,I.bk,cB I.ok.Ie I.ok.above⟩
theorem Inv.lt (I:Inv X U Z H s):X.env.locals<s.heap.objs.size:=let⟨_,hn,_⟩:=I.loc;hn.lt
def Inv.sz (I:Inv X U Z H s):X.gH.heap.objs.size<=s.heap.objs.size:=cB I.ok.above (du I.lt)
def Inv.VL (I:Inv X U Z H s)(h:s.heap.objs.size<=a):a∉X.fs:=λhb=>by
 obtain⟨_,o,b,_⟩:=I.ok.rK.mem hb;exact absurd (dc (bz b) (cB I.sz h)) (eZ _)
def Inv.Ig (I:Inv X U Z H s):∀x c,X.env.cells.lookup x=some c->c≠X.env.locals:=λx c e z=>by
 obtain⟨v,o,b,hd⟩:=I.cell x c e;obtain⟨m,⟨o',es,ep,g,l,_⟩,_⟩:=I.loc;rw[z,g]at b;cases b;rw[l]at hd;cases hd
theorem Inv.rK (I:Inv X U Z H s):s.heap.FunFrames X.base X.outer:=by
 have all:∀(l:List Env),(∀b∈j8 l,b∈X.fs)->X.gH.heap.FunFrames X.base l->s.heap.FunFrames X.base l:=by
  intro l
  induction l with
  |nil=>intro _ _;trivial
  |cons env r n=>
   intro hs M;obtain⟨S,⟨L,o,hf,hn,q,hd⟩,hr⟩:=M;have g:L∈X.fs:=hs L (by unfold j8;rw[pf,hf];exact cG);obtain⟨sl,e⟩:=I.base.slot L o q (I.ok.J8 L g) g λz=>I.ok.CM L z g;exact⟨S,⟨L,_,hf,hn,e,hd⟩,n (λb hb=>hs b (by unfold j8;rw[pf,hf];exact cw _ hb)) hr⟩
 exact all X.outer (λ_ hb=>hb) I.ok.rK
theorem Inv.stack (I:Inv X U Z H s):s.heap.FunFrames X.base X.stack:=by
 rcases I.ok.Ni with e|⟨e,hf⟩
 ·rw[e];exact I.rK
 ·rw[e];obtain⟨m,hn,_⟩:=I.loc;refine .cons (by rw[I.ok.kind];decide) hf hn ?_ I.rK
  exact Heap.get?_none_of_le (cB I.ok.Ie I.ok.above)
def Inv.xU (I:Inv X U Z H s):∀b∈j8 X.stack,b∈X.env.locals::X.fs:=λb hb=>by
 rcases I.ok.Ni with e|⟨e,hf⟩
 ·rw[e]at hb;exact cw _ hb
 ·rw[e]at hb;unfold j8 at hb;rw[pf,hf]at hb;exact hb
def Inv.wK (I:Inv X U Z H s):∀b∈j8 X.stack,H b=none:=λb hb=>by
 rcases bH.mp (I.xU b hb)with e|hb
 ·rw[e];exact I.free
 ·obtain⟨_,o,g,_⟩:=I.ok.rK.mem hb;exact I.base.free b o g (I.ok.J8 b hb) λz=>I.ok.CM b z hb
def Inv.step {g':Array GenState}{t':Nat}{d':Drawn}{ch:List Addr}(I:Inv X U Z H s)
  (zP:∀b∈ch,(b∈X.ex\/X.gH.heap.objs.size<=b)/\b≠X.env.locals/\(∀x c,X.env.cells.lookup x=some c->c≠b)/\∀p∈X.pn++U,p.1≠b)
  (keep:∀b o,b≠X.env.locals->b∉X.fs->b∉ch->s.heap.get? b=some o->H b=none->h'.get? b=some o)
  (slot:∀b o,b≠X.env.locals->b∈X.fs->b∉ch->s.heap.get? b=some o->H b=none->∃sl,h'.get? b=some {o with slots:=sl}) (free:∀b o,b∉ch->s.heap.get? b=some o->H b=none->H' b=none)
  (there:∀b o,b∉ch->s.heap.get? b=some o->∃o',h'.get? b=some o')
  (m4:∀b xs,H b=some (.tup xs)->H' b=some (.tup xs)) (lK:∀b o u,H b=some (.lJ o u)->H' b=some (.lJ o u)) (nU:∀b ps,H b=some (.Qe ps)->∃more,H' b=some (.Qe (ps++more)))
  (ns:∀m,s.heap.Ns X.env.locals m->h'.Ns X.env.locals m) (cW:sA X.prog X.w H' h') (hg:AllBare g'):
  Inv X U Z H' {s with heap:=h',gens:=g',drawn:=d',toks:=t'}:=by
 have S:∀b o,X.gH.heap.get? b=some o->b≠X.env.locals:=λb o e=>cf (dc (bz e) I.ok.above);have Ny:∀b o,X.gH.heap.get? b=some o->b∉X.ex->b∉ch:=λb o e g hb=>by
  rcases(zP b hb).1 with z|z
  ·exact g z
  ·exact absurd (dc (bz e) z) (eZ _)
 have cellK:∀x c,X.env.cells.lookup x=some c->∀v,s.heap.IsCell c v->h'.IsCell c v:=λx c e v ⟨o,M,hd⟩=>by
  have J9:c∉ch:=λz=>(zP c z).2.2.1 x c e rfl;by_cases hc:c∈X.fs
  ·obtain⟨sl,q⟩:=slot c o (I.Ig x c e) hc J9 M (I.gq x c e);exact⟨_,q,hd⟩
  ·exact⟨o,keep c o (I.Ig x c e) hc J9 M (I.gq x c e),hd⟩
 refine⟨I.ok,I.os,hg,⟨λb o e n hb g=>?_,λb o e n hb g=>?_,λb o e n g=>?_,λb o e g=>?_,λb xs e=>m4 b xs (I.base.m4 b xs e),λb o xs e=>lK b o xs (I.base.lK b o xs e),λb ps e=>?_⟩,?_,λx c e=>?_,?_,λx c e=>?_,λp hp=>?_,cW,I.len⟩
 ·exact keep b o (S b o e) hb (Ny b o e g) (I.base.keep b o e n hb g) (I.base.free b o e n g)
 ·obtain⟨sl,L⟩:=I.base.slot b o e n hb g;obtain⟨VJ,e2⟩:=slot b _ (S b o e) hb (Ny b o e g) L (I.base.free b o e n g);exact⟨VJ,e2⟩
 ·obtain⟨o',L⟩:=I.base.there b o e g;exact free b o' (Ny b o e g) L (I.base.free b o e n g)
 ·obtain⟨o',L⟩:=I.base.there b o e g;exact there b o' (Ny b o e g) L
 ·obtain⟨m1,L⟩:=I.base.nU b ps e;obtain⟨m2,e2⟩:=nU b _ L;exact⟨m1++m2,by rw[e2,Array.append_assoc]⟩
 ·obtain⟨m,hn,hl⟩:=I.loc;refine⟨m,ns m hn,λi x v L e2 e3=>?_⟩;obtain⟨u,r,l⟩:=hl i x v L e2 e3;refine⟨u,r,?_⟩;rcases l with l|⟨k,c,e,z⟩
  ·exact .inl l
  ·exact .inr ⟨k,c,e,cellK x c e _ z⟩
 ·obtain⟨v,z⟩:=I.cell x c e;exact⟨v,cellK x c e v z⟩
 ·obtain⟨m,⟨o,_,_,M,_⟩,_⟩:=I.loc;exact free _ o (λz=>(zP _ z).2.1 rfl) M I.free
 ·obtain⟨v,o,M,hd⟩:=I.cell x c e;exact free c o (λz=>(zP c z).2.2.1 x c e rfl) M (I.gq x c e)
 ·obtain⟨e,n,ne,nf,d⟩:=I.pin p hp;have J9:p.1∉ch:=λz=>(zP p.1 z).2.2.2 p hp rfl;exact⟨keep p.1 p.2 ne nf J9 e n,free p.1 p.2 J9 e n,ne,nf,d⟩
theorem Inv.un {t':Nat}(I:Inv X U Z H s)(u:Un X.fs [] H H' s.heap h')(q:sA X.prog X.w H' h'):Inv X U Z H' {s with heap:=h',toks:=t'}:=by
 obtain⟨m,⟨o,es,ep,g,r⟩,_⟩:=id I.loc;obtain⟨sl,L⟩:=u.any g I.free (by simp);exact I.step (g':=s.gens) (d':=s.drawn) (ch:=[]) (λ_ z=>nomatch z) (λb o _ hb _ e n=>u.keep b o e n hb (by simp)) (λb o _ hb _ e n=>u.slot b o e n hb (by simp)) (λb o _ e n=>u.free b o e n (by simp)) (λb o _ e=>u.there b o e (by simp)) u.m4 u.lK u.nU (λm' hm=>by
  obtain⟨o',M,S,l,r'⟩:=hm;rw[g]at l;cases l;exact⟨_,M,S,L,r'⟩) q I.bare
theorem Inv.call {g':Array GenState}{t':Nat}{d':Drawn}{ch:List Addr}(I:Inv X U Z H s)(u:Un (j8 X.stack) ch H H' s.heap h')(cW:sA X.prog X.w H' h')(hg:AllBare g')
  (q:∀b∈ch,(b∈X.ex\/X.gH.heap.objs.size<=b)/\b≠X.env.locals/\(∀x c,X.env.cells.lookup x=some c->c≠b)/\∀p∈X.pn++U,p.1≠b):
  Inv X U Z H' {s with heap:=h',gens:=g',drawn:=d',toks:=t'}:=by
 obtain⟨m,⟨o,es,ep,L,r⟩,_⟩:=id I.loc;obtain⟨sl,l⟩:=u.any L I.free λz=>(q _ z).2.1 rfl;exact I.step (ch:=ch) q (λb o l hb g e n=>u.keep b o e n (λz=>(bH.mp (I.xU b z)).elim l hb) g) (λb o _ _ g e n=>u.any e n g) (λb o g e n=>u.free b o e n g) (λb o g e=>u.there b o e g) u.m4 u.lK u.nU (λm' hm=>by
  obtain⟨o',S,J_,M,r'⟩:=hm;rw[L]at M;cases M;exact⟨_,S,J_,l,r'⟩) cW hg
def Inv.turned {t':Nat}{it:Addr}(I:Inv X U Z H s)(k:∀b o,b≠it->s.heap.get? b=some o->h'.get? b=some o)(hn:H it=none)(hL:it≠X.env.locals)
  (h1:it∈X.ex\/X.gH.heap.objs.size<=it) (h2:∀x c,X.env.cells.lookup x=some c->c≠it) (h3:∀p∈X.pn++U,p.1≠it):Inv X U Z H {s with heap:=h',toks:=t'}:=by
 have l:∀b u,H b=some u->b≠it:=λb u e z=>by rw[z,hn]at e;cases e
 refine I.step (g':=s.gens) (d':=s.drawn) (ch:=[it]) (λb hb=>?_) (λb o _ _ g e _=>k b o (λz=>g (by simp[z])) e) (λb o _ _ g e _=>⟨o.slots,k b o (λz=>g (by simp[z])) e⟩) (λ_ _ _ _ n=>n)
  (λb o g e=>⟨o,k b o (λz=>g (by simp[z])) e⟩) (λ_ _ e=>e) (λ_ _ _ e=>e) (λb ps e=>⟨#[],by rw[e];simp⟩) (λm hm=>?_) (λb u e=>?_) I.bare
 ·have e:b=it:=by simpa using hb
  subst e;exact⟨h1,hL,h2,h3⟩
 ·obtain⟨o,es,ep,L,r⟩:=hm;exact⟨o,es,ep,k _ o (Ne.symm hL) L,r⟩
 ·refine(I.cW b u e).pQ (λc v g q=>k c v ?_ q) (λ_ q=>q) λ_ _ q=>q;rcases g with z|z
  ·rw[z];exact l b u e
  ·exact l c _ z
def Inv.tok (I:Inv X U Z H s)(t:Nat):Inv X U Z H {s with toks:=t}:=I.un (h':=s.heap) (t':=t) Un.refl I.cW
theorem Inv.kept {t':Nat}(I:Inv X U Z H s)(k:∀b u,s.heap.get? b=some u->h'.get? b=some u):Inv X U Z H {s with heap:=h',toks:=t'}:=I.un (Un.kept k) (I.cW.kept k)
theorem Inv.laid {a:Addr}{o:HO}{t':Nat}(I:Inv X U Z H s)(k:∀b u,s.heap.get? b=some u->h'.get? b=some u)(hp:s.heap.objs.size<=a)(new:cX X.prog X.w (upd H a o) h' a o):
  Inv X U Z (upd H a o) {s with heap:=h',toks:=t'}:=I.un (Un.laid k hp (I.cW.fresh hp)) (I.cW.laid k hp new)
theorem Inv.write {x e:Addr}{o:HO}{t':Nat}(I:Inv X U Z H s)(q:VH (H x))(he:e=x\/H e=some (.own x))(k:∀b u,b≠e->s.heap.get? b=some u->h'.get? b=some u)(Vb:∃u,h'.get? e=some u)
  (new:cX X.prog X.w (upd H x o) h' x o):Inv X U Z (upd H x o) {s with heap:=h',toks:=t'}:=I.un (Un.write q he k Vb) (I.cW.write q he k Vb new)
def Inv.kn {J':List (Addr×Obj)}(I:Inv X U Z H s)(h:∀p∈J',s.heap.get? p.1=some p.2/\H p.1=none/\p.1≠X.env.locals/\p.1∉X.fs/\∀v,p.2.data≠ .cell v):Inv X J' Z H s:=
 ⟨I.ok,I.os,I.bare,I.base,I.loc,I.cell,I.free,I.gq,λp hp=>(dF.mp hp).elim (λz=>I.pin p (kg _ z)) (h p),I.cW,I.len⟩
theorem ue(q:ps.Nodup){j:Nat}(a:ps[i]?=some x)(b:ps[j]?=some x):i=j:=by
 obtain⟨n,g⟩:=gD.mp a;obtain⟨h2,l⟩:=gD.mp b;exact(List.getElem_inj q).mp (g.trans l.symm)
theorem zQ{M:Model}{v:V}(I:Inv X U Z H s)(hN:X.N.Nodup)(hi:X.N[i]?=some x)(hx:Loc X.env.scope x)(r:RelV v af)
  (h:∀s',Inv X U (Z.set i (some v)) H s'->(∃a,Heap.SameBut a s.heap s'.heap/\(a=X.env.locals\/X.env.cells.lookup x=some a))->ae () s') (hf:zr X x:=by first|exact .inl rfl|exact .inr rfl|assumption):wpAny M A (storeName X.env x af) ae E s:=by
 obtain⟨m,hn,hl⟩:=id I.loc;have A6:(X.env.scope.kind== .class||(X.env.scope.kind== .module&&X.env.locals !=X.env.globals))=false:=by rw[I.ok.kind];rfl
 have VM:i<Z.length:=by rw[I.len];exact(gD.mp hi).1
 have Ig:=I.Ig;have tracked:∀{a:Addr} {h':Heap},(∃o,s.heap.get? a=some o/\H a=none)->Heap.SameBut a s.heap h'->sA X.prog X.w H h':=λ{a h'} ha hs b ob e=>by
  obtain⟨_,_,Gk⟩:=ha;refine(I.cW b ob e).pQ (λc w' l q=>(hs.2 c ?_).trans q) (λ_ q=>q) λ_ _ q=>q
  rintro rfl
  rcases l with rfl|l
  ·rw[Gk]at e;cases e
  ·rw[Gk]at l;cases l
 rcases hx with S|S
 ·refine wpAny_storeName_local S hn (λh' Qh hs=>?_) A6;obtain⟨oL,_,_,Gm,_⟩:=id hn;refine h _ ⟨I.ok,I.os,I.bare,⟨λb o e n hb hx=>?_,λb o e n hb hx=>?_,I.base.free,λb o e hx=>?_,I.base.m4,I.base.lK,I.base.nU⟩,⟨_,Qh,λj y v' g L e3=>?_⟩,λy c e=>?_,I.free,I.gq,λp hp=>?_,tracked ⟨oL,Gm,I.free⟩ hs,by simpa using I.len⟩ ⟨_,hs,.inl rfl⟩
  ·exact(hs.2 b (cf (dc (bz e) I.ok.above))).trans (I.base.keep b o e n hb hx)
  ·obtain⟨sl,g⟩:=I.base.slot b o e n hb hx;exact⟨sl,(hs.2 b (cf (dc (bz e) I.ok.above))).trans g⟩
  ·obtain⟨o',g⟩:=I.base.there b o e hx;exact⟨o',(hs.2 b (cf (dc (bz e) I.ok.above))).trans g⟩
  ·by_cases hj:j=i
   ·subst hj;rw[hi]at g;cases g;rw[pb VM]at L;cases L;exact⟨af,r,.inl ⟨S,by simp⟩⟩
   ·rw[mK (Ne.symm hj)]at L;obtain⟨u',r',q⟩:=hl j y v' g L e3;refine⟨u',r',?_⟩;rcases q with⟨k,e⟩|⟨k,c,e,z⟩
    ·refine .inl ⟨k,?_⟩;have:y≠x:=λe=>hj (ue hN g (e▸hi));simp[this,e]
    ·exact .inr ⟨k,c,e,z.sameBut hs (Ig y c e)⟩
  ·obtain⟨w',z⟩:=I.cell y c e;exact⟨w',z.sameBut hs (Ig y c e)⟩
  ·obtain⟨e,n,ne,nf,d⟩:=I.pin p hp;exact⟨(hs.2 p.1 ne).trans e,n,ne,nf,d⟩
 ·have Nz:X.fn x=true:=by
   rcases hf with z|z
   ·exact z
   ·rw[z]at S;cases S
  obtain⟨c,l⟩:=I.ok.has x (.inl S);obtain⟨w',z⟩:=I.cell x c l;refine wpAny_storeName_cell I.ok.kind S l z (λh' VN hs=>?_);obtain⟨oc,RC,aaf⟩:=id z;refine h {s with heap:=h'} ⟨I.ok,I.os,I.bare,⟨λb o e n hb hx=>?_,λb o e n hb hx=>?_,I.base.free,λb o e hx=>?_,I.base.m4,I.base.lK,I.base.nU⟩,⟨m,hn.sameBut hs (Ne.symm (Ig x c l)),λj y v' g L e3=>?_⟩,λy c' e=>?_,I.free,I.gq,λp hp=>?_,tracked ⟨oc,RC,I.gq x c l⟩ hs,by simpa using I.len⟩ ⟨c,hs,.inr l⟩
  ·exact(hs.2 b (cf (dc (bz e) (I.ok.Qg x c Nz l)))).trans (I.base.keep b o e n hb hx)
  ·obtain⟨sl,g⟩:=I.base.slot b o e n hb hx;exact⟨sl,(hs.2 b (cf (dc (bz e) (I.ok.Qg x c Nz l)))).trans g⟩
  ·obtain⟨o',g⟩:=I.base.there b o e hx;exact⟨o',(hs.2 b (cf (dc (bz e) (I.ok.Qg x c Nz l)))).trans g⟩
  ·by_cases hj:j=i
   ·subst hj;rw[hi]at g;cases g;rw[pb VM]at L;cases L;exact⟨af,r,.inr ⟨.inl S,c,l,VN⟩⟩
   ·rw[mK (Ne.symm hj)]at L;obtain⟨u',r',q⟩:=hl j y v' g L e3;refine⟨u',r',?_⟩;rcases q with q|⟨k,c',e,z'⟩
    ·exact .inl q
    ·refine .inr ⟨k,c',e,z'.sameBut hs ?_⟩
     rintro rfl
     exact hj (ue hN g (I.ok.inj _ _ _ e l▸hi))
  ·by_cases hcc:c'=c
   ·subst hcc;exact⟨_,VN⟩
   ·obtain⟨w2,z2⟩:=I.cell y c' e;exact⟨w2,z2.sameBut hs hcc⟩
  ·obtain⟨e,n,ne,nf,d⟩:=I.pin p hp;refine⟨(hs.2 p.1 ?_).trans e,n,ne,nf,d⟩;intro q;rw[q,RC]at e;have q':oc=p.2:=Option.some.inj e;exact d w' (by rw[<-q'];exact aaf)
def xV{M:Model}{v:V}(I:Inv X U Z H s)(q:X.N.Nodup)(hi:X.N[i]?=some x)(hx:Loc X.env.scope x)(r:RelV v af)
  (h:∀s',Inv X U (Z.set i (some v)) H s'->ae () s') (hf:zr X x:=by first|exact .inl rfl|exact .inr rfl|assumption):wpAny M A (storeName X.env x af) ae E s:=
 zQ I q hi hx r (λs' b _=>h s' b) hf
def Inv.VO {s':Shared}{ch:List Addr}(I:Inv X U Z H s)(q:s'.os=s.os)(u:Un (j8 X.stack) ch H H' s.heap s'.heap)(cW:sA X.prog X.w H' s'.heap)(hg:AllBare s'.gens)
  (zP:∀b∈ch,(b∈X.ex\/X.gH.heap.objs.size<=b)/\b≠X.env.locals/\(∀x c,X.env.cells.lookup x=some c->c≠b)/\∀p∈X.pn++U,p.1≠b):Inv X U Z H' s':=by
 obtain⟨h',g',d',t',o'⟩:=s';have e:o'=s.os:=q;subst e;exact I.call (g':=g') (t':=t') (d':=d') u cW hg zP
end
abbrev XK:=Value->Option Addr->Hp->Prop
abbrev St:=List (Option V)
variable {Z:St}
abbrev VK:=V->Hp->Prop
abbrev TE:=St->Hp->VK->Prop
abbrev TT:=St->Hp->(Bool->Hp->Prop)->Prop
abbrev TA:=St->Hp->(List V->Hp->Prop)->Prop
structure Ends where
 nx:St->Hp->Prop
 rt:VK
 bk:St->Hp->Prop:=fun _ _=>False
 ct:St->Hp->Prop:=fun _ _=>False
abbrev TS:=Ends->St->Hp->Prop
def EP(X:Cx)(U:List (Addr×Obj))(Z:St)(Q:VK)(u:Value)(s':Shared):Prop:=∃v H',Inv X U Z H' s'/\RelV v u/\Q v H'
def TP(X:Cx)(U:List (Addr×Obj))(Z:St)(Q:Bool->Hp->Prop)(b:Bool)(s':Shared):Prop:=∃H',Inv X U Z H' s'/\Q b H'
def AP(X:Cx)(U:List (Addr×Obj))(Z:St)(Q:List V->Hp->Prop)(us:List Value)(s':Shared):Prop:=∃vs H',Inv X U Z H' s'/\Vals vs us/\Q vs H'
def SP(X:Cx)(U:List (Addr×Obj))(D:Ends)(f:Flow)(s':Shared):Prop:=
 match f with
 |.next=>∃b H',Inv X U b H' s'/\D.nx b H'
 |.brk=>∃b H',Inv X U b H' s'/\D.bk b H'
 |.cont=>∃b H',Inv X U b H' s'/\D.ct b H'
 |.ret u=>∃v b H',Inv X U b H' s'/\RelV v u/\D.rt v H'
def PE(X:Cx)(e:Expr)(t:TE):Prop:=
 ∀(U:List (Addr×Obj)) (s:Shared) (Z:St) (H:Hp) (Q:VK),Inv X U Z H s->t Z H Q->wpAny (model X.prog X.w) X.A (eval e X.env) (EP X U Z Q) X.xe s
def PT(X:Cx)(e:Expr)(t:TT):Prop:=
 ∀(U:List (Addr×Obj)) (s:Shared) (Z:St) (H:Hp) (Q:Bool->Hp->Prop),Inv X U Z H s->t Z H Q->wpAny (model X.prog X.w) X.A (isTrue e X.env (eval e X.env)) (TP X U Z Q) X.xe s
def PW(X:Cx)(e:Expr)(t:TT):Prop:=
 ∀(whole:Sem Value) (U:List (Addr×Obj)) (s:Shared) (Z:St) (H:Hp) (Q:Bool->Hp->Prop),Inv X U Z H s->t Z H Q->wpAny (model X.prog X.w) X.A (isTrue e X.env whole) (TP X U Z Q) X.xe s
def PW.pt {t:TT}(h:PW X e t):PT X e t:=h _
def PA(X:Cx)(es:List Expr)(t:TA):Prop:=
 ∀(pos:Pos) (U:List (Addr×Obj)) (s:Shared) (Z:St) (H:Hp) (Q:List V->Hp->Prop),Inv X U Z H s->t Z H Q->wpAny (model X.prog X.w) X.A (spliced (backTo pos (starEach es X.env))) (AP X U Z Q) X.xe s
def PS(X:Cx)(st:Stmt)(t:TS):Prop:=
 ∀(U:List (Addr×Obj)) (s:Shared) (Z:St) (H:Hp) (D:Ends),Inv X U Z H s->t D Z H->wpAny (model X.prog X.w) X.A (exec st X.env) (SP X U D) X.xe s
def o6(X:Cx)(st:List Stmt)(t:TS):Prop:=
 ∀(U:List (Addr×Obj)) (s:Shared) (Z:St) (H:Hp) (D:Ends),Inv X U Z H s->t D Z H->wpAny (model X.prog X.w) X.A (execs st X.env) (SP X U D) X.xe s
def eN{t:Sem ag}{Q q:ag->Shared->Prop}{M:Model}(h:wpAny M A t Q E s)(hQ:∀a s,Q a s->q a s):wpAny M A t q E s:=ee h hQ λ_ _ x=>x
section
def aag(i:Nat):TE:=λZ H Q=>∃v,Z[i]?=some (some v)/\Q v H
def tC(v:V):TE:=λ_ H Q=>Q v H
theorem RD(q:X.N[i]?=some x)(hv:ZN X.env.scope x)(hd:Db x:=by decide) (EL:(x==("__classdict__":Str))=false:=by decide):PE X (.Name x pos) (aag i):=by
 intro U s Z H Q I h;obtain⟨v,e,h⟩:=h;obtain⟨m,hn,L⟩:=I.loc;obtain⟨u,r,l⟩:=L i x v q e hv;have fin:EP X U Z Q u s:=⟨v,H,I,r,h⟩;rcases l with⟨b,hm⟩|⟨b,c,g,n⟩
 ·exact wpAny_Name (wpAny_loadName_local I.ok.kind b hn hm fin) hd
 ·rcases b with b|b
  ·exact wpAny_Name (wpAny_loadName_cell I.ok.kind b g n fin) hd
  ·exact wpAny_Name (wpAny_loadName_free I.ok.kind b g n fin EL) hd
def RE{i j pos}:PE X (.Constant (.int i) j pos) (tC (.int i)):=λ_ _ _ H _ I h=>wpAny_Constant_int ⟨.int i,H,I.tok _,⟨_,rfl⟩,h⟩
def VP{b j pos}:PE X (.Constant (.bool b) j pos) (tC (.bl b)):=λ_ _ _ H _ I h=>Constant_bool ⟨.bl b,H,I,rfl,h⟩
def RF{j pos}:PE X (.Constant .none j pos) (tC .cA):=λ_ _ _ H _ I h=>Constant_none ⟨.cA,H,I,rfl,h⟩
def RG{x j pos}:PE X (.Constant (.str x) j pos) (tC (.str x)):=λ_ _ _ H _ I h=>Calls.Constant_str ⟨.str x,H,I.tok _,⟨_,rfl⟩,h⟩
def Gl(X:Cx)(x:Str):Prop:=X.env.kindOf x=some .globalImplicit
def qV(I:Inv X U Z H s)(q:Gl X x)(hm:X.mg x=some af)(h:Q af s)
  (hd:Db x:=by decide):wpAny (model X.prog X.w) X.A (eval (.Name x pos) X.env) Q E s:=
 xl I.ok.kind q (Calls.loadGlobal_global (by rw[I.ok.glob];exact I.mod.glob.keeps I.bk) hm h) hd
def vg{u:Value}(I:Inv X U Z H s)(q:Gl X x)(hm:X.mg x=none)(hv:bootBuiltins x=some u)(h:Q u s)
  (hn:x≠"__name__":=by decide) (hd:Db x:=by decide):wpAny (model X.prog X.w) X.A (eval (.Name x pos) X.env) Q E s:=by
 obtain⟨b,h1,h2⟩:=I.mod.blt;exact xl I.ok.kind q (Calls.loadGlobal_builtin (by rw[I.ok.glob];exact I.mod.glob.keeps I.bk) hm (by rw[I.ok.blt];exact h1.keeps I.bk) ((h2 x hn).trans hv) h) hd
def A7{v:V}(q:Gl X x)(hm:X.mg x=some af)(r:RelV v af)(hd:Db x:=by decide):PE X (.Name x pos) (tC v):=
 λ_ _ _ H _ I h=>qV I q hm ⟨v,H,I,r,h⟩ hd
def Gn{v:V}(q:Gl X x)(hm:X.mg x=none)(hv:bootBuiltins x=some af)(r:RelV v af)(hn:x≠"__name__":=by decide) (hd:Db x:=by decide):PE X (.Name x pos) (tC v):=
 λ_ _ _ H _ I h=>vg I q hm hv ⟨v,H,I,r,h⟩ hn hd
variable {a b:Expr}{ta tb:TE}
variable {tA ZO:TT}{c9:List Expr}
def aah(t u:TT):TT:=λZ H Q=>t Z H λc H1=>if c=true then u Z H1 Q else Q false H1
def tOr(t u:TT):TT:=λZ H Q=>t Z H λc H1=>if c=true then Q true H1 else u Z H1 Q
def aai(t:TT):TT:=λZ H Q=>t Z H λc H1=>Q (!c) H1
theorem pw_and1(q:PT X a tA):PW X (.BoolOp .And [a] pos) tA:=by
 intro wh U s Z H Q I h;refine isTrue_and (eN (q U s Z H Q I h) λc s1 e=>?_);cases c with
 |true=>exact isTrue_and_nil e
 |false=>exact e
theorem pw_or1(q:PT X a tA):PW X (.BoolOp .Or [a] pos) tA:=by
 intro wh U s Z H Q I h;refine isTrue_or (eN (q U s Z H Q I h) λc s1 e=>?_);cases c with
 |false=>exact isTrue_or_nil e
 |true=>exact e
theorem pw_and(q:PT X a tA)(hb:PW X (.BoolOp .And (b::c9) pos) ZO):PW X (.BoolOp .And (a::b::c9) pos) (aah tA ZO):=by
 intro wh U s Z H Q I h;refine isTrue_and (eN (q U s Z H _ I h) λc s1 ⟨H1,g,l⟩=>?_);cases c with
 |true=>exact hb wh U s1 Z H1 Q g l
 |false=>exact⟨H1,g,l⟩
theorem pw_or(q:PT X a tA)(hb:PW X (.BoolOp .Or (b::c9) pos) ZO):PW X (.BoolOp .Or (a::b::c9) pos) (tOr tA ZO):=by
 intro wh U s Z H Q I h;refine isTrue_or (eN (q U s Z H _ I h) λc s1 ⟨H1,g,l⟩=>?_);cases c with
 |true=>exact⟨H1,g,l⟩
 |false=>exact hb wh U s1 Z H1 Q g l
theorem Ka(q:PT X a tA):PT X (.UnaryOp .Not a pos) (aai tA):=by
 intro U s Z H Q I h;exact isTrue_not (q U s Z H (λc H1=>Q (!c) H1) I h)
theorem RH{op}{t:TE}(h:PE X a t):PE X (.BoolOp op [a] pos) t:=λU s Z H Q I hw=>BoolOp_one (h U s Z H Q I hw)
def tIf(t:TT)(ta tb:TE):TE:=λZ H Q=>t Z H λc H1=>if c=true then ta Z H1 Q else tb Z H1 Q
theorem Kb(q:PT X e tA)(ha:PE X a ta)(hb:PE X b tb):PE X (.IfExp e a b pos) (tIf tA ta tb):=by
 intro U s Z H Q I h;refine wpAny_IfExp (eN (q U s Z H _ I h) λd s1 ⟨H1,g,l⟩=>?_);cases d with
 |true=>exact ha U s1 Z H1 Q g l
 |false=>exact hb U s1 Z H1 Q g l
end
def lT(K:Frag)(H:Hp)(a:Addr)(xs:List V):Prop:=
 Rd H a (.lst xs)\/
  ∃(o:Obj) (cy:Array Value) (n:Nat),K.lookup a=some o/\o.cls=.type "list"/\o.dict=none/\o.data=.seq cy n/\cy.size<=sizeLine/\Vals xs cy.toList
def ju(K:Frag)(H:Hp)(a:Addr)(xs:List V):Prop:=
 Rd H a (.tup xs)\/
  ∃(o:Obj) (cy:Array Value) (n:Nat),K.lookup a=some o/\o.cls=.type "tuple"/\o.data=.seq cy n/\cy.size<=sizeLine/\Vals xs cy.toList
noncomputable def aaj:Value->Option V
 |.none=>some .cA
 |.bool b=>some (.bl b)
 |.int i _=>some (.int i)
 |.str x _=>some (.str x)
 |.bytes b _=>some (.Qd b)
 |.float b _=>some (.zq b)
 |.ref a=>some (.ref a)
 |.type n=>some (.ty n)
 |_=>none
def RelV.abs {x:V}{u:Value}(r:RelV x u):aaj u=some x:=by
 cases x with
 |cA=>cases r;rfl
 |bl _=>cases r;rfl
 |int _=>obtain⟨t,rfl⟩:=r;rfl
 |str _=>obtain⟨t,rfl⟩:=r;rfl
 |Qd _=>obtain⟨t,rfl⟩:=r;rfl
 |zq _=>obtain⟨t,rfl⟩:=r;rfl
 |_=>cases r;rfl
theorem RelV.inj {x y:V}{u:Value}(r:RelV x u)(q:RelV y u):x=y:=Option.some.inj (r.abs.symm.trans q.abs)
theorem Vals.inj:∀{xs ys:List V} {us:List Value},Vals xs us->Vals ys us->xs=ys
 |_,_,_,.nil,.nil=>rfl
 |_,_,_,.cons r t,.cons b t'=>by rw[r.inj b,Vals.inj t t']
section
variable {xs ys:List V}
def lT.of (h:H a=some (.lst xs)):lT K H a xs:=.inl (.inl h)
def ju.of (h:H a=some (.tup xs)):ju K H a xs:=.inl (.inl h)
def Inv.list (I:Inv X U Z H s)(h:lT X.K H a xs):∃cy:List Value,Vals xs cy/\PlainL s.heap a cy.toArray/\xs.length<=sizeLine:=by
 rcases h with h|⟨o,cy,n,b,g,hd,hs,hz,r⟩
 ·obtain⟨z,cy,n,r,e⟩:=h.ok I.cW;exact⟨cy,r,⟨_,n,e,rfl,rfl,rfl⟩,z⟩
 ·refine⟨cy.toList,r,⟨o,n,I.ml a o b,g,hd,by simpa using hs⟩,?_⟩;have e:=r.length;simp only[gE]at e;omega
def Inv.tuple (I:Inv X U Z H s)(h:ju X.K H a xs):∃cy:List Value,Vals xs cy/\IsTup s.heap a cy.toArray/\xs.length<=sizeLine:=by
 rcases h with h|⟨o,cy,n,b,g,hs,hz,r⟩
 ·obtain⟨z,cy,r,p⟩:=h.ok I.cW;exact⟨cy,r,p,z⟩
 ·refine⟨cy.toList,r,⟨o,I.ml a o b,g,n,by simpa using hs⟩,?_⟩;have e:=r.length;simp only[gE]at e;omega
theorem Inv.Kc (I:Inv X U Z H s)(h:lT X.K H a xs)(h':lT X.K H a ys):xs=ys:=by
 obtain⟨cy,r,⟨o,n,e,_,_,d⟩,_⟩:=I.list h;obtain⟨uf,g,⟨o',L,b,_,_,d'⟩,_⟩:=I.list h';rw[e]at b;cases b;rw[d]at d';injection d' with l _
 have:cy=uf:=by simpa using cV Array.toList l
 subst this;exact r.inj g
theorem Inv.qW (I:Inv X U Z H s)(h:ju X.K H a xs)(h':ju X.K H a ys):xs=ys:=by
 obtain⟨cy,r,⟨o,e,_,n,d⟩,_⟩:=I.tuple h;obtain⟨uf,g,⟨o',b,_,L,d'⟩,_⟩:=I.tuple h';rw[e]at b;cases b;rw[d]at d';injection d' with l _
 have:cy=uf:=by simpa using cV Array.toList l
 subst this;exact r.inj g
end
noncomputable abbrev Cx.zw (X:Cx)(E:Value->Shared->Prop):Cx:={X with xe:=E}
abbrev Cx.JU (X:Cx):Cx:=X.zw fun _ _=>False
theorem Cx.Ok.zw (ok:X.Ok)(E:Value->Shared->Prop):(X.zw E).Ok:=
 ⟨ok.mod,ok.kind,ok.glob,ok.blt,ok.above,ok.inj,ok.has,ok.Qg,ok.hd,ok.frames,ok.Ni,ok.Vc,ok.bs,ok.Ie,ok.AZ,ok.CM,ok.rK,ok.J8⟩
def Cx.Ok.pR (ok:(X.zw E).Ok):X.Ok:=
 ⟨ok.mod,ok.kind,ok.glob,ok.blt,ok.above,ok.inj,ok.has,ok.Qg,ok.hd,ok.frames,ok.Ni,ok.Vc,ok.bs,ok.Ie,ok.AZ,ok.CM,ok.rK,ok.J8⟩
theorem Inv.zw (I:Inv X U Z H s)(E:Value->Shared->Prop):Inv (X.zw E) U Z H s:=⟨I.ok.zw E,I.os,I.bare,I.base,I.loc,I.cell,I.free,I.gq,I.pin,I.cW,I.len⟩
theorem Inv.pR (I:Inv (X.zw E) U Z H s):Inv X U Z H s:=⟨I.ok.pR,I.os,I.bare,I.base,I.loc,I.cell,I.free,I.gq,I.pin,I.cW,I.len⟩
theorem SP.pR {D:Ends}{f:Flow}{s':Shared}(h:SP (X.zw E) U D f s'):SP X U D f s':=by
 cases f with
 |next=>obtain⟨dB,H',I,q⟩:=h;exact⟨dB,H',I.pR,q⟩
 |brk=>obtain⟨dB,H',I,q⟩:=h;exact⟨dB,H',I.pR,q⟩
 |cont=>obtain⟨dB,H',I,q⟩:=h;exact⟨dB,H',I.pR,q⟩
 |ret u=>obtain⟨v,dB,H',I,r,q⟩:=h;exact⟨v,dB,H',I.pR,r,q⟩
theorem o6.JU {st:List Stmt}{t:TS}(h:o6 X.JU st t):o6 X st t:=λU s Z H D I hw=>
 ee (h U s Z H D (I.zw _) hw) (λ_ _ q=>q.pR) λ_ _ z=>False.elim z
section
variable {t u:TS}{te:TE}
def VQ:TS:=λD Z H=>D.nx Z H
def aak(t u:TS):TS:=λD Z H=>t {D with nx:=u D} Z H
theorem Gp:o6 X [] VQ:=λ_ _ Z H _ I h=>t8 ⟨Z,H,I,h⟩
theorem CN(h1:PS X ai t)(h2:o6 X ah u):o6 X (ai::ah) (aak t u):=by
 intro U s Z H D I h;refine wpAny_execs_cons (eN (h1 U s Z H {D with nx:=u D} I h) λf s1 q=>?_);cases f with
 |next=>
  obtain⟨b,H',g,q⟩:=q;exact h2 U s1 b H' D g q
 |_=>exact q
theorem Gq(h1:PS X ai t):o6 X [ai] t:=by
 intro U s Z H D I h;refine wpAny_execs_cons (eN (h1 U s Z H D I h) λf s1 q=>?_);cases f with
 |next=>exact t8 q
 |_=>exact q
def Inv.quiet (I:Inv X U Z H s):interactive X.env=false:=by simp[interactive,I.ok.kind]
def VR(te:TE):TS:=λD Z H=>te Z H λ_ H1=>D.nx Z H1
theorem NA(he:PE X e te)(hs:swapsWith e none pos.line X.env=pure false:=by rfl):PS X (.Expr e pos) (VR te):=by
 intro U s Z H D I h;exact wpAny_Expr_any (eN (he U s Z H _ I h) λv s1 ⟨x,H1,b,r1,g⟩=>⟨Z,H1,b,g⟩) I.quiet hs
def aal(te:TE):TS:=λD Z H=>te Z H D.rt
theorem Kd(he:PE X e te):PS X (.Return (some e) pos) (aal te):=by
 intro U s Z H D I h;exact wpAny_Return_some (eN (he U s Z H _ I h) λv s1 ⟨x,H1,b,r1,g⟩=>⟨x,Z,H1,b,r1,g⟩)
def VS:TS:=λD _ H=>D.rt .cA H
theorem NB:PS X (.Return none pos) VS:=λ_ _ Z H _ I h=>wpAny_Return_none ⟨.cA,Z,H,I,rfl,h⟩
def aam(c:TT)(t u:TS):TS:=λD Z H=>c Z H λb H1=>if b=true then t D Z H1 else u D Z H1
theorem Qj{tc:TT}(q:PT X e tc)(ha:o6 X ah t)(hb:o6 X aj u):PS X (.If e ah aj pos) (aam tc t u):=by
 intro U s Z H D I h;refine wpAny_If (eN (q U s Z H _ I h) λd s1 ⟨H1,b,g⟩=>?_);cases d with
 |true=>exact ha U s1 Z H1 D b g
 |false=>exact hb U s1 Z H1 D b g
end
abbrev TG:=V->St->Hp->(St->Hp->Prop)->Prop
abbrev RI:=List V->St->Hp->(St->Hp->Prop)->Prop
def PG(X:Cx)(target:Expr)(t:TG):Prop:=
 ∀(U:List (Addr×Obj)) (s:Shared) (Z:St) (H:Hp) (v:V) (u:Value) (Q:St->Hp->Prop),Inv X U Z H s->RelV v u->t v Z H Q->
  wpAny (model X.prog X.w) X.A (assign target X.env u) (λ_ s'=>∃b H',Inv X U b H' s'/\Q b H') X.xe s
def NC(X:Cx)(ts:List Expr)(t:RI):Prop:=
 ∀(U:List (Addr×Obj)) (s:Shared) (Z:St) (H:Hp) (vs:List V) (us:List Value) (Q:St->Hp->Prop),Inv X U Z H s->Vals vs us->t vs Z H Q->
  wpAny (model X.prog X.w) X.A (assignInOrder ((assignEach ts X.env).map (·.2)) us) (λ_ s'=>∃b H',Inv X U b H' s'/\Q b H') X.xe s
def Qk(i:Nat):TG:=λv Z H Q=>Q (Z.set i (some v)) H
theorem Gr(q:X.N.Nodup)(hi:X.N[i]?=some x)(hx:Loc X.env.scope x)(hf:zr X x:=by first|exact .inl rfl|exact .inr rfl|assumption):PG X (.Name x pos) (Qk i):=by
 intro U s Z H v u Q I r h;exact wpAny_assign_Name (xV I q hi hx r (λs' b=>⟨_,H,b,h⟩) hf)
def aan:RI:=λvs Z H Q=>vs=[]/\Q Z H
def VT(t:TG)(u:RI):RI:=λvs Z H Q=>∃v r,vs=v::r/\t v Z H λb H'=>u r b H' Q
theorem ND:NC X [] aan:=by
 intro U s Z H vs us Q I r h;obtain⟨e,h⟩:=h;subst e;cases r;exact assignInOrder_nil ⟨Z,H,I,h⟩
theorem Ke{t:TG}{u:RI}(q:PG X e t)(h2:NC X es u)
  (hs:(assignEach (e::es) X.env).map (·.2)=assign e X.env::(assignEach es X.env).map (·.2):=by rfl):NC X (e::es) (VT t u):=by
 intro U s Z H vs us Q I r h;obtain⟨v,M,b,h⟩:=h;subst b;cases r with
 |cons r g=>
  rw[hs];refine assignInOrder_cons (eN (q U s Z H _ _ _ I r h) λ_ s1 ⟨l,H1,n,L⟩=>?_);exact h2 U s1 l H1 _ _ Q n g L
def aao(K:Frag)(n:Nat)(t:RI):TG:=λv Z H Q=>∃a xs,v=.ref a/\ju K H a xs/\xs.length=n/\t xs Z H Q
theorem RJ{t:RI}{n:Nat}(q:X.calm=true)(h:NC X es t)
  (hn:(assignEach es X.env).length=n:=by rfl) (cJ:(assignEach es X.env).findIdx? (·.1)=none:=by rfl):PG X (.Tuple es i pos) (aao X.K n t):=by
 intro U s Z H v u Q I r hw;obtain⟨a,xs,g,l,L,hw⟩:=hw;subst g;cases r;obtain⟨cy,rv,M,hz⟩:=I.tuple l;refine assign_Tuple_tuple (I.ok.hd q) M (by simp[hn,<-L,rv.length]) cJ λh' S=>?_
 have I1:Inv X U Z H {s with heap:=h'}:=I.kept (t':=s.toks) λb o e=>S b o (cf (bz e)) e;exact h U _ Z H xs _ Q I1 (by simpa using rv) hw
def VU(te:TE)(g:TG):TS:=λD Z H=>te Z H λx H1=>g x Z H1 D.nx
theorem Kf{te:TE}{g:TG}(he:PE X e te)(hg:PG X tg g)(hs:swapsWithSole [tg] e pos.line X.env=pure false:=by rfl) (hw:swappedStores [tg] e X.env=pure none:=by rfl)
  (h1:(assignEach [tg] X.env).map (·.2)=[assign tg X.env]:=by rfl):PS X (.Assign [tg] e pos) (VU te g):=by
 intro U s Z H D I h;refine wpAny_Assign_stores (eN (he U s Z H _ I h) λv s1 ⟨x,H1,b,r1,l⟩=>?_) hs hw;rw[h1];exact eN (hg U s1 Z H1 x v _ b r1 l) λ_ s2 q=>q
theorem Kg{te:TE}(q:X.N.Nodup)(hi:X.N[i]?=some x)(hx:Loc X.env.scope x)(he:PE X e te)(hs:swapsWith e (some (.Name x p)) pos.line X.env=pure false:=by rfl) (hf:zr X x:=by first|exact .inl rfl|exact .inr rfl|assumption):
  PS X (.Assign [.Name x p] e pos) (VU te (Qk i)):=by
 intro U s Z H D I h;refine wpAny_Assign_Name (eN (he U s Z H _ I h) λv s1 ⟨y,H1,b,r1,g⟩=>?_) hs;exact xV b q hi hx r1 (λs2 l=>⟨_,H1,l,g⟩) hf
structure It where
 go:Nat->Hp->Prop
 Gs:Nat->Hp->V->Hp->Prop
 stop:Nat->Hp->Prop
def kY(X:Cx)(U:List (Addr×Obj))(H:Hp)(b:Addr):Prop:=
 H b=none/\b≠X.env.locals/\b∉X.fs/\(b∈X.ex\/X.gH.heap.objs.size<=b)/\(∀x c,X.env.cells.lookup x=some c->c≠b)/\∀p∈X.pn++U,p.1≠b
def Inv.xW {H':Hp}{b:Addr}(I:Inv X U Z H s)(hb:s.heap.objs.size<=b)(hn:H' b=none):kY X U H' b:=by
 refine⟨hn,dN (dc I.lt hb),I.VL hb,.inr (cB I.sz hb),λx c e z=>?_,λp hp z=>?_⟩
 ·obtain⟨v,q⟩:=I.cell x c e;exact absurd (dc q.lt (by rw[z];exact hb)) (eZ _)
 ·exact absurd (dc (bz (I.pin p hp).1) (by rw[z];exact hb)) (eZ _)
structure Turn(P:Program)(w:World)(K:Frag)(tg:Expr)(J:It)(fp:List Addr)(it:Addr)(tn:Nat->Heap->Prop):Prop where
 mem:it∈fp
 obj:∀i h,tn i h->∀b∈fp,∃o,h.get? b=some o/\∀v,o.data≠ .cell v
 keep:∀i h h',tn i h->(∀b∈fp,∀o,h.get? b=some o->h'.get? b=some o)->tn i h'
 item:∀(X:Cx),X.prog=P->X.w=w->X.K=K->X.calm=true->∀(i:Nat) (U:List (Addr×Obj)) (s:Shared) (Z:St) (H:Hp) (E:Value->Shared->Prop),Inv X U Z H s->(∀b∈fp,kY X U H b)->tn i s.heap->J.go i H->
  wpAny (model P w) X.A (pyNext (.ref it)) (fun r s1=>∃u,r=some u/\
   wpAny (model P w) X.A (letOwnedTupleGo tg (.ref it) u) (fun _ s2=>∃x H',Inv X U Z H' s2/\RelV x u/\J.Gs i H x H'/\tn (i+1) s2.heap/\∀b∈fp,H' b=none) E s1) E s
 done:∀(X:Cx),X.prog=P->X.w=w->X.K=K->X.calm=true->∀(i:Nat) (U:List (Addr×Obj)) (s:Shared) (Z:St) (H:Hp) (E:Value->Shared->Prop),Inv X U Z H s->(∀b∈fp,kY X U H b)->tn i s.heap->J.stop i H->
  wpAny (model P w) X.A (pyNext (.ref it)) (fun r s1=>r=none/\Inv X U Z H s1) E s
 self:∀(A:Around) (i:Nat) (s:Shared) (Q:Value->Shared->Prop) (E:Value->Shared->Prop),tn i s.heap->Q (.ref it) s->wpAny (model P w) A (pyIter (.ref it)) Q E s
abbrev TI:=St->Hp->(It->Hp->Prop)->Prop
def ZQ(X:Cx)(U:List (Addr×Obj))(Z:St)(tg:Expr)(R:It->Hp->Prop)(q:Value)(s2:Shared):Prop:=
 ∃(it:Addr) (fp:List Addr) (tn:Nat->Heap->Prop) (J:It) (H':Hp),q=.ref it/\Inv X U Z H' s2/\Turn X.prog X.w X.K tg J fp it tn/\tn 0 s2.heap/\(∀b∈fp,kY X U H' b)/\R J H'
def PI(X:Cx)(tg c5:Expr)(q:TI):Prop:=
 ∀(U:List (Addr×Obj)) (s:Shared) (Z:St) (H:Hp) (R:It->Hp->Prop),Inv X U Z H s->q Z H R->
  wpAny (model X.prog X.w) X.A (eval c5 X.env) (λv s1=>wpAny (model X.prog X.w) X.A (pyIter v) (ZQ X U Z tg R) X.xe s1) X.xe s
def zR{M:Model}{s:Shared}{o:Obj}{n:String}(ho:s.heap.get? a=some o)(hc:o.cls=.type n)(hd:o.data=.fields ak)
  (hn:["enumerate","zip","dict_itemiterator","dict_reverseitemiterator","odict_iterator","itertools.zip_longest","itertools.pairwise"].contains n=false) (q:ae () s):wpAny M A (letOwnedTupleGo tg (.ref a) af) ae E s:=by
 unfold letOwnedTupleGo;cases tg<;>first
  |exact bg q
  |(cases af<;>first
    |exact bg q
    |(refine aU (pO ho ?_)
      rw[hc,hd];show wpAny M A (if(["enumerate","zip","dict_itemiterator","dict_reverseitemiterator","odict_iterator","itertools.zip_longest","itertools.pairwise"].contains n&&ak[0]?==some (rawInt _))=true then _ else _) ae E s;rw[bc (by intro h;rw[hn,xK]at h;cases h)];exact bg q))
def Itl(K:Frag)(a:Addr):It:=
 ⟨λi H=>∃xs x,lT K H a xs/\xs[i]?=some x,λi H x H'=>H'=H/\∀xs,lT K H a xs->xs[i]?=some x,λi H=>∃xs,lT K H a xs/\xs.length<=i⟩
def Itt(K:Frag)(a:Addr):It:=
 ⟨λi H=>∃xs x,ju K H a xs/\xs[i]?=some x,λi H x H'=>H'=H/\∀xs,ju K H a xs->xs[i]?=some x,λi H=>∃xs,ju K H a xs/\xs.length<=i⟩
def ZU(lo:Int)(n:Nat):It:=⟨λi _=>i<n,λi H x H'=>H'=H/\x=.int (lo+i),λi _=>n<=i⟩
theorem zS(a it:Addr):Turn P w K tg (Itl K a) [it] it (λi h=>h.IsListIter it a i) where
 mem:=by simp
 obj:=λi h st b hb=>by
  have e:b=it:=by simpa using hb
  subst e;obtain⟨o,e,c,d⟩:=st;exact⟨o,e,λv z=>by rw[d]at z;cases z⟩
 keep:=λi h h' st k=>st.at λo e=>k it (by simp) o e
 item:=by
  intro X l hw n q i U s Z H E I hf st r;subst l hw n;obtain⟨xs,x,g,L⟩:=r;obtain⟨cy,rv,p,hz⟩:=I.list g;obtain⟨u,hu,ru⟩:=rv.get L;obtain⟨f0,f1,f2,M,f4,S⟩:=hf it (by simp);refine wpAny_pyNext_list_item st p.isList (x:=u) (by simpa using hu) λh' xX sb=>?_
  have I1:Inv X U Z H {s with heap:=h'}:=I.turned (t':=s.toks) (λb o hb e=>(sb.2 b hb).trans e) f0 f1 M f4 S;obtain⟨o,e,c,d⟩:=id xX;exact⟨u,rfl,zR (s:={s with heap:=h'}) e c d (by decide) ⟨x,H,I1,ru,⟨rfl,λys hy=>by rw[I.Kc hy g];exact L⟩,xX,λb hb=>(hf b hb).1⟩⟩
 done:=by
  intro X l hw n q i U s Z H E I hf st r;subst l hw n;obtain⟨xs,g,L⟩:=r;obtain⟨cy,rv,p,hz⟩:=I.list g;obtain⟨f0,f1,f2,M,f4,S⟩:=hf it (by simp);have hl:=rv.length;exact wpAny_pyNext_list_end (I.ok.hd q) st p.isList (by simp;omega) λh' eb=>⟨rfl,I.turned (t':=s.toks) (λb o hb e=>eb b o hb e) f0 f1 M f4 S⟩
 self:=λ_ _ _ _ _ st h=>wpAny_pyIter_listiter st h
theorem EN(a it:Addr):Turn P w K tg (Itt K a) [it] it (λi h=>h.IsTupleIter it a i) where
 mem:=by simp
 obj:=λi h st b hb=>by
  have e:b=it:=by simpa using hb
  subst e;obtain⟨o,e,c,d⟩:=st;exact⟨o,e,λv z=>by rw[d]at z;cases z⟩
 keep:=λi h h' st k=>st.at λo e=>k it (by simp) o e
 item:=by
  intro X l hw n q i U s Z H E I hf st r;subst l hw n;obtain⟨xs,x,g,L⟩:=r;obtain⟨cy,rv,p,hz⟩:=I.tuple g;obtain⟨u,hu,ru⟩:=rv.get L;obtain⟨f0,f1,f2,M,f4,S⟩:=hf it (by simp);refine wpAny_pyNext_tuple_item st (show s.heap.IsTuple a cy.toArray from p) (x:=u) (by simpa using hu) λh' xX sb=>?_
  have I1:Inv X U Z H {s with heap:=h'}:=I.turned (t':=s.toks) (λb o hb e=>(sb.2 b hb).trans e) f0 f1 M f4 S;obtain⟨o,e,c,d⟩:=id xX;exact⟨u,rfl,zR (s:={s with heap:=h'}) e c d (by decide) ⟨x,H,I1,ru,⟨rfl,λys hy=>by rw[I.qW hy g];exact L⟩,xX,λb hb=>(hf b hb).1⟩⟩
 done:=by
  intro X l hw n q i U s Z H E I hf st r;subst l hw n;obtain⟨xs,g,L⟩:=r;obtain⟨cy,rv,p,hz⟩:=I.tuple g;obtain⟨f0,f1,f2,M,f4,S⟩:=hf it (by simp);have hl:=rv.length;exact wpAny_pyNext_tuple_end (I.ok.hd q) st (show s.heap.IsTuple a cy.toArray from p) (by simp;omega) λh' eb=>⟨rfl,I.turned (t':=s.toks) (λb o hb e=>eb b o hb e) f0 f1 M f4 S⟩
 self:=λ_ _ _ _ _ st h=>wpAny_pyIter_tupleiter st h
theorem EO(it:Addr)(lo:Int)(n:Nat):Turn P w K tg (ZU lo n) [it] it (λi h=>IsRangeIter h it (lo+(i:Nat)*1) ((n:Int) - (i:Nat)) 1) where
 mem:=by simp
 obj:=λi h st b hb=>by
  have e:b=it:=by simpa using hb
  subst e;exact⟨_,st,λv z=>by
   have z':Data.fields _=Data.cell v:=z;cases z'⟩
 keep:=λi h h' st k=>k it (by simp) _ st
 item:=by
  intro X g hw l r i U s Z H E I hf st L;subst g hw l;obtain⟨f0,f1,f2,M,f4,S⟩:=hf it (by simp);have W:=Walks.range (prog:=X.prog) (w:=X.w) (I.ok.hd r) it lo 1 n;refine W.item i s _ _ L st λv h' q hv xX kk=>?_
  obtain⟨t,rfl⟩:=hv;have I1:Inv X U Z H {s with heap:=h',toks:=q}:=I.turned (λb o hb e=>kk b o (by simpa using hb) e) f0 f1 M f4 S;refine⟨_,rfl,zR (s:={s with heap:=h',toks:=q}) (n:="range_iterator") xX rfl rfl (by decide) ⟨.int (lo+i),H,I1,⟨t,?_⟩,⟨rfl,rfl⟩,xX,λb hb=>(hf b hb).1⟩⟩;rw[Int.mul_one]
 done:=by
  intro X g hw l r i U s Z H E I hf st L;subst g hw l;obtain⟨f0,f1,f2,M,f4,S⟩:=hf it (by simp);exact wpAny_pyNext_range_end (I.ok.hd r) st (by have:n<=i:=L;omega) λh' eb=>⟨rfl,I.turned (t':=s.toks) (λb o hb e=>eb b o hb e) f0 f1 M f4 S⟩
 self:=λ_ _ _ _ _ st h=>wpAny_pyIter_rangeiter st h
theorem Kh{R:It->Hp->Prop}{lo hi:Int}{t u v:Tok}(I:Inv X U Z H s)(h1:-(2 ^62)<=lo)(h2:lo<2 ^62)(h3:-(2 ^62)<=hi)(h4:hi<2 ^62)
  (q:R (ZU lo (hi - lo).toNat) H):wpAny (model X.prog X.w) X.A (pyIter (.ref s.heap.objs.size)) (ZQ X U Z tg R) E {s with heap:=s.heap.push {cls:=.type "range",data:=.fields #[.int lo t,.int hi u,.int 1 v]},toks:=i}:=by
 refine wpAny_pyIter_range (IsRange.new ..) (small_one h1 h2 h3 h4) ?_
 have g:Inv X U Z H {s with heap:=s.heap.push {cls:=.type "range",data:=.fields #[.int lo t,.int hi u,.int 1 v]},toks:=i}:=I.kept λb o e=>bS _ e;refine⟨(s.heap.push {cls:=.type "range",data:=.fields #[.int lo t,.int hi u,.int 1 v]}).objs.size,[(s.heap.push {cls:=.type "range",data:=.fields #[.int lo t,.int hi u,.int 1 v]}).objs.size],_,_,H,rfl,
  g.kept (t':=i) λb o e=>bS _ e,EO _ lo (hi - lo).toNat,?_,λb hb=>?_,q⟩
 ·have l:lo+((0:Nat):Int)*1=lo:=by simp
  have n:(((hi - lo).toNat:Nat):Int) - ((0:Nat):Int)=Builtin.Range.rangeSize lo hi 1:=by rw[rangeSize_one];split<;>omega
  show IsRangeIter _ _ (lo+((0:Nat):Int)*1) ((((hi - lo).toNat:Nat):Int) - ((0:Nat):Int)) 1;rw[l,n];exact cz _ rfl
 ·have e:b=(s.heap.push {cls:=.type "range",data:=.fields #[.int lo t,.int hi u,.int 1 v]}).objs.size:=by simpa using hb
  subst e;exact g.xW (bA _) (g.cW.fresh (bA _))
def VW(ta:TA):TI:=λZ H R=>ta Z H λvs H1=>∃j:Int,vs=[.int j]/\-(2 ^62)<=j/\j<2 ^62/\R (ZU 0 j.toNat) H1
theorem Ih{ta:TA}(hg:Gl X "range")(hm:X.mg "range"=none)(ha:PA X [o] ta)(hs:starEach [o] X.env=[(false,eval o X.env)]:=by rfl):PI X tg (.Call (.Name "range" p) [o] [] pos) (VW ta):=by
 intro U s Z H R I h;refine Call_ (vg I hg hm boot_range (xg (eN (ha pos U s Z H _ I h) λus s1 ⟨vs,H1,g,r1,b⟩=>?_) hs rfl));obtain⟨j,e,b,l,q⟩:=b;subst e;cases r1 with
 |cons r n=>
  cases n;obtain⟨t,rfl⟩:=r;exact call_range_1 (Kh g (by omega) (by omega) b l (by simpa using q))
def aap(q:TI)(g:TG)(tb:TS):TS:=λD Z H=>q Z H λJ H1=>∃W:Nat->Nat->St->Hp->Prop,(∃m,W 0 m Z H1)/\∀i m Z H,W i m Z H->
 (J.stop i H/\D.nx Z H)\/(J.go i H/\∃N:St->Hp->Prop,(∀b H',N b H'->∃l,l<m/\W (i+1) l b H')/\∀x H',J.Gs i H x H'->g x Z H' λn H2=>tb {D with nx:=N,ct:=N,bk:=D.nx} n H2)
def xY(fp:List Addr)(h:Heap):List (Addr×Obj):=fp.filterMap λb=>(h.get? b).map λo=>(b,o)
def nV{fp:List Addr}{h:Heap}{o:Obj}(hb:a∈fp)(e:h.get? a=some o):(a,o)∈xY fp h:=lQ.mpr ⟨a,hb,by rw[e];rfl⟩
theorem Ii{fp:List Addr}{p:Addr×Obj}(hp:p∈xY fp aa):p.1∈fp/\aa.get? p.1=some p.2:=by
 obtain⟨b,hb,e⟩:=lQ.mp hp;cases q:aa.get? b with
 |none=>rw[q]at e;cases e
 |some o=>
  rw[q]at e;have g:(b,o)=p:=Option.some.inj e;subst g;exact⟨hb,q⟩
def Inv.pinned {fp:List Addr}(I:Inv X U Z H s)(hf:∀b∈fp,kY X U H b)(q:∀b∈fp,∃o,s.heap.get? b=some o/\∀v,o.data≠ .cell v):Inv X (U++xY fp s.heap) Z H s:=
 I.kn λp hp=>(dF.mp hp).elim (λz=>I.pin p (dD _ z)) λz=>by
   obtain⟨hb,e⟩:=Ii z;obtain⟨f0,f1,f2,_⟩:=hf p.1 hb;obtain⟨o,g,d⟩:=q p.1 hb;rw[e]at g;cases g;exact⟨e,f0,f1,f2,d⟩
def Inv.ug {pl:List (Addr×Obj)}(I:Inv X (U++pl) Z H s):Inv X U Z H s:=I.kn λp hp=>I.pin p (dD _ (kg _ hp))
theorem ER{wi:TI}{g:TG}{tb:TS}(hp:PassesOwn (model X.prog X.w) X.A X.env X.xe)(hc:X.calm=true)(hi:PI X tg am wi)(hg:PG X tg g)(hb:o6 X ah tb)
  (hs:∀x,foldedSetIterable am X.env x=pure x:=by intro _;rfl):PS X (.For tg am ah [] pos) (aap wi g tb):=by
 intro U s Z H D I h;refine wpAny_For (eN (hi U s Z H _ I h) λv s1 h1=>eN h1 λZR s2 h2=>?_) hs;obtain⟨it,fp,tn,J,H2,e,I2,T,NF,f2,W,⟨m0,w0⟩,turn⟩:=h2;subst e;have ES:∀{H':Hp},(∀b∈fp,H' b=none)->∀b∈fp,kY X U H' b:=λhn b hb=>⟨hn b hb,(f2 b hb).2⟩;refine codeAny_forLoop_any (λn s'=>∃i q H',Inv X U q H' s'/\tn i s'.heap/\(∀b∈fp,H' b=none)/\W i n q H') ?_ m0 ⟨0,Z,H2,I2,NF,λb hb=>(f2 b hb).1,w0⟩
 rintro n s3 ⟨i,NG,H3,I3,st3,fr3,w3⟩
 rcases turn i n NG H3 w3 with⟨stop,qn⟩|⟨go,N,hN,step⟩
 ·refine pG hp (eN (T.done X rfl rfl rfl hc i U s3 NG H3 X.xe I3 (ES fr3) st3 stop) λr s4 ⟨hr,I4⟩=>?_);subst hr;exact t8 ⟨NG,H3,I4,qn⟩
 ·refine pG hp (eN (T.item X rfl rfl rfl hc i U s3 NG H3 X.xe I3 (ES fr3) st3 go) λr s4 ⟨u,hr,h4⟩=>?_);subst hr;refine pG hp (eN h4 λ_ s5 ⟨x,H5,I5,r5,y5,Vd,ZV⟩=>?_);have I5':=I5.pinned (ES ZV) (T.obj _ _ Vd);refine pG hp (eN (hg _ s5 NG H5 x u _ I5' r5 (step x H5 y5)) λ_ s6 ⟨σ6,H6,I6,q6⟩=>?_);refine pG hp (eN (hb _ s6 σ6 H6 _ I6 q6) λf s7 S=>?_);have again:∀{l:St} {L:Hp},Inv X (U++xY fp s5.heap) l L s7->N l L->∃m,m<n/\∃i q H',Inv X U q H' s7/\tn i s7.heap/\(∀b∈fp,H' b=none)/\W i m q H':=λ{l L} M n7=>by
   obtain⟨m',hm,w7⟩:=hN l L n7;refine⟨m',hm,i+1,l,L,M.ug,T.keep _ _ _ Vd λb hb o e=>(M.pin (b,o) (dD _ (dD _ (nV hb e)))).1,λb hb=>?_,w7⟩;obtain⟨o,e,d⟩:=T.obj _ _ Vd b hb;exact(M.pin (b,o) (dD _ (dD _ (nV hb e)))).2.1
  cases f with
  |next=>obtain⟨l,L,M,n7⟩:=S;exact again M n7
  |cont=>obtain⟨l,L,M,n7⟩:=S;exact again M n7
  |brk=>obtain⟨l,L,M,S⟩:=S;exact⟨l,L,M.ug,S⟩
  |ret v=>obtain⟨x7,l,L,M,r7,S⟩:=S;exact⟨x7,l,L,M.ug,r7,S⟩
abbrev R2:=V->V->Hp->VK->Prop
def vh(X:Cx)(f:Value->Value->Sem Value)(r:R2):Prop:=
 ∀(U:List (Addr×Obj)) (s:Shared) (Z:St) (H:Hp) (x y:V) (v u:Value) (Q:VK),Inv X U Z H s->RelV x v->RelV y u->r x y H Q->
  wpAny (model X.prog X.w) X.A (f v u) (EP X U Z Q) X.xe s
def UnR(X:Cx)(f:Value->Sem Value)(r:V->Hp->VK->Prop):Prop:=
 ∀(U:List (Addr×Obj)) (s:Shared) (Z:St) (H:Hp) (x:V) (v:Value) (Q:VK),Inv X U Z H s->RelV x v->r x H Q->
  wpAny (model X.prog X.w) X.A (f v) (EP X U Z Q) X.xe s
def gQ(X:Cx)(f:Value)(r:List V->Hp->VK->Prop):Prop:=
 ∀(U:List (Addr×Obj)) (s:Shared) (Z:St) (H:Hp) (xs:List V) (us:List Value) (Q:VK),Inv X U Z H s->Vals xs us->r xs H Q->
  wpAny (model X.prog X.w) X.A (call f us) (EP X U Z Q) X.xe s
def aaq(X:Cx)(r:V->Hp->(Bool->Hp->Prop)->Prop):Prop:=
 ∀(U:List (Addr×Obj)) (s:Shared) (Z:St) (H:Hp) (x:V) (v:Value) (Q:Bool->Hp->Prop),Inv X U Z H s->RelV x v->r x H Q->
  wpAny (model X.prog X.w) X.A (truthy v) (TP X U Z Q) X.xe s
def RK(r:R2)(ta tb:TE):TE:=λZ H Q=>ta Z H λx H1=>tb Z H1 λy H2=>r x y H2 Q
def tUn(r:V->Hp->VK->Prop)(ta:TE):TE:=λZ H Q=>ta Z H λx H1=>r x H1 Q
def rI(C:Int->Int->Prop)(g:Int->Int->V):R2:=λx y H Q=>∃i j,x=.int i/\y=.int j/\C i j/\Q (g i j) H
def RL(g:Int->Int->V):R2:=λx y H Q=>∃i j,x=.int i/\y=.int j/\Q (g i j) H
def rU(g:Int->V):V->Hp->VK->Prop:=λx H Q=>∃i,x=.int i/\Q (g i) H
section
variable {a c:Expr}{ta tb tc:TE}
def RM(q:PE X a ta)(hb:PE X e tb){R:V->V->Hp->Prop}(I:Inv X U Z H s)
  (h:ta Z H λx H1=>tb Z H1 λy H2=>R x y H2) {f:Value->Value->Sem Value}
  (hf:∀v u s2 x y H2,Inv X U Z H2 s2->RelV x v->RelV y u->R x y H2->wpAny (model X.prog X.w) X.A (f v u) Q X.xe s2):
  wpAny (model X.prog X.w) X.A (eval a X.env) (λv dr=>wpAny (model X.prog X.w) X.A (eval e X.env) (λu uh=>wpAny (model X.prog X.w) X.A (f v u) Q X.xe uh) X.xe dr) X.xe s:=by
 refine eN (q U s Z H _ I h) λv s1 ⟨x,H1,b,r1,g⟩=>?_
 refine eN (hb U s1 Z H1 _ b g) λu s2 ⟨y,H2,l,r2,n⟩=>?_
 exact hf v u s2 x y H2 l r1 r2 n
theorem Ql{op:Operator}{r:R2}(ho:vh X (binaryOp op) r)(ha:PE X a ta)(hb:PE X e tb):PE X (.BinOp a op e pos) (RK r ta tb):=by
 intro U s Z H Q I h;exact wpAny_BinOp (RM ha hb I h λv u s2 x y H2 b g l q=>ho U s2 Z H2 x y v u Q b g l q)
theorem VX{op:UnaryOp}{r:V->Hp->VK->Prop}(q:UnR X (unaryOp op) r)(ha:PE X a ta):PE X (.UnaryOp op a pos) (tUn r ta):=by
 intro U s Z H Q I h;exact UnaryOp_ (eN (ha U s Z H _ I h) λv s1 ⟨x,H1,b,r1,g⟩=>q U s1 Z H1 x v Q b r1 g)
theorem opI{f:Value->Value->Sem Value}{C:Int->Int->Prop}{g:Int->Int->Int}
  (rule:∀(i j:Int) (t u:Tok) (s:Shared) (Q:Value->Shared->Prop) (E:Value->Shared->Prop),C i j->Q (.int (g i j) s.toks) {s with toks:=s.toks+1}->wpAny (model X.prog X.w) X.A (f (.int i t) (.int j u)) Q E s):
  vh X f (rI C λi j=>.int (g i j)):=by
 intro U s Z H x y v u Q I b l h;obtain⟨i,j,rfl,rfl,n,q⟩:=h;obtain⟨t,rfl⟩:=b;obtain⟨t',rfl⟩:=l;exact rule i j t t' s _ _ n ⟨.int (g i j),H,I.tok _,⟨_,rfl⟩,q⟩
theorem aar{f:Value->Value->Sem Value}{g:Int->Int->Int}
  (rule:∀(i j:Int) (t u:Tok) (s:Shared) (Q:Value->Shared->Prop) (E:Value->Shared->Prop),Q (.int (g i j) s.toks) {s with toks:=s.toks+1}->wpAny (model X.prog X.w) X.A (f (.int i t) (.int j u)) Q E s):
  vh X f (RL λi j=>.int (g i j)):=by
 intro U s Z H x y v u Q I b l h;obtain⟨i,j,rfl,rfl,q⟩:=h;obtain⟨t,rfl⟩:=b;obtain⟨t',rfl⟩:=l;exact rule i j t t' s _ _ ⟨.int (g i j),H,I.tok _,⟨_,rfl⟩,q⟩
theorem NH{f:Value->Value->Sem Value}{g:Int->Int->Bool}
  (rule:∀(i j:Int) (t u:Tok) (s:Shared) (Q:Value->Shared->Prop) (E:Value->Shared->Prop),Q (.bool (g i j)) s->wpAny (model X.prog X.w) X.A (f (.int i t) (.int j u)) Q E s):
  vh X f (RL λi j=>.bl (g i j)):=by
 intro U s Z H x y v u Q I b l h;obtain⟨i,j,rfl,rfl,q⟩:=h;obtain⟨t,rfl⟩:=b;obtain⟨t',rfl⟩:=l;exact rule i j t t' s _ _ ⟨.bl (g i j),H,I,rfl,q⟩
def Kj(i j:Int):Prop:=(-(2 ^64)<i/\i<2 ^64)\/(-(2 ^64)<j/\j<2 ^64)
def Kj.ok {i j:Int}(h:Kj i j):IntMulOk i j:=by
 rcases h with⟨b,h2⟩|⟨b,h2⟩
 ·exact .of_left (intBits_le_64 b h2)
 ·exact .of_right (intBits_le_64 b h2)
def RN:vh X (binaryOp .Add) (RL λi j=>.int (i+j)):=aar λ_ _ _ _ _ _ _ q=>add_int q
def RO:vh X (binaryOp .Mult) (rI Kj λi j=>.int (i*j)):=opI λ_ _ _ _ _ _ _ b q=>mul_int q b.ok
theorem RP:vh X (binaryOp .Mod) (rI (λ_ j=>0<j) λi j=>.int (i % j)):=opI λi j _ _ _ _ _ b q=>by
 have g:(0:Int)<j:=b;exact mod_int' (by omega) (by rw[Int.fmod_eq_emod_of_nonneg i (by omega)];exact q)
theorem unI{f:Value->Sem Value}{g:Int->Int}
  (rule:∀(i:Int) (t:Tok) (s:Shared) (Q:Value->Shared->Prop) (E:Value->Shared->Prop),Q (.int (g i) s.toks) {s with toks:=s.toks+1}->wpAny (model X.prog X.w) X.A (f (.int i t)) Q E s):
  UnR X f (rU λi=>.int (g i)):=by
 intro U s Z H x v Q I b h;obtain⟨i,rfl,q⟩:=h;obtain⟨t,rfl⟩:=b;exact rule i t s _ _ ⟨.int (g i),H,I.tok _,⟨_,rfl⟩,q⟩
def RQ:UnR X (unaryOp .USub) (rU λi=>.int (-i)):=unI λ_ _ _ _ _ q=>neg_int q
end
section
variable {b c:Expr}{ta tb tc:TE}
def vi{Q:VK}{k k':Bool}(I:Inv X U Z H s)(q:Q (.bl k) H)(e:k=k'):EP X U Z Q (.bool k') s:=by
 subst e;exact⟨.bl k,H,I,rfl,q⟩
def VY:vh X (compareOp .Lt) (RL λi j=>.bl (decide (i<j))):=NH λ_ _ _ _ _ _ _ q=>lt_int q
def VZ:vh X (compareOp .LtE) (RL λi j=>.bl (decide (i<=j))):=NH λ_ _ _ _ _ _ _ q=>le_int q
def V0:vh X (compareOp .Gt) (RL λi j=>.bl (decide (j<i))):=NH λ_ _ _ _ _ _ _ q=>gt_int q
def V1:vh X (compareOp .GtE) (RL λi j=>.bl (decide (j<=i))):=NH λ_ _ _ _ _ _ _ q=>ge_int q
theorem Ij:vh X (compareOp .Lt) (λx y H Q=>∃i j,x=.str i/\y=.str j/\Q (.bl (decide (i.cps.toList<j.cps.toList))) H):=by
 intro U s Z H x y v u Q I b g h;obtain⟨i,j,rfl,rfl,q⟩:=h;obtain⟨t,rfl⟩:=b;obtain⟨t',rfl⟩:=g;exact lt_str (vi I q rfl)
theorem Ik:vh X (compareOp .In) (λx y H Q=>∃i j,x=.str i/\y=.str j/\Q (.bl (!(Builtin.Str.occurrences j i 0 j.length 1).isEmpty)) H):=by
 intro U s Z H x y v u Q I b g h;obtain⟨i,j,rfl,rfl,q⟩:=h;obtain⟨t,rfl⟩:=b;obtain⟨t',rfl⟩:=g;exact in_str (vi I q rfl)
theorem RR:vh X (compareOp .Is) (λx y H Q=>y=.cA/\Q (.bl (decide (x=.cA))) H):=by
 intro U s Z H x y v u Q I b g h;obtain⟨rfl,q⟩:=h;cases g;refine is_none_gen (vi I q ?_);cases x<;>first
  |(cases b;rfl)
  |(obtain⟨t,rfl⟩:=b;rfl)
theorem A8:vh X (compareOp .NotIn) (λx y H Q=>∃i j,x=.str i/\y=.str j/\Q (.bl (!(!(Builtin.Str.occurrences j i 0 j.length 1).isEmpty))) H):=by
 intro U s Z H x y v u Q I b g h;obtain⟨i,j,rfl,rfl,q⟩:=h;obtain⟨t,rfl⟩:=b;obtain⟨t',rfl⟩:=g;exact notIn_str (vi I q rfl)
def A9(b:Expr){op:CmpOp}(h:op≠ .In:=by decide) (h2:op≠ .NotIn:=by decide):behindInMarks op b=false:=by
 have g:(op==CmpOp.In)=false:=by cases op<;>first|rfl|exact absurd rfl h
 have l:(op==CmpOp.NotIn)=false:=by cases op<;>first|rfl|exact absurd rfl h2
 cases b<;>simp[behindInMarks,g,l]
theorem NI{op:CmpOp}{r:R2}(ho:vh X (compareOp op) r)(ha:PE X o ta)(hb:PE X b tb)(hm:behindInMarks op b=false):PE X (.Compare o [op] [b] pos) (RK r ta tb):=by
 intro U s Z H Q I h;exact wpAny_Compare1 (RM ha hb I h λv u s2 x y H2 g l n q=>ho U s2 Z H2 x y v u Q g l n q) hm
def V2(t:TE):TT:=λZ H Q=>t Z H λx H'=>∃k,x=.bl k/\Q k H'
theorem NJ{op:CmpOp}{r:R2}(q:vh X (compareOp op) r)(ha:PE X o ta)(hb:PE X b tb)(hm:behindInMarks op b=false):PT X (.Compare o [op] [b] pos) (V2 (RK r ta tb)):=by
 intro U s Z H Q I h;refine wpAny_isTrue_Compare1 (eN (ha U s Z H _ I h) λv s1 ⟨x,H1,g,r1,l⟩=>eN (hb U s1 Z H1 _ g l) λu s2 ⟨y,H2,n,r2,L⟩=>
  eN (q U s2 Z H2 x y v u _ n r1 r2 L) λc s3 ⟨z,M,S,r3,k,e,q3⟩=>?_) hm
 subst e;cases r3;exact pB ⟨M,S,q3⟩
def NK(K:Frag)(x:V)(H:Hp)(k:Bool):Prop:=
 match x with
 |.cA=>k=false
 |.bl b=>k=b
 |.int i=>k=(i !=0)
 |.str y=>y.length<=sizeLine/\k=((y.length:Int) !=0)
 |.Qd y=>y.size<=sizeLine/\k=((y.size:Int) !=0)
 |.ref p=>(∃xs,lT K H p xs/\k=!xs.isEmpty)\/(∃xs,ju K H p xs/\k=!xs.isEmpty)\/∃kvs,Rd H p (.dK kvs)/\k=!kvs.isEmpty
 |_=>False
def ET{kvs:List (ag×V)}{vs:List (ag×Value)}(r:KV kvs vs):(!vs.isEmpty)=!kvs.isEmpty:=by
 cases r<;>rfl
def xZ(r:Vals ar aq):(!aq.toArray.isEmpty)=!ar.isEmpty:=by
 cases r<;>simp
def x6:(sizeLine:Nat)<2 ^63:=by rw[dW];decide
theorem Kk:aaq X (λx H Q=>∃k,NK X.K x H k/\Q k H):=by
 intro U s Z H x v Q I l h;obtain⟨k,e,q⟩:=h;have hl:=x6;have hs:sizeLine=16777216:=dW;cases x with
 |cA=>
  cases l;have g:k=false:=e;subst g;exact truthy_none ⟨H,I,q⟩
 |bl b=>
  cases l;have g:k=b:=e;subst g;exact pB ⟨H,I,q⟩
 |int i=>
  obtain⟨t,rfl⟩:=l;have g:k=(i !=0):=e;subst g;exact PySem.P.truthy_int ⟨H,I,q⟩
 |str y=>
  obtain⟨t,rfl⟩:=l;obtain⟨M,g⟩:y.length<=sizeLine/\k=((y.length:Int) !=0):=e;subst g;exact PySem.P.truthy_str (by omega) ⟨H,I.tok _,q⟩
 |Qd y=>
  obtain⟨t,rfl⟩:=l;obtain⟨M,g⟩:y.size<=sizeLine/\k=((y.size:Int) !=0):=e;subst g;exact PySem.W.truthy_bytes (by omega) ⟨H,I.tok _,q⟩
 |ref p=>
  cases l;have g:(∃xs,lT X.K H p xs/\k=!xs.isEmpty)\/(∃xs,ju X.K H p xs/\k=!xs.isEmpty)\/∃kvs,Rd H p (.dK kvs)/\k=!kvs.isEmpty:=e;rcases g with⟨xs,n,g⟩|⟨xs,n,g⟩|⟨kvs,n,g⟩
  ·subst g;obtain⟨cy,r,pl,hz⟩:=I.list n;have L:=r.length;exact wpAny_truthy_list pl.isList (by simp only[cU];omega) ⟨H,I.tok _,by rw[xZ r];exact q⟩
  ·subst g;obtain⟨cy,r,pl,hz⟩:=I.tuple n;have L:=r.length;exact truthy_tuple pl (by simp only[cU];omega) ⟨H,I.tok _,by rw[xZ r];exact q⟩
  ·subst g;obtain⟨hz,S,vs,r,m⟩:kvs.length<=sizeLine/\(p==sysModules)=false/\∃vs,KV kvs vs/\s.heap.DictOf (cu X.prog X.w) p vs:=n.ok I.cW;have L:kvs.length=vs.length:=Paired.length r;exact wpAny_truthy_dict S m (by omega) ⟨H,I.tok _,by rw[ET r];exact q⟩
 |_=>exact fe e
def CO(q:PE X o ta)(he:∀whole,isTrue o X.env whole=(do let v<-whole;standAt o.pos;holding [v] (truthy v))):
  PT X o (λZ H Q=>ta Z H λx H'=>∃k,NK X.K x H' k/\Q k H'):=by
 intro U s Z H Q I h;exact isTrue_plain (eN (q U s Z H _ I h) λv s1 ⟨x,H1,b,r1,g⟩=>Kk U s1 Z H1 x v Q b r1 g) (he _)
theorem EU:vh X (binaryOp .Add) (λx y H Q=>∃i j,x=.str i/\y=.str j/\i.length+j.length<=sizeLine/\Q (.str (i++j)) H):=by
 intro U s Z H x y v u Q I b g h;obtain⟨i,j,rfl,rfl,hz,q⟩:=h;obtain⟨t,rfl⟩:=b;obtain⟨t',rfl⟩:=g;exact add_str (λt' l=>⟨.str (i++j),H,I.tok _,⟨_,rfl⟩,q⟩) hz
def vals1{x:V}(r:Vals [x] aq):∃u,aq=[u]/\RelV x u:=by
 cases r with
 |cons r1 b=>cases b;exact⟨_,rfl,r1⟩
def vals2{x y:V}(r:Vals [x,y] aq):∃u w',aq=[u,w']/\RelV x u/\RelV y w':=by
 cases r with
 |cons r1 b=>
  cases b with
  |cons g l=>cases l;exact⟨_,_,rfl,r1,g⟩
theorem Il(hc:X.calm=true):gQ X (.builtin "max") (λxs H Q=>∃i j,xs=[.int i,.int j]/\Q (.int (if j>i then j else i)) H):=by
 intro U s Z H xs us Q I r h;obtain⟨i,j,rfl,q⟩:=h;obtain⟨u,g,rfl,⟨t,rfl⟩,⟨t',rfl⟩⟩:=vals2 r;refine max_two_ints (I.ok.hd hc) λh' l k=>⟨_,H,I.kept k,?_,q⟩;by_cases b:j>i
 ·rw[aY b,aY b];exact⟨_,rfl⟩
 ·rw[bc b,bc b];exact⟨_,rfl⟩
theorem zT:gQ X (.type "int") (λxs H Q=>(∃i,xs=[.int i]/\Q (.int i) H)\/∃k,xs=[.bl k]/\Q (.int (if k then 1 else 0)) H):=by
 intro U s Z H xs us Q I r h;rcases h with⟨i,rfl,q⟩|⟨k,rfl,q⟩
 ·obtain⟨u,rfl,t,rfl⟩:=vals1 r;exact call_int_int ⟨.int i,H,I,⟨_,rfl⟩,q⟩
 ·obtain⟨u,rfl,r1⟩:=vals1 r;cases r1;exact call_int_bool ⟨.int (if k then 1 else 0),H,I.tok _,⟨_,rfl⟩,q⟩
def aas(K:Frag)(x:V)(H:Hp)(n:Nat):Prop:=
 match x with
 |.str y=>y.length<=sizeLine/\n=y.length
 |.Qd y=>y.size<=sizeLine/\n=y.size
 |.ref p=>(∃xs,lT K H p xs/\n=xs.length)\/∃xs,ju K H p xs/\n=xs.length
 |_=>False
theorem ui:gQ X (.builtin "len") (λxs H Q=>∃x n,xs=[x]/\aas X.K x H n/\Q (.int n) H):=by
 intro U s Z H xs us Q I r h;obtain⟨x,n,rfl,e,q⟩:=h;obtain⟨u,rfl,g⟩:=vals1 r;have hl:=x6;have hs:sizeLine=16777216:=dW;cases x with
 |str y=>
  obtain⟨t,rfl⟩:=g;obtain⟨S,b⟩:y.length<=sizeLine/\n=y.length:=e;subst b;exact len_str (by omega) ⟨.int _,H,I.tok _,⟨_,rfl⟩,q⟩
 |Qd y=>
  obtain⟨t,rfl⟩:=g;obtain⟨S,b⟩:y.size<=sizeLine/\n=y.size:=e;subst b;exact PySem.W.len_bytes (by omega) ⟨.int _,H,I.tok _,⟨_,rfl⟩,q⟩
 |ref p=>
  cases g;have b:(∃xs,lT X.K H p xs/\n=xs.length)\/∃xs,ju X.K H p xs/\n=xs.length:=e;rcases b with⟨xs,l,b⟩|⟨xs,l,b⟩
  ·subst b;obtain⟨cy,L,pl,hz⟩:=I.list l;have M:=L.length;exact Calls.call_len_list pl.isList (by simp only[cU];omega) ⟨.int xs.length,H,I.tok _,⟨_,by simp only[cU];rw[M]⟩,q⟩
  ·subst b;obtain⟨cy,L,pl,hz⟩:=I.tuple l;have M:=L.length;exact len_tuple pl (by simp only[cU];omega) ⟨.int xs.length,H,I.tok _,⟨_,by simp only[cU];rw[M]⟩,q⟩
 |_=>exact fe e
end
structure EV(h:Heap)(x dx C:Addr)(mA:Str->Option Value):Prop where
 obj:h.get? x=some (PySem.W.instObj C dx)
 ns:h.Ns1 dx mA
 ne:dx≠x
theorem Im(n:aa.Ns1 au mg):∃od,aa.get? au=some od/\∀name,PySem.W.lookIn name od=some (mg name):=by
 obtain⟨o,es,ep,b,hd,g,_,hm⟩:=n;refine⟨o,b,λname=>?_⟩;have e:=hm name;unfold nsFind findBy at e;rw[<-Array.find?_toList]at e;unfold PySem.W.lookIn;rw[hd];dsimp only;split
 ·rename_i y q;rw[q]at e;exact cV some e
 ·rename_i q;rw[q]at e;have a:es.toList.any (·.refKey)=false:=by
   rw[List.any_eq_false];intro y l;obtain⟨z,t,r⟩:=g y (Array.mem_toList_iff.mp l);simp[DictEntry.refKey,r]
  have I:¬es.toList.any (·.refKey)=true:=by rw[a];exact fI
  rw[bc I];exact cV some e
def EV.look {h:Heap}{x dx C:Addr}{mA:Str->Option Value}(I:EV h x dx C mA):∃q,PySem.W.InstAt h x (PySem.W.instObj C dx) C (some q)/\∀name,PySem.W.lookIn name q=some (mA name):=
 let⟨q,b,g⟩:=Im I.ns
 ⟨q,⟨I.obj,rfl,rfl,b⟩,g⟩
section
variable {x C f:Addr}
def get_map{expr:Bool}(X:K.In s.heap)(I:EV s.heap x au C mg)(q:PySem.W.plainGet K C av=true)(hh:PySem.W.hasDictIn K C=true)
  (ha:PySem.W.findIn K (.ref C) av=some none) (hv:mg av=some af) (Km:PySem.W.handedIn af=true) (h:Q af {s with toks:=s.toks+1}):
  wpAny (model P w) A (getAttr (.ref x) av expr) Q E s:=by
 obtain⟨g,J,b⟩:=I.look;exact PySem.W.get_value X J (ph q).1 (PySem.W.findObj_own hh ha rfl (by rw[b,hv])) Km h
def Kn{pl:Sem Bool}{Q:Value×List Value->Shared->Prop}(X:K.In s.heap)(I:EV s.heap x au C mg)(q:PySem.W.plainGet K C av=true)
  (hf:PySem.W.findIn K (.ref C) av=some (some (.ref f))) (ht:PySem.W.isFn K (.ref f)=true) (hv:mg av=none) (h:Q (.ref f,[.ref x]) s):
  wpAny (model P w) A (getMethod (.ref x) av pl) Q E s:=by
 obtain⟨b,J,g⟩:=I.look;exact PySem.W.method_fn X J (ph q).1 (ph q).2 hf (fu.mp ht) (by show(PySem.W.lookIn av b).map (·.isSome)=some false;rw[g,hv];rfl) h
def NL(X:K.In s.heap)(I:EV s.heap x au C mg)
  (hs:PySem.W.findIn K (.ref C) "__setattr__"=some (some (.builtin "object.__setattr__"))) (hp:PySem.W.plainOver K C=true) (q:PySem.W.takerIn K C av=some none) (hh:PySem.W.hasDictIn K C=true)
  (hw:PySem.Within mg ps) (hsz:ps.length<=sizeLine)
  (h:∀h',EV h' x au C (λy=>if y=av then some af else mg y)->Heap.SameBut au s.heap h'->ae () {s with heap:=h',toks:=s.toks+2}):
  wpAny (model P w) A (setAttr (.ref x) av af) ae E s:=by
 obtain⟨od,J,hl⟩:=I.look;refine PySem.W.set_plain X J hs (PySem.W.osa_open (s:={s with toks:=s.toks+1}) (r:=none) X J hp q λb=>?_);obtain⟨cd,S,Nx⟩:=PySem.W.any_some hh;have hx:s.heap.get? x=some ⟨.ref C,some au,.plain,#[]⟩:=I.obj;refine aU (bg (aU (aU (wpAny_loadPart hx (aU (PySem.W.Looks.here (s:={s with toks:=s.toks+1}) (PySem.W.looks_clsIn X S) ?_))))));rw[Nx];refine bg (a:=some au) (aU (bg (aU ?_)));refine wpAny_nsSet1 (s:={s with toks:=s.toks+1}) I.ns λh' L M=>?_
 obtain⟨oD,esD,epD,g,l,n⟩:=L.count (PySem.Within.cons av af hw);refine aU (wpAny_lookBehind g (by rw[l];exact pastItsLine_dict (cB n (by rw[dA];omega))) ?_);exact bg (h _ ⟨(M.2 _ (Ne.symm I.ne)).trans I.obj,L,I.ne⟩ M)
theorem Ko{kw:List (Str×Value)}(X:K.In s.heap)(hm:PySem.W.makesIn K C=true)
  (hi:PySem.W.findIn K (.ref C) "__init__"=some (some (.ref f))) (hf:PySem.W.typeIn K (.ref f)=some (.type "function"))
  (h:codeAny (model P w) (A.under (.builtin "type.__call__" ⟨.ref C::aq,kw⟩)) (.call (.ref f) ⟨.ref (s.heap.objs.size+1)::aq,kw⟩) (PySem.W.InitBack (s.heap.objs.size+1) aw)
   {s with heap:=(s.heap.push PySem.W.emptyDict).push (PySem.W.instObj C s.heap.objs.size)}):
  codeAny (model P w) A (.call (.ref C) ⟨aq,kw⟩) aw s:=by
 obtain⟨b,g,d,t,os⟩:=s;exact PySem.W.make_core (PySem.W.makes_of X hm) (t_ X hi) (λself=>PySem.W.bind_fn X self hf) (.inl rfl) h
end
noncomputable def m5(f:Str)(v:V):List (Str×V)->List (Str×V)
 |[]=>[(f,v)]
 |(g,x)::r=>if g=f then(g,v)::r else(g,x)::m5 f v r
theorem vP(f g:Str)(v:V):∀fs:List (Str×V),(m5 f v fs).lookup g=if g=f then some v else fs.lookup g
 |[]=>by
  show List.lookup g [(f,v)]=_;by_cases h:g=f
  ·have hb:(g==f)=true:=fu.mpr h;simp only[List.lookup,hb,aY h]
  ·have hb:(g==f)=false:=jr.mpr h;simp only[List.lookup,hb,bc h]
 |(k,x)::r=>by
  have l:=vP f g v r;rw[show m5 f v ((k,x)::r)=(if k=f then(k,v)::r else(k,x)::m5 f v r)from rfl];by_cases b:k=f
  ·rw[aY b];by_cases h:g=k
   ·have hb:(g==k)=true:=fu.mpr h;simp only[List.lookup,hb,aY (h.trans b)]
   ·have hb:(g==k)=false:=jr.mpr h;simp only[List.lookup,hb,bc (λe:g=f=>h (e.trans b.symm))]
  ·rw[bc b];by_cases h:g=k
   ·have hb:(g==k)=true:=fu.mpr h;simp only[List.lookup,hb,bc (λe:g=f=>b (h.symm.trans e))]
   ·have hb:(g==k)=false:=jr.mpr h;simp only[List.lookup,hb];exact l
theorem vj(f:Str)(v:V):∀fs:List (Str×V),f∈(m5 f v fs).map (·.1)/\∀g,g∈fs.map (·.1)->g∈(m5 f v fs).map (·.1)
 |[]=>⟨by simp[m5],λg h=>by simp at h⟩
 |(k,x)::r=>by
  obtain⟨i1,i2⟩:=vj f v r;rw[show m5 f v ((k,x)::r)=(if k=f then(k,v)::r else(k,x)::m5 f v r)from rfl];by_cases b:k=f
  ·rw[aY b];subst b;exact⟨by simp,λg h=>by simpa using h⟩
  ·rw[bc b];refine⟨?_,λg h=>?_⟩
   ·rw[bB];exact cw _ i1
   ·rw[bB]at h⊢;rcases bH.mp h with e|e
    ·exact bH.mpr (.inl e)
    ·exact cw _ (i2 g e)
theorem vQ(f:Str)(v:V):∀fs:List (Str×V),(m5 f v fs).length<=fs.length+1
 |[]=>by simp[m5]
 |(k,x)::r=>by
  have g:=vQ f v r;rw[show m5 f v ((k,x)::r)=(if k=f then(k,v)::r else(k,x)::m5 f v r)from rfl];by_cases b:k=f
  ·rw[aY b,dA,dA];omega
  ·rw[bc b,dA,dA];omega
def mj.some_of {v:V}{o:Option Value}(r:mj (some v) o):∃u,o=some u/\RelV v u:=by
 cases o with
 |none=>exact fe r
 |some u=>exact⟨u,rfl,r⟩
def mj.none_of {o:Option Value}(r:mj none o):o=none:=by
 cases o with
 |none=>rfl
 |some u=>exact fe r
def Io{v:V}{u:Value}(r:RelV v u):PySem.W.handedIn u=true:=by
 cases v with
 |cA=>cases(show u=Value.none from r);rfl
 |bl b=>cases(show u=Value.bool b from r);rfl
 |int i=>obtain⟨t,e⟩:=(show∃t,u=Value.int i t from r);cases e;rfl
 |str x=>obtain⟨t,e⟩:=(show∃t,u=Value.str x t from r);cases e;rfl
 |Qd b=>obtain⟨t,e⟩:=(show∃t,u=Value.bytes b t from r);cases e;rfl
 |zq b=>obtain⟨t,e⟩:=(show∃t,u=Value.float b t from r);cases e;rfl
 |ref a=>cases(show u=Value.ref a from r);rfl
 |ty n=>cases(show u=Value.type n from r);rfl
section
variable {h':Heap}{dx:Addr}{fs fs':List (Str×V)}
def uj(cW:sA P w H aa)(e:H a=some (.ins au dx fs)):∃mA,EV aa a dx au mA/\(∀f,mj (fs.lookup f) (mA f))/\PySem.Within mA (fs.map (·.1))/\fs.length<=1000/\H dx=some (.own a):=by
 obtain⟨d,z,ne,ob,mA,n,r,q⟩:=(show cX P w H aa a (.ins au dx fs)from cW a _ e);exact⟨mA,⟨ob,n,ne⟩,r,q,z,d⟩
end
structure EW(K:Frag)(C:Addr):Prop where
 pg:PySem.W.plainGet K C Str.empty=true
 hd:PySem.W.hasDictIn K C=true
 po:PySem.W.plainOver K C=true
 sa:PySem.W.findIn K (.ref C) "__setattr__"=some (some (.builtin "object.__setattr__"))
def EW.get {C:Addr}(c:EW K C)(f:Str):PySem.W.plainGet K C f=true:=c.pg
def sC(K:Frag)(C:Addr)(f:Str):Prop:=PySem.W.findIn K (.ref C) f=some none
def sC.V4 {C:Addr}{f:Str}(n:sC K C f):PySem.W.takerIn K C f=some none:=by
 unfold PySem.W.takerIn;rw[show PySem.W.findIn K (.ref C) f=some none from n]
 rfl
structure Meth(K:Frag)(C:Addr)(m:Str)(f:Addr):Prop where
 at_:PySem.W.findIn K (.ref C) m=some (some (.ref f))
 fn:PySem.W.isFn K (.ref f)=true
 kp:PySem.W.keepIn K (.ref f)=true
section
variable {C:Addr}{fs:List (Str×V)}{f:Str}{v:V}
def EY{b:Bool}(I:Inv X U Z H s)(e:H a=some (.ins C au fs))(c:EW X.K C)(n:sC X.K C f)(l:fs.lookup f=some v)
  (h:∀u s',Inv X U Z H s'->RelV v u->Q u s'):wpAny (model X.prog X.w) A (getAttr (.ref a) f b) Q E s:=by
 obtain⟨mA,O,r,_,_,_⟩:=uj I.cW e;obtain⟨u,L,g⟩:=mj.some_of (v:=v) (o:=mA f) (by rw[<-l];exact r f);exact get_map I.ml O (c.get f) c.hd n L (Io g) (h u _ (I.tok _) g)
def x8{g:Addr}{pl:Sem Bool}{Q:Value×List Value->Shared->Prop}(I:Inv X U Z H s)(e:H a=some (.ins C au fs))(c:EW X.K C)(k:Meth X.K C x g)(l:fs.lookup x=none)
  (h:Q (.ref g,[.ref a]) s):wpAny (model X.prog X.w) A (getMethod (.ref a) x pl) Q E s:=by
 obtain⟨mA,O,r,_,_,_⟩:=uj I.cW e;have b:mA x=none:=mj.none_of (by rw[<-l];exact r x);exact Kn I.ml O (c.get x) k.at_ k.fn b h
def EZ{y:V}(I:Inv X U Z H s)(e:H a=some (.ins C au fs))(c:EW X.K C)(n:sC X.K C f)(hl:fs.length<1000)(ry:RelV y af)
  (h:∀s',Inv X U Z (upd H a (.ins C au (m5 f y fs))) s'->ae () s'):wpAny (model X.prog X.w) A (setAttr (.ref a) f af) ae E s:=by
 obtain⟨mA,O,r,L,_,M⟩:=uj I.cW e;have hz:(fs.map (·.1)).length<=sizeLine:=by rw[bu,dW];omega
 refine NL I.ml O c.sa c.po n.V4 c.hd L hz λh' l S=>h _ ?_
 have hd:∃o,h'.get? au=some o:=let⟨o,_,_,e',_⟩:=l.ns;⟨o,e'⟩
 refine I.write (x:=a) (e:=au) (by rw[e];exact True.intro) (.inr M) (λb q hb z=>(S.2 b hb).trans z) hd ?_
 refine⟨by rw[bq O.ne];exact M,?_,O.ne,l.obj,_,l.ns,λg=>?_,λg hg=>?_⟩
 ·have:=vQ f y fs;omega
 ·show mj ((m5 f y fs).lookup g) (if g=f then some af else mA g);rw[vP];by_cases q:g=f
  ·rw[aY q,aY q];exact ry
  ·rw[bc q,bc q];exact r g
 ·by_cases q:g=f
  ·rw[q];exact(vj f y fs).1
  ·refine(vj f y fs).2 g (L g λz=>hg ?_);show(if g=f then some af else mA g)=none;rw[bc q];exact z
theorem Inv.made (I:Inv X U Z H s):Inv X U Z (upd (upd H s.heap.objs.size (.own (s.heap.objs.size+1))) (s.heap.objs.size+1) (.ins C s.heap.objs.size []))
  {s with heap:=(s.heap.push PySem.W.emptyDict).push (PySem.W.instObj C s.heap.objs.size)}:=by
 have g:(s.heap.push PySem.W.emptyDict).get? s.heap.objs.size=some PySem.W.emptyDict:=cz s.heap rfl;have l:((s.heap.push PySem.W.emptyDict).push (PySem.W.instObj C s.heap.objs.size)).get? (s.heap.objs.size+1)=some (PySem.W.instObj C s.heap.objs.size):=by
  have:=cz (s.heap.push PySem.W.emptyDict) (o:=PySem.W.instObj C s.heap.objs.size) rfl;rwa[jE]at this
 have n:(s.heap.push PySem.W.emptyDict).Ns s.heap.objs.size (λ_=>none):=⟨PySem.W.emptyDict,#[],_,g,rfl,(λe he=>absurd he (by simp)),λ_=>rfl⟩;have r:=I.laid (a:=s.heap.objs.size) (o:=.own (s.heap.objs.size+1)) (h':=s.heap.push PySem.W.emptyDict) (t':=s.toks) (λb u q=>bS _ q) (bA _) ⟨_,g⟩;refine r.laid (a:=s.heap.objs.size+1) (o:=.ins C s.heap.objs.size []) (t':=s.toks) (λb u q=>bS _ q) (Nat.le_of_eq (jE _ _)) ?_
 have ne:s.heap.objs.size≠s.heap.objs.size+1:=cf (pw _);refine⟨by rw[bq ne,bP],d_ _,ne,l,λ_=>none,(Heap.Ns1.of_empty n).at λo q=>bS _ q,λ_=>True.intro,λy L=>absurd rfl L⟩
def Gu{env:Env}(hb:attributeBase e f env (eval e env)=eval e env)
  (h:wpAny (model P w) A (eval e env) (λo q=>wpAny (model P w) A (getAttr o f true) Q E q) E s):wpAny (model P w) A (eval (.Attribute e f pos) env) Q E s:=
 Attribute_any_ h (by rw[arm_eval_Attribute,hb])
end
def aat(K:Frag)(ta:TE)(f:Str):TE:=λZ H Q=>ta Z H λx H1=>∃a C dx fs v,x=.ref a/\H1 a=some (.ins C dx fs)/\EW K C/\sC K C f/\fs.lookup f=some v/\Q v H1
def aau(K:Frag)(ta tv:TE)(f:Str):TS:=λD Z H=>tv Z H λy H1=>ta Z H1 λx H2=>∃a C dx fs,x=.ref a/\H2 a=some (.ins C dx fs)/\EW K C/\sC K C f/\fs.length<1000/\
 D.nx Z (upd H2 a (.ins C dx (m5 f y fs)))
section
variable {f:Str}{ta tv:TE}
theorem Kp(he:PE X e ta)(hb:attributeBase e f X.env (eval e X.env)=eval e X.env):PE X (.Attribute e f pos) (aat X.K ta f):=by
 intro U s Z H Q I h;refine Gu hb (eN (he U s Z H _ I h) λu s1 ⟨x,H1,b,g,a,C,dx,fs,v,ex,r,c,n,l,q⟩=>?_);subst ex;obtain rfl:u=Value.ref a:=g;exact EY b r c n l λu' s2 L M=>⟨v,H1,L,M,q⟩
theorem RT(ha:PE X o ta)(hv:PE X tg tv)(hs:swapsWith tg (some (.Attribute o f p)) pos.line X.env=pure false):PS X (.Assign [.Attribute o f p] tg pos) (aau X.K ta tv f):=by
 intro U s Z H D I h;refine plainObj_wpAny_Assign_Attribute (eN (hv U s Z H _ I h) λu s1 ⟨y,H1,b,g,q⟩=>eN (ha U s1 Z H1 _ b q) λr s2 ⟨x,H2,L,M,a,C,dx,fs,ex,S,c,n,l,q2⟩=>?_) hs;subst ex;obtain rfl:r=Value.ref a:=M;exact EZ L S c n l g λs3 I3=>⟨Z,_,I3,q2⟩
end
section
variable {b:Bool}
inductive uk(K:Frag)(H:Hp):V->Value->Prop where
 |cA:uk K H .cA (.type "NoneType")
 |bl (x:Bool):uk K H (.bl x) (.type "bool")
 |int (i:Int):uk K H (.int i) (.type "int")
 |str (x:Str):uk K H (.str x) (.type "str")
 |zq (x:UInt64):uk K H (.zq x) (.type "float")
 |lst {a:Addr} {xs:List V} (e:H a=some (.lst xs)):uk K H (.ref a) (.type "list")
 |lJ {a:Addr} {o:Obj} {xs:List V} (e:H a=some (.lJ o (.lst xs))):uk K H (.ref a) (.type "list")
 |tup {a:Addr} {xs:List V} (e:H a=some (.tup xs)):uk K H (.ref a) (.type "tuple")
 |dK {a:Addr} {kvs:List (Key×V)} (e:H a=some (.dK kvs)):uk K H (.ref a) (.type "dict")
 |dT {a:Addr} {kvs:List (List Key×V)} (e:H a=some (.dT kvs)):uk K H (.ref a) (.type "dict")
 |ins {a C dx:Addr} {fs:List (Str×V)} (e:H a=some (.ins C dx fs)) (cl:EW K C) (ha:PySem.W.findIn K (.ref C) "__class__"=some (some (.builtin "object.__class__")))
   (hn:PySem.W.specialIn K (.builtin "object.__class__") "__get__"=some (some (.builtin "getset_descriptor.__get__"))) (htk:PySem.W.takesIn K (.builtin "object.__class__")=some true)
   (hm:PySem.W.mroIn K C (.type "object")=some true):uk K H (.ref a) (.ref C)
def m6{x:V}{u t:Value}(I:Inv X U Z H s)(rx:RelV x u)(ty:uk X.K H x t)(e:PySem.W.kitOne X.K t af=some b)(h:∀tk,Q (.bool b) {s with toks:=tk}):
  wpAny (model X.prog X.w) A (call (.builtin "isinstance") [u,af]) Q E s:=by
 cases ty with
 |cA=>cases(show u=Value.none from rx);exact fq PySem.W.kitx_none I.ml True.intro e (λz=>nomatch z) h
 |bl y=>cases(show u=Value.bool y from rx);exact fq PySem.W.kitx_bool I.ml True.intro e (λz=>nomatch z) h
 |int i=>obtain⟨t,q⟩:=(show∃t,u=Value.int i t from rx);cases q;exact fq PySem.W.kitx_int I.ml True.intro e (λz=>nomatch z) h
 |str y=>obtain⟨t,q⟩:=(show∃t,u=Value.str y t from rx);cases q;exact fq PySem.W.kitx_str I.ml True.intro e (λz=>nomatch z) h
 |zq y=>obtain⟨t,q⟩:=(show∃t,u=Value.float y t from rx);cases q;exact fq PySem.W.kitx_float I.ml True.intro e (λz=>nomatch z) h
 |@lst a xs g=>
  cases(show u=Value.ref a from rx);obtain⟨_,_,n,_,h1⟩:=(show cX X.prog X.w H s.heap a (.lst xs)from I.cW a _ g);exact fq xx I.ml ⟨_,h1,rfl⟩ e (λz=>nomatch z) h
 |@lJ a r xs g=>
  cases(show u=Value.ref a from rx);obtain⟨_,_,_,n,_,h1⟩:=(show cX X.prog X.w H s.heap a (.lJ r (.lst xs))from I.cW a _ g);exact fq xx I.ml ⟨_,h1,rfl⟩ e (λz=>nomatch z) h
 |@tup a xs g=>
  cases(show u=Value.ref a from rx);obtain⟨_,_,_,p⟩:=(show cX X.prog X.w H s.heap a (.tup xs)from I.cW a _ g);obtain⟨o,h1,h2,_⟩:=p;exact fq PySem.W.kitx_tuple I.ml ⟨o,h1,h2⟩ e (λz=>nomatch z) h
 |@dK a kvs g=>
  cases(show u=Value.ref a from rx);obtain⟨_,_,vs,_,p⟩:=(show cX X.prog X.w H s.heap a (.dK kvs)from I.cW a _ g);obtain⟨o,es,ep,h1,h2,_⟩:=p;exact fq tM I.ml ⟨o,h1,h2.1⟩ e (λz=>nomatch z) h
 |@dT a kvs g=>
  cases(show u=Value.ref a from rx);obtain⟨_,_,xs,_,o,es,ep,h1,h2,_⟩:=(show cX X.prog X.w H s.heap a (.dT kvs)from I.cW a _ g);exact fq tM I.ml ⟨o,h1,h2.1⟩ e (λz=>nomatch z) h
 |@ins a C dx fs g cl L M l hm=>
  cases(show u=Value.ref a from rx);obtain⟨mA,O,_⟩:=uj I.cW g;obtain⟨S,J,_⟩:=O.look;exact fq (PySem.W.kitx_own (cl.get _) cl.hd L M l hm) I.ml J e (λz=>nomatch z) h
end
structure dk(k:Nat)(A:Around):Prop where
 hd:A.handled=none
 dp:A.depth+3*k+5<recursionLimit
 un:A.units+16*k+200<cLine
def dk.mono {j k:Nat}(r:dk k A)(h:j<=k):dk j A:=⟨r.hd,by have:=r.dp;omega,by have:=r.un;omega⟩
theorem dk.deeper {k:Nat}(r:dk (k+1) A)(env:Env):dk k (A.deeper env):=
 ⟨r.hd,by have:=r.dp;show A.depth+1+3*k+5<_;omega,by have:=r.un;show A.units+3+16*k+200<_;omega⟩
theorem dk.in1 {k:Nat}(r:dk (k+1) A):dk k A.in1:=
 ⟨r.hd,by have:=r.dp;show A.depth+3*k+5<_;omega,by have:=r.un;show A.units+1+16*k+200<_;omega⟩
theorem E1{kw:List (Str×Value)}:(A.under (.builtin "type.__call__" ⟨.ref a::aq,kw⟩)).depth=A.depth+1:=by
 first|rfl|simp[Around.under,Code.weight,Code.isCreation,Code.isGuard,Code.isCaller,Code.frames,Code.isFrame,guardIds]
theorem E2{kw:List (Str×Value)}:(A.under (.builtin "type.__call__" ⟨.ref a::aq,kw⟩)).units=A.units+1:=by
 first|rfl|simp[Around.under,Code.cUnits,Code.frames,Code.isFrame]
def dk.make {k:Nat}(r:dk (k+1) A)(C:Addr)(us:List Value)(kw:List (Str×Value)):dk k (A.under (.builtin "type.__call__" ⟨.ref C::us,kw⟩)):=
 ⟨r.hd,by have:=r.dp;rw[E1];omega,by have:=r.un;rw[E2];omega⟩
theorem dk.depth {k:Nat}(r:dk k A):A.depth<recursionLimit:=by have:=r.dp;omega
theorem dk.units {k:Nat}(r:dk k A):A.units+64<cLine:=by have:=r.un;omega
def RU:TA:=λ_ H Q=>Q [] H
def V5(ta:TE)(q:TA):TA:=λZ H Q=>ta Z H λx H1=>q Z H1 λxs H2=>Q (x::xs) H2
section
variable {te:TE}{t:TA}
def sD:PA X [] RU:=λ_ _ _ _ H Q I h=>pC ⟨[],H,I,.nil,h⟩
theorem lU(q:PE X e te)(hr:PA X es t)(hs:starEach (e::es) X.env=(false,eval e X.env)::starEach es X.env:=by rfl):PA X (e::es) (V5 te t):=by
 intro pos U s Z H Q I h;rw[hs];show wpAny _ _ (spliced ((false,eval e X.env)::backTo pos (starEach es X.env))) _ _ s;refine kN (eN (q U s Z H _ I h) λu s1 ⟨x,H1,b,r1,g⟩=>?_);exact eN (hr pos U s1 Z H1 _ b g) λus s2 ⟨xs,H2,l,r2,n⟩=>⟨x::xs,H2,l,.cons r1 r2,n⟩
def aav(t:TA):TE:=λZ H Q=>t Z H λxs H1=>xs.length<=sizeLine/\∀p,H1 p=none->Q (.ref p) (upd H1 p (.tup xs))
def aaw(t:TA):TE:=λZ H Q=>t Z H λxs H1=>xs.length<=sizeLine/\∀p,H1 p=none->Q (.ref p) (upd H1 p (.lst xs))
theorem RV{x1}(h:PA X es t):PE X (.Tuple es x1 pos) (aav t):=by
 intro U s Z H Q I l;refine wpAny_Tuple_spliced (eN (h pos U s Z H _ I l) λus s1 ⟨xs,H1,g,r,z,q⟩=>⟨by rw[<-r.length];exact z,?_⟩);have hf:H1 s1.heap.objs.size=none:=g.cW.fresh (bA _);refine⟨.ref s1.heap.objs.size,upd H1 s1.heap.objs.size (.tup xs),g.laid (t':=s1.toks) (λb u e=>bS _ e) (bA _) ?_,rfl,q _ hf⟩;exact⟨z,us,r,⟨_,cz _ rfl,rfl,_,rfl⟩⟩
theorem Kq(h:PA X es t):PE X (.List es pos) (aaw t):=by
 intro U s Z H Q I l;refine wpAny_List_spliced (eN (h pos U s Z H _ I l) λus s1 ⟨xs,H1,g,r,z,q⟩=>⟨by rw[<-r.length];exact z,?_⟩);have hf:H1 s1.heap.objs.size=none:=g.cW.fresh (bA _);refine⟨.ref s1.heap.objs.size,upd H1 s1.heap.objs.size (.lst xs),g.laid (t':=s1.toks) (λb u e=>bS _ e) (bA _) ?_,rfl,q _ hf⟩;exact⟨z,us,0,r,cz _ rfl⟩
end
abbrev Sp:=List V->Hp->VK->XK->Prop
abbrev CQ:=List Env->Hp->Shared->XK->Value->Shared->Prop
structure zx(P:Program)(w:World)(K:Frag)(mg:Str->Option Value)(base:Heap)(A:Around)(outer:List Env)(s:Shared)(H:Hp):Prop where
 frames:A.frames=some outer
 mod:Mod K mg base
 bs:∀b o,base.get? b=some o->s.heap.get? b=some o/\H b=none
 Ie:base.objs.size<=s.heap.objs.size
 rK:s.heap.FunFrames base outer
 J8:∀b∈j8 outer,H b=none
 cW:sA P w H s.heap
 bare:AllBare s.gens
def CE(outer:List Env)(P:Program)(w:World)(H:Hp)(s:Shared)(Q:VK)(u:Value)(s':Shared):Prop:=
 ∃v H',s'.os=s.os/\AllBare s'.gens/\Un (j8 outer) [] H H' s.heap s'.heap/\sA P w H' s'.heap/\RelV v u/\Q v H'
def CR(CX:CQ)(outer:List Env)(P:Program)(w:World)(H:Hp)(s:Shared)(Q:VK)(E:XK)(r:Result)(s':Shared):Prop:=
 match r with
 |.ok (.ret u)=>CE outer P w H s Q u s'
 |.ok _=>False
 |.error e=>CX outer H s E e s'
structure eI(P:Program)(w:World)(K:Frag)(mg:Str->Option Value)(base:Heap)(CX:CQ)(k:Nat)(f:Addr)(fd:FuncData)(ps:List Str)(sp:Sp):Prop where
 len:∀vs H Q E,sp vs H Q E->vs.length=ps.length
 run:∀(A:Around) (outer:List Env) (s:Shared) (H:Hp) (args:Args) (us:List Value) (vs:List V) (Q:VK) (E:XK),dk k A->zx P w K mg base A outer s H->BindsTo s fd args (ps.zip us)->Vals vs us->sp vs H Q E->
  codeAny (model P w) A (.call (.ref f) args) (CR CX outer P w H s Q E) s
theorem eI.mono {base:Heap}{CX:CQ}{j k:Nat}{f:Addr}{fd:FuncData}{sp:Sp}(F:eI P w K mg base CX j f fd ps sp)(h:j<=k):
  eI P w K mg base CX k f fd ps sp:=⟨F.len,λA outer s H args us vs Q E b=>F.run A outer s H args us vs Q E (b.mono h)⟩
theorem zx.make {base:Heap}{outer:List Env}(e:zx P w K mg base A outer s H)(C:Addr)(us:List Value)(kw:List (Str×Value)):
  zx P w K mg base (A.under (.builtin "type.__call__" ⟨.ref C::us,kw⟩)) outer s H:=⟨by first|exact e.frames|(simpa[Around.under,Code.envs,Code.isFrame,pushEnvs]using e.frames),e.mod,e.bs,e.Ie,e.rK,e.J8,e.cW,e.bare⟩
theorem zx.in1 {base:Heap}{outer:List Env}(e:zx P w K mg base A outer s H):
  zx P w K mg base A.in1 outer s H:=⟨e.frames,e.mod,e.bs,e.Ie,e.rK,e.J8,e.cW,e.bare⟩
section
variable {s':Shared}
def Inv.RW (I:Inv X U Z H s):zx X.prog X.w X.K X.mg X.base X.A X.stack s H:=
 ⟨I.ok.frames,I.ok.mod,I.bs,cB I.ok.Ie I.sz,I.stack,I.wK,I.cW,I.bare⟩
theorem Inv.after {Q:VK}{u:Value}(I:Inv X U Z H s)(h:CE X.stack X.prog X.w H s Q u s'):EP X U Z Q u s':=by
 obtain⟨v,H',os,bare,un,cW,r,q⟩:=h;obtain⟨n,g,d,t,l⟩:=s';obtain rfl:l=s.os:=os;exact⟨v,H',I.call (h':=n) (g':=g) (d':=d) (t':=t) (ch:=[]) un cW bare (λb z=>absurd z (by simp)),r,q⟩
end
def Qm(sp:Sp)(q:List V)(E:XK)(t:TA):TE:=λZ H Q=>t Z H λvs H1=>sp (vs++q) H1 Q E
def Qn(C:Addr)(m:Str)(sp:Sp)(q:List V)(E:XK)(ta:TE)(t:TA):TE:=λZ H Q=>ta Z H λx H1=>∃a dx fs,x=.ref a/\H1 a=some (.ins C dx fs)/\fs.lookup m=none/\
 t Z H1 λvs H2=>sp (x::(vs++q)) H2 Q E
def Qo(C:Addr)(sp:Sp)(q:List V)(E:XK)(t:TA):TE:=λZ H Q=>t Z H λvs H1=>∀x dx,H1 x=none->H1 dx=none->dx≠x->
 sp (.ref x::(vs++q)) (upd (upd H1 dx (.own x)) x (.ins C dx [])) (λv H2=>v=.cA/\Q (.ref x) H2) E
def Binds(K:Frag)(fd:FuncData)(ps:List Str)(ds:List Value):Prop:=
 ∀(s:Shared) (us:List Value),K.In s.heap->(us++ds).length=ps.length->BindsTo s fd ⟨us,[]⟩ (ps.zip (us++ds))
def Binds.all {fd:FuncData}(h:∀us:List Value,us.length=ps.length->bindArgs fd ⟨us,[]⟩=pure (ps.zip us)):Binds K fd ps []:=λs us _ b=>by
 rw[kj]at b⊢;exact .of_eq (h us b)
def Passes(CX:CQ)(X:Cx)(E:XK):Prop:=∀(U:List (Addr×Obj)) (Z:St) (H:Hp) (s:Shared) (e:Value) (s':Shared),Inv X U Z H s->CX X.stack H s E e s'->X.xe e s'
section
variable {CX:CQ}{k:Nat}{f C:Addr}{fd:FuncData}{sp:Sp}{E:XK}{ta:TE}{t:TA}
def E3{Q:VK}{us:List Value}{vs:List V}(F:eI X.prog X.w X.K X.mg X.base CX k f fd ps sp)(q:dk k X.A)(hb:Binds X.K fd ps aq)(hd:Vals ar aq)(hx:Passes CX X E)
  (I:Inv X U Z H s) (r:Vals vs us) (h:sp (vs++ar) H Q E):wpAny (model X.prog X.w) X.A (call (.ref f) us) (EP X U Z Q) X.xe s:=by
 have g:Vals (vs++ar) (us++aq):=r.append hd;have l:(us++aq).length=ps.length:=by rw[<-g.length];exact F.len _ _ _ _ h
 refine pP (iO (F.run X.A X.stack s H ⟨us,[]⟩ (us++aq) (vs++ar) Q E q I.RW (hb s us I.ml l) g h) λr s' b=>?_);cases r with
 |error e=>exact hx U Z H s e s' I b
 |ok fl=>
  cases fl with
  |ret u=>exact I.after b
  |_=>exact False.elim b
theorem Gv(F:eI X.prog X.w X.K X.mg X.base CX k f fd ps sp)(hr:dk k X.A)(hg:Gl X x)(hm:X.mg x=some (.ref f))(hk:PySem.W.keepIn X.K (.ref f)=true)(hb:Binds X.K fd ps aq)(hd:Vals ar aq)(hx:Passes CX X E)
  (ha:PA X (e::es) t) (fQ:Db x:=by decide) (he:starEach (e::es) X.env=(false,eval e X.env)::starEach es X.env:=by rfl) (oY:(backTo pos (starEach es X.env)).any (·.1)=false:=by rfl):
  PE X (.Call (.Name x p) (e::es) [] pos) (Qm sp ar E t):=by
 intro U s Z H Q I h;refine mR (qV I hg hm ?_ fQ);refine xq (h₀:=X.base) I.ok.mod.Qf hk (eN (ha pos U s Z H _ I h) λus s1 ⟨vs,H1,b,r,q⟩=>⟨b.ml,?_⟩) he oY;exact E3 F hr hb hd hx b r q
theorem Gw{pl:Sem Bool}(he:PE X o ta)(c:EW X.K C)(hm:Meth X.K C av f)(F:eI X.prog X.w X.K X.mg X.base CX k f fd ps sp)(hr:dk k X.A)(hb:Binds X.K fd ps aq)(hd:Vals ar aq)(hx:Passes CX X E)(ha:PA X (e::es) t)
  (cJ:starEach (e::es) X.env=(false,eval e X.env)::starEach es X.env:=by rfl) (oY:(backTo pos (starEach es X.env)).any (·.1)=false:=by rfl)
  (ht:eval (.Call (.Attribute o av b8) (e::es) [] pos) X.env=ud pos b8 o av (e::es) X.env pl:=by rfl):
  PE X (.Call (.Attribute o av b8) (e::es) [] pos) (Qn C av sp ar E ta t):=by
 intro U s Z H Q I h;refine PySem.W.methodCall_KW (pl:=pl) (eN (he U s Z H _ I h) λu s1 ⟨x,H1,b,n,a,dx,fs,ex,L,l,q⟩=>?_) ht;subst ex;obtain rfl:u=Value.ref a:=n;refine x8 b L c hm l ?_
 refine xq (first:=[.ref a]) (h₀:=X.base) I.ok.mod.Qf hm.kp (eN (ha pos U s1 Z H1 _ b q) λus s2 ⟨vs,H2,g,r,M⟩=>⟨g.ml,?_⟩) cJ oY;exact E3 (us:=.ref a::us) (vs:=.ref a::vs) F hr hb hd hx g (.cons rfl r) M
theorem CT{pl:Sem Bool}(he:PE X o ta)(c:EW X.K C)(hm:Meth X.K C av f)(F:eI X.prog X.w X.K X.mg X.base CX k f fd ps sp)(hr:dk k X.A)(hb:Binds X.K fd ps aq)(hd:Vals ar aq)(hx:Passes CX X E)
  (ht:eval (.Call (.Attribute o av b8) [] [] pos) X.env=ud pos b8 o av [] X.env pl:=by rfl):
  PE X (.Call (.Attribute o av b8) [] [] pos) (Qn C av sp ar E ta RU):=by
 intro U s Z H Q I h;refine PySem.W.methodCall_KW (pl:=pl) (eN (he U s Z H _ I h) λu s1 ⟨x,H1,b,g,a,dx,fs,ex,n,l,q⟩=>?_) ht;subst ex;obtain rfl:u=Value.ref a:=g;refine x8 b n c hm l ?_
 exact PySem.W.callWith_K0 (first:=[.ref a]) b.ml hm.kp (E3 (us:=[.ref a]) (vs:=[.ref a]) F hr hb hd hx b (.cons rfl .nil) q)
structure Mk(K:Frag)(C f:Addr):Prop where
 makes:PySem.W.makesIn K C=true
 init:PySem.W.findIn K (.ref C) "__init__"=some (some (.ref f))
 fn:PySem.W.isFn K (.ref f)=true
 kp:PySem.W.keepIn K (.ref C)=true
def CU{Q:VK}{us:List Value}{vs:List V}(M:Mk X.K C f)(F:eI X.prog X.w X.K X.mg X.base CX k f fd ps sp)(q:dk (k+1) X.A)(hb:Binds X.K fd ps aq)(hd:Vals ar aq)
  (hx:Passes CX X E) (I:Inv X U Z H s) (r:Vals vs us)
  (h:∀x dx,H x=none->H dx=none->dx≠x->sp (.ref x::(vs++ar)) (upd (upd H dx (.own x)) x (.ins C dx [])) (λv H2=>v=.cA/\Q (.ref x) H2) E):
  wpAny (model X.prog X.w) X.A (call (.ref C) us) (EP X U Z Q) X.xe s:=by
 have l:=h (s.heap.objs.size+1) s.heap.objs.size (I.cW.fresh (pN _)) (I.cW.fresh (bA _)) (cf (pw _));have b:=Inv.made (C:=C) I;have n:Vals (V.ref (s.heap.objs.size+1)::(vs++ar)) (Value.ref (s.heap.objs.size+1)::(us++aq)):=.cons rfl (r.append hd);have L:(Value.ref (s.heap.objs.size+1)::us++aq).length=ps.length:=by
  have e:=n.length;rw[F.len _ _ _ _ l]at e;exact e.symm
 refine pP (Ko (f:=f) I.ml M.makes M.init (fu.mp M.fn) (iO (F.run _ X.stack _ _ ⟨Value.ref (s.heap.objs.size+1)::us,[]⟩ (Value.ref (s.heap.objs.size+1)::(us++aq)) _ _ E (q.make C us [])
  (b.RW.make C us []) (hb _ (Value.ref (s.heap.objs.size+1)::us) b.ml L) n l) λr s' g=>?_))
 cases r with
 |error e=>exact hx U Z _ _ e s' b g
 |ok fl=>
  cases fl with
  |ret u=>
   obtain⟨v,H',S,rv,ev,q3⟩:=b.after g;subst ev;exact⟨rv,⟨V.ref (s.heap.objs.size+1),H',S,rfl,q3⟩⟩
  |_=>exact False.elim g
theorem NM(M:Mk X.K C f)(F:eI X.prog X.w X.K X.mg X.base CX k f fd ps sp)(hr:dk (k+1) X.A)(hg:Gl X x)(hm:X.mg x=some (.ref C))(hb:Binds X.K fd ps aq)(hd:Vals ar aq)(hx:Passes CX X E)
  (ha:PA X (e::es) t) (fQ:Db x:=by decide) (he:starEach (e::es) X.env=(false,eval e X.env)::starEach es X.env:=by rfl) (oY:(backTo pos (starEach es X.env)).any (·.1)=false:=by rfl):
  PE X (.Call (.Name x p) (e::es) [] pos) (Qo C sp ar E t):=by
 intro U s Z H Q I h;refine mR (qV I hg hm ?_ fQ);refine xq (h₀:=X.base) I.ok.mod.Qf M.kp (eN (ha pos U s Z H _ I h) λus s1 ⟨vs,H1,b,r,q⟩=>⟨b.ml,?_⟩) he oY;exact CU M F hr hb hd hx b r q
theorem Kr(M:Mk X.K C f)(F:eI X.prog X.w X.K X.mg X.base CX k f fd ps sp)(q:dk (k+1) X.A)(hg:Gl X x)(hm:X.mg x=some (.ref C))(hb:Binds X.K fd ps aq)(hd:Vals ar aq)(hx:Passes CX X E)
  (fQ:Db x:=by decide):PE X (.Call (.Name x p) [] [] pos) (Qo C sp ar E RU):=by
 intro U s Z H Q I h;refine mR (qV I hg hm ?_ fQ);exact PySem.W.callWith_K0 I.ml M.kp (CU (us:=[]) M F q hb hd hx I .nil h)
end
structure hX(N P:List Str)(sc:Scope):Prop where
 kind:sc.kind=.function
 co:sc.isCoroutine=false
 gen:sc.isGenerator=false
 nd:N.Nodup
 pre:N.take P.length=P
 par:∀x∈P,sc.names.lookup x=some .local\/sc.names.lookup x=some .cell
 RX:∀y∈sc.names,y.2≠ .free
theorem zU{kindOf:Str->Option NameKind}:∀{binds:List (Str×Value)} {m:Str->Option Value},(∀v,(x,v)∉binds)->bindL kindOf binds m x=m x
 |[],_,_=>rfl
 |(n,v)::r,m,h=>by
  unfold bindL;rw[zU λw hw=>h w (cw _ hw)];split
  ·have:x≠n:=by rintro rfl;exact h v cG
   simp[this]
  ·rfl
theorem zV{kindOf:Str->Option NameKind}:∀{binds:List (Str×Value)} {m:Str->Option Value},(∀v,(x,v)∉binds)->bindC kindOf binds m x=m x
 |[],_,_=>rfl
 |(n,v)::r,m,h=>by
  unfold bindC;rw[zV λw hw=>h w (cw _ hw)];split
  ·rfl
  ·have:x≠n:=by rintro rfl;exact h v cG
   simp[this]
theorem zW{kindOf:Str->Option NameKind}{v:Value}:∀{P:List Str} {vs:List Value} {i:Nat} {m:Str->Option Value},P.Nodup->P[i]?=some x->vs[i]?=some v->kindOf x=some .local->
  bindL kindOf (P.zip vs) m x=some v
 |[],_,_,_,_,h,_,_=>by simp at h
 |_::_,[],_,_,_,_,h,_=>by simp at h
 |p::P,w::vs,0,m,nd,h1,h2,b=>by
  simp at h1 h2;subst h1;subst h2;show bindL kindOf ((p,w)::P.zip vs) m p=_;unfold bindL;rw[zU λv g=>(gF.mp nd).1 (tU g).1,aY b];simp
 |p::P,w::vs,i+1,m,nd,h1,h2,b=>by
  show bindL kindOf ((p,w)::P.zip vs) m x=_;unfold bindL;exact zW (i:=i) (gF.mp nd).2 (by simpa using h1) (by simpa using h2) b
theorem zX{kindOf:Str->Option NameKind}{v:Value}:∀{P:List Str} {vs:List Value} {i:Nat} {m:Str->Option Value},P.Nodup->P[i]?=some x->vs[i]?=some v->kindOf x≠some .local->
  bindC kindOf (P.zip vs) m x=some v
 |[],_,_,_,_,h,_,_=>by simp at h
 |_::_,[],_,_,_,_,h,_=>by simp at h
 |p::P,w::vs,0,m,nd,h1,h2,b=>by
  simp at h1 h2;subst h1;subst h2;show bindC kindOf ((p,w)::P.zip vs) m p=_;unfold bindC;rw[zV λv g=>(gF.mp nd).1 (tU g).1,bc b];simp
 |p::P,w::vs,i+1,m,nd,h1,h2,b=>by
  show bindC kindOf ((p,w)::P.zip vs) m x=_;unfold bindC;exact zX (i:=i) (gF.mp nd).2 (by simpa using h1) (by simpa using h2) b
noncomputable def start(N:List Str)(vs:List V):St:=vs.map some++List.replicate (N.length - vs.length) none
noncomputable def oZ(CX:CQ)(P:Program)(w:World)(K:Frag)(mg:Str->Option Value)(base:Heap)(N:List Str)(qual:Str)(scope:Scope)(f:Addr)(cd:Value)(A:Around)(outer:List Env)(s:Shared)(H:Hp)(E:XK):Cx where
 prog:=P
 w:=w
 K:=K
 mg:=mg
 base:=base
 A:=A.deeper (envOfC qual scope s.heap.objs.size f cd)
 N:=N
 gH:=s
 CL:=H
 env:=envOfC qual scope s.heap.objs.size f cd
 outer:=outer
 stack:=envOfC qual scope s.heap.objs.size f cd::outer
 ex:=[]
 calm:=true
 fn:=λ_=>true
 pn:=[]
 xe:=λe s'=>wpAny (model P w) (A.deeper (envOfC qual scope s.heap.objs.size f cd)) (leaving (envOfC qual scope s.heap.objs.size f cd) e) (λ_ b=>CX outer H s E e b) (λg b=>CX outer H s E g b) s'
def CV{n:Nat}(h:ax.names.lookup x=some .cell):∃c,(cellsFrom n ax.names []).lookup x=some c:=by
 have q:=PySem.W.cellsFrom_some ax.names n [] (.inl h);exact xj.mp q
theorem Ip{CX:CQ}{N:List Str}{outer:List Env}{s1:Shared}{E:XK}
  (S:hX N ps ax) (hd:A.handled=none) (e0:zx P w K mg aa A outer s H) (hl:ar.length=ps.length) (r:Vals ar aq)
  (x:InCallC s s.heap.objs.size (bindL (envOfC av ax s.heap.objs.size au af).kindOf (ps.zip aq) λ_=>none) (cellsFrom (s.heap.objs.size+1) ax.names []) (bindC (envOfC av ax s.heap.objs.size au af).kindOf (ps.zip aq) λ_=>none) s1):
  Inv (oZ CX P w K mg aa N av ax au af A outer s H E) [] (start N ar) H s1:=by
 have oY:ps.length<=N.length:=by have:=cV List.length S.pre;rw[List.length_take]at this;omega
 obtain⟨I,tk,rfl,M⟩:=x.done;have L:∀b:Addr,b∉(oZ CX P w K mg aa N av ax au af A outer s H E).ex:=λb z=>absurd (show b∈([]:List Addr)from z) (by simp);refine⟨⟨e0.mod,S.kind,rfl,rfl,bA _,λy z c I h2=>?_,λy g=>?_,λy c _ h=>?_,λ_=>hd,Around.frames_deeper e0.frames,.inr ⟨rfl,rfl⟩,λb z=>absurd z (L b),e0.bs,e0.Ie,λb _ _=>L b,λb z=>absurd z (L b),e0.rK,e0.J8⟩,
  rfl,e0.bare,Un.kept M,⟨_,x.toInCall.ns,λi y v I h2 h3=>?_⟩,λy c h=>⟨_,x.cell y c h⟩,e0.cW.fresh (bA _),λy c h=>?_,λp hp=>absurd (show p∈([]:List (Addr×Obj))from hp) (by simp),e0.cW.kept M,?_⟩
 ·exact name_of_addr x.apart (lP I) (lP h2)
 ·have g:ax.names.lookup y=some .cell\/ax.names.lookup y=some .free:=g;rcases g with g|g
  ·exact CV g
  ·exact absurd rfl (S.RX _ (lP g))
 ·exact du (x.above y c (lP h))
 ·have hi:i<ar.length:=by
   unfold start at h2;by_cases hi:i<ar.length
   ·exact hi
   ·rw[xh (by simpa using hi)]at h2;rw[sY]at h2;split at h2<;>cases h2
  have ha:ar[i]?=some v:=by
   unfold start at h2;rw[o7 (by simpa using hi),cq]at h2;cases e:ar[i]? with
   |none=>rw[e]at h2;cases h2
   |some a=>rw[e]at h2;cases h2;rfl
  obtain⟨u,hu,rv⟩:=r.get ha;have hp:ps[i]?=some y:=by
   rw[<-S.pre,List.getElem?_take_of_lt (by omega)];exact I
  have l:ps.Nodup:=by rw[<-S.pre];exact S.nd.sublist (List.take_sublist _ _)
  refine⟨u,rv,?_⟩;rcases S.par y (d8 hp)with k|k
  ·exact .inl ⟨k,zW l hp hu k⟩
  ·obtain⟨c,e⟩:=CV (n:=s.heap.objs.size+1) k;refine .inr ⟨.inl k,c,e,?_⟩;have q:=x.cell y c e;rw[zX l hp hu (by show ax.names.lookup y≠_;rw[k];decide)]at q;exact q
 ·exact e0.cW.fresh (du (x.above y c (lP h)))
 ·unfold start;show _=N.length;rw[fm,bu,xo];omega
theorem Qp{CX:CQ}{qual:Str}{params:Arguments}{kV doc pm gn ct oc:Value}{an od:Option Addr}
  {Ks:Array (Option Value)} {N:List Str} {sp:Sp} (lk:K.lookup a=some ⟨oc,od,.func (PySem.W.fnOf av qual params ah ax af kV doc pm an gn ct),Ks⟩) (EL:PySem.W.codeIn K gn qual=true) (S:hX N ps ax)
  (len:∀vs H Q E,sp vs H Q E->vs.length=ps.length)
  (kZ:∀(A:Around) (outer:List Env) (s:Shared) (H:Hp) (vs:List V) (Q:VK) (E:XK),dk i (A.deeper (envOfC qual ax s.heap.objs.size a gn))->sp vs H Q E->
   ∃t,o6 (oZ CX P w K mg aa N qual ax a gn A outer s H E) ah t/\t {nx:=λ_ H'=>Q .cA H',rt:=Q} (start N vs) H):
  eI P w K mg aa CX (i+1) a (PySem.W.fnOf av qual params ah ax af kV doc pm an gn ct) ps sp:=by
 refine⟨len,λA outer s H args us vs Q E l g hb r L=>?_⟩;have hl:=len _ _ _ _ L;have M:K.In s.heap:=g.mod.Qf.keeps λb o e=>(g.bs b o e).1;have lim:s.heap.NoLimit:=g.mod.nolimit.keeps λb o e=>(g.bs b o e).1;have V9:∀y∈ps.zip us,ax.names.lookup y.1=some .local\/(ax.names.lookup y.1=some .cell/\((cellsFrom (s.heap.objs.size+1) ax.names []).lookup y.1).isSome=true):=λ⟨n,v⟩ hy=>by
  rcases S.par n (tU hy).1 with q|q
  ·exact .inl q
  ·exact .inr ⟨q,PySem.W.cellsFrom_some _ _ _ (.inl q)⟩
 refine codeAny_call_function l.depth (M _ _ lk) rfl S.co S.gen rfl (PySem.W.codeRec_of M EL) (hb _ _ _ _ ?_);refine wpAny_newFunctionEnv_cells S.kind V9 λenv he s1 x=>?_
 subst he;refine⟨lim.keeps x.toInCall.keep,codeAny_func ?_⟩;obtain⟨t,ht,hq⟩:=kZ A outer s H vs Q E (l.deeper _) L;have I:Inv (oZ CX P w K mg aa N qual ax a gn A outer s H E) [] (start N vs) H s1:=Ip S l.hd g hl r x;refine ee (ht [] s1 (start N vs) H _ I hq) (λfl s' hs=>?_) λe s' hs=>hs;have fin:∀{dB:St} {H':Hp} {v:V} {u:Value},Inv (oZ CX P w K mg aa N qual ax a gn A outer s H E) [] dB H' s'->RelV v u->Q v H'->CE outer P w H s Q u s':=
  λ{dB H' v u} J rv q=>⟨v,H',J.os,J.bare,J.base,J.cW,rv,q⟩
 cases fl with
 |ret u=>
  obtain⟨v,dB,H',J,rv,q⟩:=hs;exact fin J rv q
 |next=>
  obtain⟨dB,H',J,q⟩:=hs;exact fin (v:=V.cA) (u:=Value.none) J rfl q
 |brk=>
  obtain⟨_,_,_,q⟩:=hs;exact False.elim q
 |cont=>
  obtain⟨_,_,_,q⟩:=hs;exact False.elim q
section
variable {t:TA}{T:String}{r:List V->Hp->VK->Prop}
def tCB(r:List V->Hp->VK->Prop)(t:TA):TE:=λZ H Q=>t Z H λvs H1=>r vs H1 Q
theorem pS(q:gQ X (.builtin ay) r)(hg:Gl X x)(hm:X.mg x=none)(hv:bootBuiltins x=some (.builtin ay))(ha:PA X (e::es) t)(hn:x≠"__name__":=by decide) (fQ:Db x:=by decide)
  (he:starEach (e::es) X.env=(false,eval e X.env)::starEach es X.env:=by rfl) (oY:(backTo pos (starEach es X.env)).any (·.1)=false:=by rfl):PE X (.Call (.Name x p) (e::es) [] pos) (tCB r t):=by
 intro U s Z H Q I h;refine mR (vg I hg hm hv ?_ hn fQ);exact PyProof.Rows.callWith_builtin1 (eN (ha pos U s Z H _ I h) λus s1 ⟨vs,H1,b,r1,g⟩=>q U s1 Z H1 vs us Q b r1 g) he oY
theorem vk(q:gQ X (.type T) r)(hg:Gl X x)(hm:X.mg x=none)(hv:bootBuiltins x=some (.type T))(ha:PA X (e::es) t)(hn:x≠"__name__":=by decide) (fQ:Db x:=by decide)
  (he:starEach (e::es) X.env=(false,eval e X.env)::starEach es X.env:=by rfl) (oY:(backTo pos (starEach es X.env)).any (·.1)=false:=by rfl):PE X (.Call (.Name x p) (e::es) [] pos) (tCB r t):=by
 intro U s Z H Q I h;refine mR (vg I hg hm hv ?_ hn fQ);exact xg (eN (ha pos U s Z H _ I h) λus s1 ⟨vs,H1,b,r1,g⟩=>q U s1 Z H1 vs us Q b r1 g) he oY
end
abbrev TO:=St->Hp->(Option Int->Hp->Prop)->Prop
def PO(X:Cx)(e:Option Expr)(t:TO):Prop:=
 ∀(U:List (Addr×Obj)) (s:Shared) (Z:St) (H:Hp) (Q:Option Int->Hp->Prop),Inv X U Z H s->t Z H Q->
  wpAny (model X.prog X.w) X.A (evalPart e X.env) (λu s'=>∃o H',Inv X U Z H' s'/\IsPart u o/\Q o H') X.xe s
def NN:TO:=λ_ H Q=>Q none H
def V_(t:TE):TO:=λZ H Q=>t Z H λx H1=>∃i,x=.int i/\Q (some i) H1
section
variable {te:TE}{lo hi:Option Expr}{tl th:TO}{p2:Pos}
theorem NO:PO X none NN:=by
 intro U s Z H Q I h;rw[evalPart_none];exact bg ⟨none,H,I,.none,h⟩
theorem NP(h:PE X e te):PO X (some e) (V_ te):=by
 intro U s Z H Q I hw;rw[evalPart_some];refine eN (h U s Z H _ I hw) λu s1 ⟨x,H1,b,r1,g⟩=>?_
 obtain⟨i,rfl,q⟩:=g;obtain⟨t,rfl⟩:=r1;exact⟨some i,H1,b,.int i t,q⟩
def Ve(X:Cx)(r:V->Option Int->Option Int->Hp->VK->Prop):Prop:=
 ∀(U:List (Addr×Obj)) (s:Shared) (Z:St) (H:Hp) (x:V) (v b g:Value) (lo hi:Option Int) (sl:Addr) (Q:VK),Inv X U Z H s->RelV x v->s.heap.IsSliceOf sl b g .none->IsPart b lo->IsPart g hi->r x lo hi H Q->
  ∃T id,typeLookup (.type T) "__getitem__"=pure (some (.builtin id))/\s.TypeIs v T/\wpAny (model X.prog X.w) X.A (getItem v (.ref sl)) (EP X U Z Q) X.xe s
def tSl(r:V->Option Int->Option Int->Hp->VK->Prop)(te:TE)(tl th:TO):TE:=λZ H Q=>te Z H λx H1=>tl Z H1 λl H2=>th Z H2 λu b=>r x l u b Q
theorem Ku{r:V->Option Int->Option Int->Hp->VK->Prop}(hr:Ve X r)(he:PE X e te)(hl:PO X lo tl)(hu:PO X hi th):PE X (.Subscript e (.Slice lo hi none p2) pos) (tSl r te tl th):=by
 intro U s Z H Q I h;refine Subscript_ (eN (he U s Z H _ I h) λv s1 ⟨x,H1,M,r1,S⟩=>?_);refine wpAny_Slice (eN (hl U s1 Z H1 _ M S) λg s2 ⟨l,H2,I2,pl,q2⟩=>eN (hu U s2 Z H2 _ I2 q2) λn s3 ⟨u,L,I3,pu,q3⟩=>?_);rw[evalPart_none];refine bg ?_
 have I4:Inv X U Z L {s3 with heap:=s3.heap.push {cls:=.type "slice",data:=.fields #[g,n,.none]}}:=I3.kept (t':=s3.toks) λb ob q=>bS _ q;obtain⟨T,id,hT,ht,hg⟩:=hr U {s3 with heap:=s3.heap.push {cls:=.type "slice",data:=.fields #[g,n,.none]}} Z L x v g n l u s3.heap.objs.size Q I4 r1 (Heap.IsSliceOf.new ..) pl pu q3;show wpAny (model X.prog X.w) X.A (subscriptTail e (.Slice lo hi none p2) v (.ref s3.heap.objs.size)) (EP X U Z Q) X.xe {s3 with heap:=s3.heap.push {cls:=.type "slice",data:=.fields #[g,n,.none]}};exact tail_any (ops:=[.ref s3.heap.objs.size,v]) ht hT hg (by with_unfolding_all rfl)
def CW(xs:List V)(lo hi:Option Int):List V:=(xs.drop (HT.iF xs.length 0 lo)).take (HT.iF xs.length xs.length hi - HT.iF xs.length 0 lo)
def vR(xs:List V)(lo hi:Option Int):(CW xs lo hi).length<=xs.length:=by
 unfold CW;rw[List.length_take,List.length_drop];omega
def aax(K:Frag):V->Option Int->Option Int->Hp->VK->Prop:=λx lo hi H Q=>∃a xs,x=.ref a/\ju K H a xs/\
 ¬(HT.iF xs.length 0 lo=0/\HT.iF xs.length xs.length hi=xs.length)/\∀p,H p=none->Q (.ref p) (upd H p (.tup (CW xs lo hi)))
theorem RZ:Ve X (aax X.K):=by
 intro U s Z H x v M S lo hi sl Q I n hs pl pu h;obtain⟨a,xs,rfl,L,hw,q⟩:=h;cases n;obtain⟨cy,r,l,hz⟩:=I.tuple L;have g:cy.toArray.size=xs.length:=by rw[cU];exact r.length.symm
 refine⟨"tuple",_,xi.lookup,l.typeIs,?_⟩;refine HT.uc l hs pl pu (by rw[g];exact hw) ?_ (by rw[g];exact hz)
 rw[g];refine⟨.ref s.heap.objs.size,_,I.laid (t':=s.toks) (o:=.tup (CW xs lo hi)) (λb ob q=>bS _ q) (bA _) ?_,rfl,q _ (I.cW.fresh (bA _))⟩;exact⟨cB (vR xs lo hi) hz,_,(r.drop (HT.iF xs.length 0 lo)).take (HT.iF xs.length xs.length hi - HT.iF xs.length 0 lo),IsTup.new _ _⟩
def V'(K:Frag):R2:=λx y H Q=>∃a b xs ys,x=.ref a/\y=.ref b/\ju K H a xs/\ju K H b ys/\xs≠[]/\xs.length+ys.length<=sizeLine/\
 (ys=[]->Q (.ref a) H)/\(ys≠[]->∀p,H p=none->Q (.ref p) (upd H p (.tup (xs++ys))))
def Vals.A_ {xs:List V}{us:List Value}(r:Vals xs us):us=[]↔xs=[]:=by
 cases r with
 |_=>simp
theorem NQ:vh X (binaryOp .Add) (V' X.K):=by
 intro U s Z H x y v u Q I g l h;obtain⟨a,b,xs,ys,rfl,rfl,ha,hb,n,hz,r,L⟩:=h;cases g;cases l;obtain⟨cy,r1,p1,_⟩:=I.tuple ha;obtain⟨M,r2,p2,_⟩:=I.tuple hb;refine HT.Nr p1 p2 (λz=>n (r1.A_.mp z)) (λz=>⟨.ref a,H,I,rfl,r (r2.A_.mp z)⟩) (λz=>?_) (by rw[<-r1.length,<-r2.length];exact hz);refine⟨.ref s.heap.objs.size,_,I.laid (t':=s.toks) (o:=.tup (xs++ys)) (λb S q=>bS _ q) (bA _) ?_,rfl,L (λw=>z (r2.A_.mpr w)) _ (I.cW.fresh (bA _))⟩;exact⟨by rw[fm];exact hz,_,r1.append r2,IsTup.new _ _⟩
end
noncomputable def Nj(n:Nat)(i:Int):Option Nat:=if 0<=i then(if i<n then some i.toNat else none)else if-(n:Int)<=i then some (i+n).toNat else none
def vm{α:Type}(xs:List α)(i:Int):Option α:=(Nj xs.length i).bind λj=>xs[j]?
theorem NR{n:Nat}{i:Int}{j:Nat}(h:Nj n i=some j):seqIndex? i n=some j/\j<n/\-(n:Int)<=i/\i<n:=by
 unfold Nj at h;by_cases h0:0<=i
 ·rw[aY h0]at h;by_cases h1:i<n
  ·rw[aY h1]at h;have e:i.toNat=j:=Option.some.inj h;exact⟨by rw[seqIndex_of h0 h1,e],by omega,by omega,h1⟩
  ·rw[bc h1]at h;cases h
 ·rw[bc h0]at h;by_cases h1:-(n:Int)<=i
  ·rw[aY h1]at h;have e:(i+n).toNat=j:=Option.some.inj h;exact⟨by rw[seqIndex_neg (by omega) h1,e],by omega,h1,by omega⟩
  ·rw[bc h1]at h;cases h
def Ba{xs:List ag}{i:Int}{v:ag}(h:vm xs i=some v):∃j,seqIndex? i xs.length=some j/\xs[j]?=some v/\j<xs.length/\-(xs.length:Int)<=i/\i<xs.length:=by
 unfold vm at h;cases e:Nj xs.length i with
 |none=>rw[e]at h;cases h
 |some j=>
  rw[e]at h;obtain⟨h1,h2,b,g⟩:=NR e;exact⟨j,h1,h,h2,b,g⟩
def Bc{xs:List ag}{j:Nat}{v:ag}(h:xs[j]?=some v):vm xs (j:Int)=some v:=by
 have b:j<xs.length:=(gD.mp h).1;have e:Nj xs.length (j:Int)=some j:=by
  unfold Nj;rw[aY (by omega),aY (by omega)];simp
 unfold vm;rw[e];exact h
def um(b:Expr):Prop:=∀o i,subscripted b false o i=operate [o,i] (getItem o i)
def Wa(X:Cx)(r:R2):Prop:=
 ∀(value slice:Expr) (U:List (Addr×Obj)) (s:Shared) (Z:St) (H:Hp) (x y:V) (v u:Value) (Q:VK),Inv X U Z H s->RelV x v->RelV y u->r x y H Q->
  subscripted slice false v u=operate [v,u] (getItem v u)->wpAny (model X.prog X.w) X.A (subscriptTail value slice v u) (EP X U Z Q) X.xe s
def R0(X:Cx)(id:String)(r:V->List V->Hp->VK->Prop):Prop:=
 ∀(U:List (Addr×Obj)) (s:Shared) (Z:St) (H:Hp) (x:V) (xs:List V) (v:Value) (us:List Value) (Q:VK),Inv X U Z H s->RelV x v->Vals xs us->r x xs H Q->
  wpAny (model X.prog X.w) X.A (call (.builtin id) (v::us)) (EP X U Z Q) X.xe s
section
variable {ta tb:TE}
theorem Qq{r:R2}(hr:Wa X r)(ha:PE X tg ta)(hb:PE X am tb)(hs:um am):PE X (.Subscript tg am pos) (RK r ta tb):=by
 intro U s Z H Q I h;exact Subscript_ (RM ha hb I h λv u s2 x y H2 b g l q=>hr tg am U s2 Z H2 x y v u Q b g l q (hs _ _))
def aay(K:Frag):R2:=λx y H Q=>∃p xs i v,x=.ref p/\y=.int i/\lT K H p xs/\vm xs i=some v/\Q v H
def aaz(K:Frag):R2:=λx y H Q=>∃p xs i v,x=.ref p/\y=.int i/\ju K H p xs/\vm xs i=some v/\Q v H
def aaA:R2:=λx y H Q=>∃z i c,x=.str z/\y=.int i/\z.length<=sizeLine/\vm z.cps.toList i=some c/\Q (.str ⟨#[c]⟩) H
theorem Gx:Wa X (aay X.K):=by
 intro value slice U s Z H x y v u Q I l n h hs;obtain⟨p,xs,i,z,rfl,rfl,L,he,q⟩:=h;cases l;obtain⟨t,rfl⟩:=n;obtain⟨cy,r,pl,hz⟩:=I.list L;obtain⟨j,h1,h2,h3,M,S⟩:=Ba he;obtain⟨w,g,pT⟩:=r.get h2;have hl:=r.length;have hn:=x6;have fin:EP X U Z Q w s:=⟨z,H,I,pT,q⟩;by_cases h0:0<=i
 ·have b:i.toNat=j:=by
   rw[seqIndex_of h0 S]at h1;exact Option.some.inj h1
  exact item_listR pl.isList h0 (by omega) (by rw[b];simpa using g) fin hs
 ·have b:(i+(cy.toArray.size:Int)).toNat=j:=by
   rw[seqIndex_neg (by omega) M]at h1;rw[cU,<-hl];exact Option.some.inj h1
  exact subscriptTail_builtinR (x:=w) pl.isList.typeIs slot_list_getitem.lookup
   (wpAny_getItem_list_neg (Q:=λr s'=>r=w/\EP X U Z Q r s') pl.isList (by omega) (by rw[cU]<;>omega) (by omega) (by rw[b];simpa using g) ⟨rfl,fin⟩) hs
theorem R3:Wa X (aaz X.K):=by
 intro value slice U s Z H x y v u Q I b g h hs;obtain⟨p,xs,i,z,rfl,rfl,l,he,q⟩:=h;cases b;obtain⟨t,rfl⟩:=g;obtain⟨cy,r,pl,hz⟩:=I.tuple l;obtain⟨j,h1,h2,S,h4,h5⟩:=Ba he;obtain⟨w,n,L⟩:=r.get h2;have M:=r.length;have hn:=x6;have fin:EP X U Z Q w s:=⟨z,H,I,L,q⟩;exact subscriptTail_builtinR (x:=w) pl.typeIs xi.lookup
  (getItem_tuple (j:=j) (Q:=λr s'=>r=w/\EP X U Z Q r s') pl (by omega) (by omega) (by rw[cU,<-M];exact h1) (by simpa using n) ⟨rfl,fin⟩) hs
theorem R4:Wa X aaA:=by
 intro value slice U s Z H x y v u Q I b g h hs;obtain⟨z,i,c,rfl,rfl,hz,he,q⟩:=h;obtain⟨t,rfl⟩:=b;obtain⟨t',rfl⟩:=g;obtain⟨j,h1,h2,S,l,n⟩:=Ba he;have r:z.cps.toList.length=z.length:=by simp[Str.length]
 rw[r]at h1 l n;have hn:=x6;exact tail_any (typeIs_str s z t) slot_str_getitem.lookup (getItem_str (c:=c) (by
  have L:decide (i< -(2 ^63:Int))=false:=fo (by omega);have M:decide (i>=2 ^63)=false:=fo (by omega);rw[L,M,kT]) (by rw[h1];simpa using h2) ⟨.str ⟨#[c]⟩,H,I.tok _,⟨_,rfl⟩,q⟩) hs
def Qr(v:Int)(n d:Nat):max 0 (min (if v<0 then v+n else v) (n:Int))=((HT.iF n d (some v):Nat):Int):=by
 rw[<-HT.AW];by_cases b:v<0
 ·rw[aY b,aY b];omega
 ·rw[bc b,bc b];omega
def Be(lo hi:Option Int)(n:Nat):(sliceBounds lo hi none n).1=((HT.iF n 0 lo:Nat):Int)/\(sliceBounds lo hi none n).2.1=((HT.iF n n hi:Nat):Int)/\(sliceBounds lo hi none n).2.2=1:=by
 refine⟨?_,?_,rfl⟩
 ·cases lo with
  |none=>rfl
  |some i=>exact(Qr i n 0)
 ·cases hi with
  |none=>rfl
  |some i=>exact(Qr i n n)
def zy(cy:List Value)(lo hi:Option Int):slicePick cy.toArray lo hi none=((cy.drop (HT.iF cy.length 0 lo)).take (HT.iF cy.length cy.length hi - HT.iF cy.length 0 lo)).toArray:=by
 obtain⟨b,h2,g⟩:=Be lo hi cy.toArray.size;unfold slicePick;rw[b,h2,g];simp only[sliceRange_one,pick_run,cU]<;>rfl
def aaB(K:Frag):V->Option Int->Option Int->Hp->VK->Prop:=λx lo hi H Q=>∃tg xs,x=.ref tg/\lT K H tg xs/\∀p,H p=none->Q (.ref p) (upd H p (.lst (CW xs lo hi)))
theorem NS:Ve X (aaB X.K):=by
 intro U s Z H x v L M lo hi sl Q I g hs pl pu h;obtain⟨tg,xs,rfl,l,q⟩:=h;cases g;obtain⟨cy,r,b,hz⟩:=I.list l;have n:=r.length;refine⟨"list",_,slot_list_getitem.lookup,b.isList.typeIs,?_⟩;refine wpAny_getItem_list_slice b.isList hs pl pu .none (by simp) ?_ (by rw[cU]<;>omega)
 rw[zy,<-n];refine⟨.ref s.heap.objs.size,_,I.laid (t':=s.toks) (o:=.lst (CW xs lo hi)) (λam S q=>bS _ q) (bA _) ?_,rfl,q _ (I.cW.fresh (bA _))⟩;exact⟨cB (vR xs lo hi) hz,_,0,(r.drop (HT.iF xs.length 0 lo)).take (HT.iF xs.length xs.length hi - HT.iF xs.length 0 lo),cz _ rfl⟩
def Qs:V->Bool
 |.cA=>true
 |.bl _=>true
 |.int _=>true
 |.str _=>true
 |_=>false
theorem uo:gQ X (.type "list") (λxs H Q=>∃p ys,xs=[.ref p]/\(lT X.K H p ys\/ju X.K H p ys)/\∀l,H l=none->Q (.ref l) (upd H l (.lst ys))):=by
 intro U s Z H xs us Q I r h;obtain⟨p,ys,rfl,L,q⟩:=h;obtain⟨u,rfl,rx⟩:=vals1 r;cases rx;have fin:∀(cy:List Value),Vals ys cy->ys.length<=sizeLine->∀(h':Heap) (b:Nat),(∀am o',s.heap.get? am=some o'->h'.get? am=some o')->
   h'.get? s.heap.objs.size=some {cls:=.type "list",dict:=none,data:=.seq cy.toArray b,slots:=#[]}->EP X U Z Q (.ref s.heap.objs.size) {s with heap:=h'}:=λcy g hz h' b kp e=>
  ⟨.ref s.heap.objs.size,_,I.laid (t':=s.toks) kp (bA _) (show cX X.prog X.w _ h' _ (.lst ys)from⟨hz,cy,b,g,e⟩),rfl,q _ (I.cW.fresh (bA _))⟩
 rcases L with L|L
 ·obtain⟨cy,g,pl,hz⟩:=I.list L;have b9:=g.length;obtain⟨o,M,S,n,hd⟩:=pl.isList;exact call_list_seq p (.inl rfl) M S hd (λh' b kp e=>fin cy g hz h' b kp e) (by simp only[cU]<;>omega)
 ·obtain⟨cy,g,pl,hz⟩:=I.tuple L;have b9:=g.length;obtain⟨o,M,S,n,hd⟩:=pl;exact call_list_seq p (.inr rfl) M S hd (λh' b kp e=>fin cy g hz h' b kp e) (by simp only[cU]<;>omega)
theorem rP:gQ X (.type "tuple") (λxs H Q=>∃p ys,xs=[.ref p]/\((lT X.K H p ys/\∀l,H l=none->Q (.ref l) (upd H l (.tup ys)))\/(ju X.K H p ys/\Q (.ref p) H))):=by
 intro U s Z H xs us Q I r h;obtain⟨p,ys,rfl,h⟩:=h;obtain⟨u,rfl,L⟩:=vals1 r;cases L;rcases h with⟨b,q⟩|⟨b,q⟩
 ·obtain⟨cy,g,pl,hz⟩:=I.list b;have S:=g.length;refine call_tuple_list pl.isList (λh' kp=>?_) (by simp only[cU]<;>omega);have n:Inv X U Z H {s with heap:=h'}:=I.kept (t':=s.toks) kp;have M:Inv X U Z (upd H h'.objs.size (.tup ys)) {s with heap:=h'.push {cls:=.type "tuple",data:=.seq cy.toArray}}:=
   n.laid (t':=s.toks) (λam o e=>bS _ e) (bA _) (show cX X.prog X.w _ _ _ (.tup ys)from⟨hz,cy,g,IsTup.new _ _⟩)
  exact⟨.ref h'.objs.size,_,M,rfl,q _ (n.cW.fresh (bA _))⟩
 ·obtain⟨cy,g,pl,hz⟩:=I.tuple b;exact call_tuple_same pl ⟨.ref p,H,I,rfl,q⟩
def tyV(K:Frag)(T:String)(x:V)(H:Hp):Prop:=match x with
 |.str _=>T="str"
 |.int _=>T="int"
 |.ref p=>(T="list"/\∃xs,lT K H p xs)\/(T="tuple"/\∃o,K.lookup p=some o/\o.cls=.type "tuple"/\o.dict=none)\/
   (T="dict"/\((∃kvs,H p=some (.dK kvs))\/∃kvs,H p=some (.dT kvs)))\/(T="set"/\∃S n,H p=some (.set S n))
 |_=>False
theorem R5{x:V}(I:Inv X U Z H s)(r:RelV x af)(ty:tyV X.K ay x H):
  s.TypeIs af ay/\∀tg,af=.ref tg->∃q,s.heap.get? tg=some q/\q.dict=none:=by
 cases x with
 |str z=>
  obtain⟨t,rfl⟩:=r;cases(show ay="str"from ty);exact⟨typeIs_str s z t,λ_ e=>nomatch e⟩
 |int i=>
  obtain⟨t,rfl⟩:=r;cases(show ay="int"from ty);exact⟨typeIs_int s i t,λ_ e=>nomatch e⟩
 |ref p=>
  cases r;rcases ty with⟨rfl,xs,l⟩|⟨rfl,o,b,L,hd⟩|⟨rfl,b⟩|⟨rfl,S,n,b⟩
  ·obtain⟨cy,_,pl,_⟩:=I.list l;refine⟨pl.isList.typeIs,λtg e=>?_⟩;cases e;obtain⟨o,n,e,c,hd,_⟩:=pl;exact⟨o,e,hd⟩
  ·refine⟨⟨o,I.ml p o b,L⟩,λtg e=>?_⟩;cases e;exact⟨o,I.ml _ o b,hd⟩
  ·have z:∃o,s.heap.get? p=some o/\o.ExactDict:=by
    rcases b with⟨kvs,b⟩|⟨kvs,b⟩
    ·obtain⟨_,_,_,_,o,_,_,e,ex,_⟩:=I.cW p _ b;exact⟨o,e,ex⟩
    ·obtain⟨_,_,_,_,o,_,_,e,ex,_⟩:=I.cW p _ b;exact⟨o,e,ex⟩
   obtain⟨o,e,ex⟩:=z;refine⟨⟨o,e,ex.1⟩,λtg g=>?_⟩;cases g;exact⟨o,e,ex.2.1⟩
  ·obtain⟨o,_,_,_,e,ex,_⟩:=I.cW p _ b;refine⟨⟨o,e,ex.1⟩,λtg g=>?_⟩;cases g;exact⟨o,e,ex.2.1⟩
 |_=>exact False.elim ty
def tBM(K:Frag)(T:String)(r:V->List V->Hp->VK->Prop)(to:TE)(t:TA):TE:=λZ H Q=>to Z H λx H1=>tyV K T x H1/\t Z H1 λxs H2=>r x xs H2 Q
variable {to:TE}{t:TA}{name:Str}{dI:Pos}{T id:String}{r:V->List V->Hp->VK->Prop}
theorem Gy(pa:PlainAttrs T)(slot:Slot T name id)(NT:typeOf (.builtin id)=pure (.type "method_descriptor"))(hm:R0 X id r)(ho:PE X o to)(ha:PA X (e::es) t)
  (pU:attributeBase o name X.env (eval o X.env)=eval o X.env:=by rfl)
  (q:((backTo dI (starEach (e::es) X.env)).all (λx=>!x.1)&&(backToKw dI (keywordEach [] X.env)).all (λx=>x.1.isSome)
   &&decide ((e::es).length+([]:List Keyword).length+(if([]:List Keyword).isEmpty then 0 else 1)<30))=true:=by rfl)
  (gs:(b8.endLine==dI.line)=true:=by rfl) (hs:starEach (e::es) X.env=(false,eval e X.env)::starEach es X.env:=by rfl) (R6:(backTo dI (starEach es X.env)).any (·.1)=false:=by rfl):
  PE X (.Call (.Attribute o name b8) (e::es) [] dI) (tBM X.K T r to t):=by
 intro U s Z H Q I h;refine wpAny_Call_method_late pU q gs rfl (eN (ho U s Z H _ I h) λv s1 ⟨x,H1,b,r1,ty,l⟩=>?_);obtain⟨h1,h2⟩:=R5 b r1 ty;refine⟨T,id,pa,slot,NT,h1,h2,?_⟩;have g:=ha dI U s1 Z H1 _ b l;rw[hs]at g⊢;refine nO (by show(false||(backTo dI (starEach es X.env)).any (·.1))=false;rw[R6]<;>rfl) (nR ?_);exact eN g λus s2 ⟨vs,H2,n,r2,L⟩=>hm U s2 Z H2 x vs v us Q n r1 r2 L
end
def MtM(X:Cx)(id:String)(r:V->List V->Hp->VK->Prop):Prop:=
 ∀(U:List (Addr×Obj)) (s:Shared) (Z:St) (H:Hp) (x:V) (xs:List V) (v:Value) (us:List Value) (Q:VK),Inv X U Z H s->RelV x v->Vals xs us->r x xs H Q->
  wpAny (model X.prog X.w) X.A (call (.builtin id) (v::us)) (EP X U Z Q) X.xe s
theorem Vals.one:∀{x:V} {us:List Value},Vals [x] us->∃u,us=[u]/\RelV x u
 |_,_,.cons r .nil=>⟨_,rfl,r⟩
theorem Vals.dropLast {xs:List V}{us:List Value}(h:Vals xs us):Vals xs.dropLast us.dropLast:=by
 induction h with
 |nil=>exact .nil
 |cons r t b=>
  cases t with
  |nil=>exact .nil
  |cons q t'=>exact .cons r b
theorem Vals.rep {xs:List V}{us:List Value}(h:Vals xs us):∀k:Nat,Vals (List.replicate k xs).flatten (List.replicate k us).flatten
 |0=>.nil
 |k+1=>by
  rw[nT,nT,mP,mP];exact Vals.append h (Vals.rep h k)
theorem foldl_rep(cy:List Value):∀(k:Nat) (acc:List Value),
  List.foldl (λq x2=>q++x2) acc.toArray (List.replicate k cy.toArray)=(acc++(List.replicate k cy).flatten).toArray
 |0,acc=>by simp
 |k+1,acc=>by
  have e:acc.toArray++cy.toArray=(acc++cy).toArray:=by simp
  have b:(acc++cy)++(List.replicate k cy).flatten=acc++(List.replicate (k+1) cy).flatten:=by
   rw[nT,mP,xy]
  rw[<-b,<-foldl_rep cy k (acc++cy),<-e,nT,List.foldl_cons]
section
variable {l:Addr}{ys zs:List V}
def Inv.NU {cy uf:List Value}{n:Nat}{f:Array Value->Array Value}{t':Nat}(I:Inv X U Z H s)(hH:H l=some (.lst ar))
  (e:s.heap.get? l=some {cls:=.type "list",data:=.seq cy.toArray n}) (hf:f cy.toArray=uf.toArray) (hv:Vals ys uf) (hz:ys.length<=sizeLine):
  Inv X U Z (upd H l (.lst ys)) {s with heap:=s.heap.update l (Obj.mapSeq f),toks:=t'}:=by
 have q:=PySem.IsL.update e f;rw[hf]at q;refine I.write (x:=l) (e:=l) (by rw[hH];exact trivial) (.inl rfl) (λg u hb b=>(nP s.heap (Obj.mapSeq f) (Ne.symm hb)).trans b) ⟨_,q⟩ ?_
 exact⟨hz,uf,_,hv,q⟩
def Inv.NV {cy:List Value}{t':Nat}(I:Inv X U Z H s)(hv:Vals ys cy)(hz:ys.length<=sizeLine):
  Inv X U Z (upd H s.heap.objs.size (.lst ys)) {s with heap:=s.heap.push {cls:=.type "list",data:=.seq cy.toArray},toks:=t'}:=
 I.laid (λ_ _ q=>bS _ q) (bA _) ⟨hz,cy,0,hv,cz _ rfl⟩
theorem Inv.fresh (I:Inv X U Z H s):H s.heap.objs.size=none:=I.cW.fresh (bA _)
def Inv.zz (I:Inv X U Z H s)(q:H l=some (.lst ar)):ar.length<=sizeLine/\∃(cy:List Value) (n:Nat),Vals ar cy/\ar.length=cy.length/\s.heap.get? l=some {cls:=.type "list",data:=.seq cy.toArray n}:=by
 obtain⟨z,cy,n,r,e⟩:=I.cW l _ q;exact⟨z,cy,n,r,r.length,e⟩
def Kv(h:i<=sizeLine):Builtin.List.listTooLong i=false:=by
 unfold Builtin.List.listTooLong;exact fo (by omega)
end
def Gz:V->List V->Hp->VK->Prop:=λx vs H Q=>∃l xs y,x=.ref l/\vs=[y]/\H l=some (.lst xs)/\xs.length<sizeLine/\Q .cA (upd H l (.lst (xs++[y])))
theorem jc:MtM X "list.append" Gz:=by
 intro U s Z H x vs v us Q I g L h;obtain⟨l,xs,y,rfl,rfl,b,hz,q⟩:=h;cases g;obtain⟨u,rfl,M⟩:=L.one;obtain⟨z,cy,n,r,S,e⟩:=I.zz b;refine kW nM ⟨_,e,rfl⟩ F.entry_list_append (F.args_list_append_2 _ _) (PySem.list_append l cy.toArray n u (by rw[cU];omega)) ⟨e,?_⟩;refine⟨.cA,_,I.NU (uf:=cy++[u]) b e (by simp) (r.append (.cons M .nil)) ?_,rfl,q⟩;rw[fm,List.length_singleton];omega
def aaD:R2:=λx y H Q=>∃l b xs zs,x=.ref l/\y=.ref b/\H l=some (.lst xs)/\H b=some (.lst zs)/\xs.length+zs.length<=sizeLine/\∀p,H p=none->Q (.ref p) (upd H p (.lst (xs++zs)))
theorem Kw:vh X (binaryOp .Add) aaD:=by
 intro U s Z H x y v u Q I L M h;obtain⟨l,b,xs,zs,rfl,rfl,S,hB,hz,q⟩:=h;cases L;cases M;obtain⟨z,cy,n,r,hl,e⟩:=I.zz S;obtain⟨z2,g,n2,r2,Nu,e2⟩:=I.zz hB;refine PySem.P.add_list e e2 ?_ (by rw[cU,cU];omega)
 have ea:cy.toArray++g.toArray=(cy++g).toArray:=by simp
 rw[ea];exact⟨.ref _,_,I.NV (t':=s.toks) (r.append r2) (by rw[fm];omega),rfl,q _ I.fresh⟩
def aaE:R2:=λx y H Q=>∃l k xs,x=.ref l/\y=.int k/\H l=some (.lst xs)/\-(2 ^63)<=k/\k<2 ^63/\xs.length*k.toNat<=sizeLine/\
 ∀p,H p=none->Q (.ref p) (upd H p (.lst (List.replicate k.toNat xs).flatten))
def len_rep(xs:List ag)(k:Nat):(List.replicate k xs).flatten.length=k*xs.length:=by
 induction k with
 |zero=>simp
 |succ k b=>rw[nT,mP,fm,b,Nat.succ_mul,Nat.add_comm]
theorem R7:vh X (binaryOp .Mult) aaE:=by
 intro U s Z H x y v u Q I S ry h;obtain⟨l,k,xs,rfl,rfl,hH,h1,h2,hz,q⟩:=h;cases S;obtain⟨t,rfl⟩:=ry;obtain⟨z,cy,n,r,hl,e⟩:=I.zz hH;have b9:cy.toArray.size*k.toNat<=sizeLine:=by rw[cU,<-hl];exact hz
 have b:¬cy.toArray.size*k.toNat>(2 ^63 - 1)/8:=by
  have:(sizeLine:Nat)<=(2 ^63 - 1)/8:=by decide
  omega
 have g:¬(!Builtin.List.listFitsIndex k)=true:=by
  rw[fitsIndex_both h1 h2];exact fI
 have Wb:¬Builtin.List.listTooLong (cy.toArray.size*k.toNat)=true:=by
  rw[Kv b9];exact fI
 have Kx:List.foldl (λL M=>L++M) #[] (List.replicate (if cy.toArray.isEmpty=true then 0 else k.toNat) cy.toArray)=(List.replicate k.toNat cy).flatten.toArray:=by
  have f0:∀m:Nat,List.foldl (λL M=>L++M) #[] (List.replicate m cy.toArray)=(List.replicate m cy).flatten.toArray:=λm=>by
   have:=foldl_rep cy m [];rw[List.nil_append]at this;exact this
  rw[f0];cases cy with
  |nil=>simp
  |cons a r'=>rw[bc (by simp)]
 refine wpAny_binaryOp_repeat_ref (T:="list") (U:="int") (by decide) ⟨_,e,rfl⟩ (λs'=>typeIs_int s' k t) noFill_list_mul F.fills_int_mul F.slot_int_rmul repeat_list F.slot_int_index.lookup
  (kW F.slot_int_rmul (typeIs_int s k t) F.entry_int_rmul (F.args_int_rmul_2 _ _) (int___rmul___int_list k t l cy.toArray n)
   ⟨e,rfl,⟨_,e,rfl⟩,kW F.slot_list_mul ⟨_,e,rfl⟩ F.entry_list_mul (F.args_list_mul_2 _ _) (AutoListH.list___mul___list_int_3 l cy.toArray n k t g b Wb) ⟨e,?_⟩⟩)
 rw[Kx];exact⟨.ref _,_,I.NV (t':=s.toks) (r.rep k.toNat) (by rw[len_rep,Nat.mul_comm];exact hz),rfl,q _ I.fresh⟩
section
variable [DecidableEq ag]
noncomputable def m7(kvs:List (ag×V))(k:ag):Option V:=(kvs.find? λb=>decide (b.1=k)).map (·.2)
noncomputable def putK(kvs:List (ag×V))(k:ag)(v:V):List (ag×V):=
 if(kvs.any λb=>decide (b.1=k))=true then kvs.map (λb=>if b.1=k then(b.1,v)else b)else kvs++[(k,v)]
noncomputable def rQ(kvs:List (ag×V))(k:ag):List (ag×V):=kvs.filter λb=>decide (b.1≠k)
def uq{p:ag×V}{r:List (ag×V)}{k:ag}(e:p.1=k):m7 (p::r) k=some p.2:=by simp[m7,kl,e]
def ur{p:ag×V}{r:List (ag×V)}{k:ag}(e:¬p.1=k):m7 (p::r) k=m7 r k:=by simp[m7,kl,e]
theorem CY(k:ag):∀kvs:List (ag×V),(kvs.any λq=>decide (q.1=k))=(m7 kvs k).isSome
 |[]=>rfl
 |p::r=>by
  rw[jt];by_cases e:p.1=k
  ·simp only[uq e,hU e,Bool.true_or,kh]
  ·rw[ur e,fo e,iM];exact CY k r
def pV(kvs:List (ag×V))(k:ag)(v:V):(putK kvs k v).length<=kvs.length+1:=by
 unfold putK;split
 ·rw[bu];omega
 ·rw[fm,dA,xG];omega
def mj.m8 {o:Option V}{u:Option Value}(r:mj o u):o.isSome=u.isSome:=by
 cases o with
 |none=>cases u with
  |none=>rfl
  |some _=>exact fe r
 |some _=>cases u with
  |none=>exact fe r
  |some _=>rfl
theorem mj.getD {o:Option V}{u:Option Value}{d:V}{d':Value}(r:mj o u)(q:RelV d d'):RelV (o.getD d) (u.getD d'):=by
 cases o with
 |none=>cases u with
  |none=>exact q
  |some _=>exact fe r
 |some _=>cases u with
  |none=>exact fe r
  |some _=>exact r
def KV.val {kvs:List (ag×V)}{vs:List (ag×Value)}(r:KV kvs vs)(k:ag):mj (m7 kvs k) (valueAt vs k):=by
 unfold KV at r
 induction r with
 |nil=>exact True.intro
 |@cons p q ps g h t I=>
  obtain⟨n,h2⟩:=h;by_cases e:p.1=k
  ·have l:q.1=k:=n.symm.trans e;have b:valueAt (q::g) k=some q.2:=by simp[valueAt,kl,l]
   rw[uq e,b];exact h2
  ·have l:¬q.1=k:=λz=>e (n.trans z);have b:valueAt (q::g) k=valueAt g k:=by simp[valueAt,kl,l]
   rw[ur e,b];exact I
theorem KV.any {kvs:List (ag×V)}{vs:List (ag×Value)}(r:KV kvs vs)(k:ag):(kvs.any λq=>decide (q.1=k))=vs.any λq=>decide (q.1=k):=by
 unfold KV at r
 induction r with
 |nil=>rfl
 |cons h t b=>rw[jt,jt,b,h.1]
def KV.R8 {kvs:List (ag×V)}{vs:List (ag×Value)}(r:KV kvs vs)(k:ag){y:V}{u:Value}(ry:RelV y u):
  KV (kvs.map λkv=>if kv.1=k then(kv.1,y)else kv) (vs.map λkv=>if kv.1=k then(kv.1,u)else kv):=by
 unfold KV at r⊢
 induction r with
 |nil=>exact .nil
 |@cons p q ps l h t g=>
  rw[bB,bB];refine .cons ?_ g
  obtain⟨b,h2⟩:=h;by_cases e:p.1=k
  ·rw[aY e,aY (b.symm.trans e)];exact⟨b,ry⟩
  ·rw[bc e,bc (λz=>e (b.trans z))];exact⟨b,h2⟩
def KV.put {kvs:List (ag×V)}{vs:List (ag×Value)}(r:KV kvs vs)(k:ag){y:V}{u:Value}(q:RelV y u):KV (putK kvs k y) (stored vs k u):=by
 unfold putK stored;rw[r.any k];by_cases e:(vs.any λb=>decide (b.1=k))=true
 ·rw[aY e,aY e];exact r.R8 k q
 ·rw[bc e,bc e];exact Paired.snoc r ⟨rfl,q⟩
def KV.drop {kvs:List (ag×V)}{vs:List (ag×Value)}(r:KV kvs vs)(k:ag):KV (rQ kvs k) (without vs k):=by
 unfold KV at r⊢;unfold rQ without
 induction r with
 |nil=>exact .nil
 |@cons p q ps I h t l=>
  obtain⟨g,h2⟩:=h;rw[px,px];by_cases e:p.1=k
  ·have a:¬decide (p.1≠k)=true:=by simp[e]
   have b:¬decide (q.1≠k)=true:=by simp[g.symm.trans e]
   rw[bc a,bc b];exact l
  ·have n:¬q.1=k:=λz=>e (g.trans z);have a:decide (p.1≠k)=true:=by simp[e]
   have b:decide (q.1≠k)=true:=by simp[n]
   rw[aY a,aY b];exact .cons ⟨g,h2⟩ l
def KV.keys {kvs:List (ag×V)}{vs:List (ag×Value)}(r:KV kvs vs):kvs.map (·.1)=vs.map (·.1):=by
 unfold KV at r
 induction r with
 |nil=>rfl
 |cons h t b=>rw[bB,bB,b,h.1]
theorem KV.length {kvs:List (ag×V)}{vs:List (ag×Value)}(r:KV kvs vs):kvs.length=vs.length:=Paired.length r
def Ky(kvs:List (ag×V))(k:ag):(rQ kvs k).length<=kvs.length:=mI _ _
end
theorem pW{P:Program}{w:World}{k:Key}(r:RelV (kV k) af):(cu P w).is k af=true:=by
 cases k with
 |inl i=>obtain⟨t,e⟩:=(show∃t,af=Value.int i t from r);subst e;exact CJ P w i t
 |inr x=>obtain⟨t,e⟩:=(show∃t,af=Value.str x t from r);subst e;exact CK P w x t
theorem zY:∀{ks:List Key} {us:List Value},Vals (ks.map kV) us->ItemsAre (cu P w) ks us
 |[],_,r=>by rw[mW]at r;cases r;exact .nil
 |k::ks,_,r=>by
  rw[bB]at r;cases r with
  |cons h t=>exact .cons (pW h) (zY t)
abbrev KT(H:Hp):List (List Key×V)->List (List Key×Addr×Value)->Prop:=Paired fun p q=>p.1=q.1/\H q.2.1=some (.tup (p.1.map kV))/\RelV p.2 q.2.2
def KT.val {kvs:List (List Key×V)}{xs:List (List Key×Addr×Value)}(r:KT H kvs xs)(k:List Key):mj (m7 kvs k) ((atKey xs k).map (·.2)):=by
 induction r with
 |nil=>exact True.intro
 |@cons p q ps g h t I=>
  obtain⟨n,_,h2⟩:=h;by_cases e:p.1=k
  ·have l:q.1=k:=n.symm.trans e;have b:atKey (q::g) k=some q.2:=by simp[atKey,kl,l]
   rw[uq e,b];exact h2
  ·have l:¬q.1=k:=λz=>e (n.trans z);have b:atKey (q::g) k=atKey g k:=by simp[atKey,kl,l]
   rw[ur e,b];exact I
def KT.R8 {kvs:List (List Key×V)}{xs:List (List Key×Addr×Value)}(r:KT H kvs xs)(k:List Key){y:V}{u:Value}(ry:RelV y u):
  KT H (kvs.map λkv=>if kv.1=k then(kv.1,y)else kv) (xs.map (putAt k u)):=by
 induction r with
 |nil=>exact .nil
 |@cons p q ps n h t g=>
  rw[bB,bB];refine .cons ?_ g
  obtain⟨b,h2,l⟩:=h;unfold putAt;by_cases e:p.1=k
  ·rw[aY e,aY (b.symm.trans e)];exact⟨b,h2,ry⟩
  ·rw[bc e,bc (λz=>e (b.trans z))];exact⟨b,h2,l⟩
def KT.put {kvs:List (List Key×V)}{xs:List (List Key×Addr×Value)}(r:KT H kvs xs)(k:List Key){b:Addr}{y:V}{u:Value}(hb:H b=some (.tup (k.map kV)))(ry:RelV y u):
  KT H (putK kvs k y) (storedH xs k b u):=by
 have e:(kvs.any λg=>decide (g.1=k))=(atKey xs k).isSome:=by
  rw[CY,(r.val k).m8,ki]
 unfold putK storedH;rw[e];by_cases q:(atKey xs k).isSome=true
 ·rw[aY q,aY q];exact r.R8 k ry
 ·rw[bc q,bc q];exact Paired.snoc r ⟨rfl,hb,ry⟩
def KT.keeps {H':Hp}{kvs:List (List Key×V)}{xs:List (List Key×Addr×Value)}(r:KT H kvs xs)(q:∀b ys,H b=some (.tup ys)->H' b=some (.tup ys)):KT H' kvs xs:=
 Paired.Ry r λ_ _ z=>⟨z.1,q _ _ z.2.1,z.2.2⟩
def Qt{u:HO}(ok:sA P w H aa)(e:Rd H a u):cX P w H aa a u:=e.ok ok
def uu(ok:sA P w H aa)(e:Rd H a (.dK kvs)):kvs.length<=sizeLine/\(a==sysModules)=false/\∃vs,KV kvs vs/\aa.DictOf (cu P w) a vs:=
 show cX P w H aa a (.dK kvs)from Qt ok e
def GA(ok:sA P w H aa)(e:H a=some (.dK kvs)):kvs.length<=sizeLine/\(a==sysModules)=false/\∃vs,KV kvs vs/\aa.DictOf (cu P w) a vs:=uu ok (.inl e)
def sE{ks:List Key}(ok:sA P w H aa)(e:H a=some (.tup (ks.map kV))):(tupleKind (cu P w)).is aa ks a:=by
 obtain⟨_,cy,r,o,h1,h2,n,b⟩:=(show cX P w H aa a (.tup (ks.map kV))from ok a _ e);exact⟨o,cy.toArray,n,h1,h2,b,by simpa using zY r⟩
theorem vS{kvs:List (List Key×V)}(ok:sA P w H aa)(e:Rd H a (.dT kvs)):kvs.length<=sizeLine/\(a==sysModules)=false/\
  ∃xs,KT H kvs xs/\aa.DictOfH (tupleKind (cu P w)) a xs:=by
 obtain⟨z,y,xs,r,o,es,ep,h1,h2,n,I,L⟩:=(show cX P w H aa a (.dT kvs)from Qt ok e);refine⟨z,y,xs,r,o,es,ep,h1,h2,n,I,λx b=>?_,L⟩;have all:∀{l:List (List Key×V)} {m:List (List Key×Addr×Value)},KT H l m->∀x∈m,(tupleKind (cu P w)).is aa x.1 x.2.1:=by
  intro l m q
  induction q with
  |nil=>intro x b;exact nomatch b
  |@cons p q ps S g t M=>
   intro x b;rcases bH.mp b with e|b
   ·subst e;exact sE ok (by rw[<-g.1];exact g.2.1)
   ·exact M x b
 exact all r x b
def Wc{kvs:List (List Key×V)}(ok:sA P w H aa)(e:H a=some (.dT kvs)):kvs.length<=sizeLine/\(a==sysModules)=false/\
  ∃xs,KT H kvs xs/\aa.DictOfH (tupleKind (cu P w)) a xs:=vS ok (.inl e)
def pX(H:Hp)(a:Addr)(y:V)(r:Option V):Prop:=
 (∃kvs k,Rd H a (.dK kvs)/\y=kV k/\r=m7 kvs k)\/∃kvs k b,Rd H a (.dT kvs)/\y=.ref b/\H b=some (.tup (k.map kV))/\r=m7 kvs k
def E4(H:Hp)(a:Addr)(y v:V)(H':Hp):Prop:=
 (∃kvs k,H a=some (.dK kvs)/\y=kV k/\kvs.length<sizeLine/\H'=upd H a (.dK (putK kvs k v)))\/
 ∃kvs k b,H a=some (.dT kvs)/\y=.ref b/\H b=some (.tup (k.map kV))/\kvs.length<sizeLine/\H'=upd H a (.dT (putK kvs k v))
theorem pX.k {H:Hp}{k:Key}(e:H a=some (.dK kvs)):pX H a (kV k) (m7 kvs k):=.inl ⟨kvs,k,.inl e,rfl,rfl⟩
def pX.t {H:Hp}{b:Addr}{kvs:List (List Key×V)}{k:List Key}(e:H a=some (.dT kvs))(q:H b=some (.tup (k.map kV))):pX H a (.ref b) (m7 kvs k):=.inr ⟨kvs,k,b,.inl e,rfl,q,rfl⟩
theorem E4.k {H:Hp}{k:Key}{v:V}(e:H a=some (.dK kvs))(q:kvs.length<sizeLine):E4 H a (kV k) v (upd H a (.dK (putK kvs k v))):=.inl ⟨kvs,k,e,rfl,q,rfl⟩
def E4.t {H:Hp}{b:Addr}{kvs:List (List Key×V)}{k:List Key}{v:V}(e:H a=some (.dT kvs))(q:H b=some (.tup (k.map kV)))(hl:kvs.length<sizeLine):
  E4 H a (.ref b) v (upd H a (.dT (putK kvs k v))):=.inr ⟨kvs,k,b,e,rfl,q,hl,rfl⟩
section
variable {y v:V}{r:Value}{o:Option V}
theorem Inv.big (I:Inv X U Z H s):sysModules<s.heap.objs.size:=by
 have h:mainGlobals<s.heap.objs.size:=(I.mod.glob.keeps I.bk).lt;exact Nat.lt_trans (by decide) h
theorem Iq(hu:A.units+1<cLine)(I:Inv X U Z H s)(g:pX H a y (some v))(ry:RelV y af)(h:∀q s',Inv X U Z H s'->RelV v q->Q q s'):
  wpAny (model X.prog X.w) A (getItem (.ref a) af) Q E s:=by
 rcases g with⟨kvs,k,e,n,l⟩|⟨kvs,k,b,e,n,L,l⟩
 ·subst n;obtain⟨z,hd,vs,rel,dd⟩:=uu I.cW e;obtain⟨q,hw,r⟩:=mj.some_of (v:=v) (o:=valueAt vs k) (by rw[l];exact rel.val k);exact wpAny_getItem_of (pW ry) dd.mapOf hw (h q _ (I.tok _) r)
 ·subst n;cases(show af=Value.ref b from ry);obtain⟨z,hd,xs,rel,dd⟩:=vS I.cW e;obtain⟨q,hw,r⟩:=mj.some_of (v:=v) (o:=(atKey xs k).map (·.2)) (by rw[l];exact rel.val k);obtain⟨p,hp,M⟩:=Option.map_eq_some_iff.mp hw;refine wpAny_getItem_heap (mS hu) (sE I.cW L) dd hp ?_
  rw[M];exact h q _ (I.tok _) r
theorem aaH(hu:A.units+1<cLine)(I:Inv X U Z H s)(g:pX H a y o)(ry:RelV y af)(h:∀s',Inv X U Z H s'->Q (.bool o.isSome) s'):
  wpAny (model X.prog X.w) A (compareOp .In af (.ref a)) Q E s:=by
 rcases g with⟨kvs,k,e,n,l⟩|⟨kvs,k,b,e,n,r,l⟩
 ·subst n;obtain⟨z,hd,vs,rel,dd⟩:=uu I.cW e;refine wpAny_in_of (pW ry) hd dd.mapOf ?_
  rw[<-(rel.val k).m8,<-l];exact h _ (I.tok _)
 ·subst n;cases(show af=Value.ref b from ry);obtain⟨z,hd,xs,rel,dd⟩:=vS I.cW e;refine wpAny_in_heap (mS hu) (sE I.cW r) hd dd ?_
  have q:=(rel.val k).m8;rw[ki]at q;rw[<-q,<-l];exact h _ (I.tok _)
theorem NX(hu:A.units+1<cLine)(I:Inv X U Z H s)(g:pX H a y o)(ry:RelV y af)(h:∀s',Inv X U Z H s'->Q (.bool (!o.isSome)) s'):
  wpAny (model X.prog X.w) A (compareOp .NotIn af (.ref a)) Q E s:=by
 rcases g with⟨kvs,k,e,n,l⟩|⟨kvs,k,b,e,n,r,l⟩
 ·subst n;obtain⟨z,hd,vs,rel,dd⟩:=uu I.cW e;refine wpAny_notIn_of (pW ry) hd dd.mapOf ?_
  rw[<-(rel.val k).m8,<-l];exact h _ (I.tok _)
 ·subst n;cases(show af=Value.ref b from ry);obtain⟨z,hd,xs,rel,dd⟩:=vS I.cW e;refine wpAny_notIn_heap (mS hu) (sE I.cW r) hd dd ?_
  have q:=(rel.val k).m8;rw[ki]at q;rw[<-q,<-l];exact h _ (I.tok _)
def uv{ob:HO}(I:Inv X U Z H s)(mu:VH (H a))(hs:Heap.SameBut a s.heap aa)(he:∃q,aa.get? a=some q)(new:cX X.prog X.w (upd H a ob) aa a ob):
  Inv X U Z (upd H a ob) {s with heap:=aa,toks:=i}:=
 I.write (x:=a) (e:=a) mu (.inl rfl) (λb q hb z=>(hs.2 b hb).trans z) he new
def x_{vs:List (Key×Value)}(z:kvs.length<=sizeLine)(hd:(a==sysModules)=false)(rel:KV kvs vs)(dd:aa.DictOf (cu P w) a vs):
  cX P w H aa a (.dK kvs):=⟨z,hd,vs,rel,dd⟩
theorem Ir(hu:A.units+1<cLine)(I:Inv X U Z H s)(g:E4 H a y v ac)(ry:RelV y af)(rv:RelV v r)(h:∀s',Inv X U Z ac s'->ae () s'):
  wpAny (model X.prog X.w) A (setItem (.ref a) af r) ae E s:=by
 rcases g with⟨kvs,k,e,M,l,S⟩|⟨kvs,k,b,e,M,eb,l,S⟩
 ·subst M S;obtain⟨z,hd,vs,rel,dd⟩:=GA I.cW e;have hz:vs.length<=sizeLine:=by rw[<-rel.length];exact z
  have hl:(putK kvs k v).length<=sizeLine:=by have:=pV kvs k v;omega
  refine wpAny_setItem_pairs (hsz:=hz) (pW ry) dd λh' n hs=>h _ ?_
  have he:∃q,h'.get? a=some q:=let⟨q,_,_,L,_⟩:=n;⟨q,L⟩
  exact uv I (by rw[e];exact True.intro) hs he (x_ hl hd (rel.put k rv) n)
 ·subst M S;cases(show af=Value.ref b from ry);obtain⟨z,hd,xs,rel,dd⟩:=Wc I.cW e;have hz:xs.length<=sizeLine:=by rw[<-Paired.length rel];exact z
  have hl:(putK kvs k v).length<=sizeLine:=by have:=pV kvs k v;omega
  refine wpAny_setItem_heap (hsz:=hz) (mS hu) (sE I.cW eb) dd λh' n hs=>h _ ?_
  obtain⟨q,es,ep,L,h2,h3,h4,_,h5⟩:=n;refine uv I (by rw[e];exact True.intro) hs ⟨q,L⟩ ⟨hl,hd,_,(rel.put k eb rv).keeps λc ys ec=>?_,q,es,ep,L,h2,h3,h4,h5⟩;rw[bq (VF ec e (λz=>nomatch z))];exact ec
end
section
variable {k:Key}
theorem Qu{v:V}(I:Inv X U Z H s)(e:H a=some (.dK kvs))(ry:RelV (kV k) af)(l:m7 kvs k=some v)(hm:aq=[]\/∃x,aq=[x])
  (h:∀w' s',Inv X U Z (upd H a (.dK (rQ kvs k))) s'->RelV v w'->Q w' s'):wpAny (model X.prog X.w) A (call (.builtin "dict.pop") (.ref a::af::aq)) Q E s:=by
 obtain⟨z,hd,vs,rel,dd⟩:=GA I.cW e;obtain⟨w',hw,g⟩:=mj.some_of (v:=v) (o:=valueAt vs k) (by rw[<-l];exact rel.val k);have hp:(keyPart af).isSome=true:=by
  cases k with
  |inl i=>obtain⟨t,q⟩:=(show∃t,af=Value.int i t from ry);subst q;rfl
  |inr x=>obtain⟨t,q⟩:=(show∃t,af=Value.str x t from ry);subst q;rfl
 have n:argsOk "dict.pop" ⟨.ref a::af::aq,[]⟩:=by
  rcases hm with q|⟨x,q⟩
  ·subst q;exact PySem.F.args_dict_pop_2 _ _
  ·subst q;exact PySem.F.args_dict_pop_3 _ _ _
 refine jF tq dd.typeIs PySem.F.entry_dict_pop n (meets_dict_pop_there (cu X.prog X.w) a (pW ry) aq hm hp)
  ⟨vs,w',dd,by rw[<-rel.length];exact z,hw,λh' b hs=>h w' _ ?_ g⟩
 have he:∃q,h'.get? a=some q:=let⟨q,_,_,r,_⟩:=b;⟨q,r⟩
 exact uv I (by rw[e];exact True.intro) hs he (x_ (cB (Ky kvs k) z) hd (rel.drop k) b)
def R9{r:Value}(I:Inv X U Z H s)(e:H a=some (.dK kvs))(ry:RelV (kV k) af)(l:m7 kvs k=none)(h:∀s',Inv X U Z H s'->Q r s'):
  wpAny (model X.prog X.w) A (call (.builtin "dict.pop") [.ref a,af,r]) Q E s:=by
 obtain⟨z,hd,vs,rel,dd⟩:=GA I.cW e;have hn:valueAt vs k=none:=mj.none_of (by rw[<-l];exact rel.val k);have hp:(keyPart af).isSome=true:=by
  cases k with
  |inl i=>obtain⟨t,q⟩:=(show∃t,af=Value.int i t from ry);subst q;rfl
  |inr x=>obtain⟨t,q⟩:=(show∃t,af=Value.str x t from ry);subst q;rfl
 exact jF tq dd.typeIs PySem.F.entry_dict_pop (PySem.F.args_dict_pop_3 _ _ _) (meets_dict_pop_default (cu X.prog X.w) a (pW ry) hd hp r) ⟨vs,dd,hn,h _ (I.tok _)⟩
def Wd(I:Inv X U Z H s)(e:Rd H a (.dK kvs))(h:∀t s',Inv X U Z H s'->Q (.int kvs.length t) s'):wpAny (model X.prog X.w) A (call (.builtin "len") [.ref a]) Q E s:=by
 obtain⟨z,hd,vs,rel,dd⟩:=uu I.cW e;refine call_len_dict hd dd (by rw[<-rel.length];rw[dW]at z;omega) ?_
 rw[<-rel.length];exact h _ _ (I.tok _)
end
def NY(i:Expr):Prop:=∀b iv,subscripted i false b iv=operate [b,iv] (getItem b iv)
def NZ{env:Env}{id:String}
  (hl:typeLookup (.type ay) "__getitem__"=pure (some (.builtin id))) (hs:NY tg)
  (h:wpAny (model P w) A (eval e env) (λo q=>wpAny (model P w) A (eval tg env) (λi uh=>uh.TypeIs o ay/\wpAny (model P w) A (getItem o i) Q E uh) E q) E s):
  wpAny (model P w) A (eval (.Subscript e tg pos) env) Q E s:=by
 refine Subscript_ (ee h (λo q n=>ee n (λi uh b=>?_) λ_ _ x=>x) λ_ _ x=>x);obtain⟨g,b⟩:=b;unfold subscriptTail;refine aU ?_
 rw[getitemInPython_of_ne g.not_modules];refine aU (wpAny_specialOf g hl ?_);have fin:wpAny (model P w) A (subscripted tg false o i) (λr l=>wpAny (model P w) A (letTemporaryGo e o r>>=λ_=>pure r) Q E l) E uh:=by
  rw[hs o i];exact wpAny_operating (ee b (λr l I=>aU (wpAny_letTemporaryGo (bg I))) λ_ _ x=>x)
 first
  |exact bg (aU fin)
  |exact aU (bg (aU fin))
  |exact aU fin
def C1{y:V}{o:Option V}(I:Inv X U Z H s)(g:pX H a y o):s.TypeIs (.ref a) "dict":=by
 rcases g with⟨kvs,k,e,_,_⟩|⟨kvs,k,b,e,_,_,_⟩
 ·obtain⟨_,_,vs,_,dd⟩:=uu I.cW e;exact dd.typeIs
 ·obtain⟨_,_,xs,_,dd⟩:=vS I.cW e;exact dd.typeIs
def We(td ty tv:TE):TS:=λD Z H=>tv Z H λv H1=>td Z H1 λx H2=>ty Z H2 λy g=>∃a b,x=.ref a/\E4 g a y v b/\D.nx Z b
section
variable {td ty tv:TE}
theorem N0(q:X.A.units+1<cLine)(ho:PE X o td)(hi:PE X e ty)(hv:PE X tg tv)(hs:swapsWith tg (some (.Subscript o e p)) pos.line X.env=pure false):
  PS X (.Assign [.Subscript o e p] tg pos) (We td ty tv):=by
 intro U s Z H D I h;refine wpAny_Assign_Subscript (eN (hv U s Z H _ I h) λr s1 ⟨v,H1,b,rv,l⟩=>eN (ho U s1 Z H1 _ b l) λu s2 ⟨x,H2,n,L,M⟩=>eN (hi U s2 Z H2 _ n M) λiv s3 ⟨y,H3,S,ry,a,H4,ex,g,q3⟩=>?_) hs;subst ex;obtain rfl:u=Value.ref a:=L;exact Ir q S g ry rv λs4 I4=>⟨Z,H4,I4,q3⟩
end
def C5(h:Heap)(hb:sysModules<h.objs.size):cX P w H (h.push {cls:=.type "dict",data:=.dict #[]}) h.objs.size (.dK []):=
 ⟨d_ _,jr.mpr (Ne.symm (cf hb)),[],.nil,Heap.DictOf.new h⟩
def R_:TE:=λ_ H Q=>∀p,H p=none->Q (.ref p) (upd H p (.dK []))
theorem Kz:PE X (.Dict [] [] pos) R_:=λU s Z H Q I h=>
 wpAny_Dict_empty ⟨.ref s.heap.objs.size,_,I.laid (a:=s.heap.objs.size) (o:=.dK []) (t':=s.toks) (λ_ _ q=>bS _ q) (bA _) (C5 s.heap I.big),rfl,h _ (I.cW.fresh (bA _))⟩
def ya:List (TE×TE)->St->Hp->(List (V×V)->Hp->Prop)->Prop
 |[],_,H,Q=>Q [] H
 |(b,tv)::r,Z,H,Q=>b Z H λx H1=>tv Z H1 λy H2=>ya r Z H2 λps g=>Q ((x,y)::ps) g
abbrev VV:List (V×V)->List (Value×Value)->Prop:=Paired fun p q=>RelV p.1 q.1/\RelV p.2 q.2
def Vf(X:Cx)(pos:Pos)(keys:List (Option Expr))(values:List Expr)(q:List (TE×TE)):Prop:=
 ∀(U:List (Addr×Obj)) (s:Shared) (Z:St) (H:Hp) (Q:List (V×V)->Hp->Prop),Inv X U Z H s->ya q Z H Q->
  wpAny (model X.prog X.w) X.A (evalPairs (pairTrees keys values X.env pos)) (λvs s'=>∃ps H',Inv X U Z H' s'/\VV ps vs/\Q ps H') X.xe s
theorem GC:Vf X pos [] [] []:=λU s Z H Q I h=>pairTrees_nil_walk ⟨[],H,I,.nil,h⟩
theorem C6{ks:List (Option Expr)}{tk tv:TE}{Bf:List (TE×TE)}(q:PE X e tk)(hv:PE X o tv)(hr:Vf X pos ks es Bf):
  Vf X pos (some e::ks) (o::es) ((tk,tv)::Bf):=λU s Z H Q I h=>
 pairTrees_cons_walk (eN (q U s Z H _ I h) λu s1 ⟨x,H1,b,g,l⟩=>eN (hv U s1 Z H1 _ b l) λw2 s2 ⟨y,H2,n,r,L⟩=>
  eN (hr U s2 Z H2 _ n L) λws s3 ⟨ps,M,S,rel,q3⟩=>⟨(x,y)::ps,M,S,.cons ⟨g,r⟩ rel,q3⟩)
def jd(kvs more:List (Key×V)):List (Key×V):=more.foldl (λacc b=>putK acc b.1 b.2) kvs
def KV.merge:∀{more:List (Key×V)} {rs:List (Key×Value)} {kvs:List (Key×V)} {vs:List (Key×Value)},KV more rs->KV kvs vs->KV (jd kvs more) (merged vs rs):=by
 intro more rs kvs vs r;unfold KV at r
 induction r generalizing kvs vs with
 |nil=>intro q;exact q
 |@cons p q ps l h t b=>
  intro g;have e:KV (putK kvs p.1 p.2) (stored vs q.1 q.2):=by
   have:=g.put p.1 h.2;rw[<-h.1];exact this
  exact b e
theorem jv:∀(more kvs:List (Key×V)),(jd kvs more).length<=kvs.length+more.length
 |[],kvs=>by show kvs.length<=kvs.length+0;omega
 |p::r,kvs=>by
  have b:=jv r (putK kvs p.1 p.2);have h2:=pV kvs p.1 p.2;show(jd (putK kvs p.1 p.2) r).length<=_;rw[dA];omega
theorem yb{P:Program}{w:World}:∀{kvs:List (Key×V)} {ws:List (Value×Value)},VV (kvs.map λkv=>(kV kv.1,kv.2)) ws->∃rs,Carries (cu P w) ws rs/\KV kvs rs
 |[],_,r=>by rw[mW]at r;cases r;exact⟨[],True.intro,.nil⟩
 |p::kvs,_,r=>by
  rw[bB]at r;cases r with
  |@cons a b as bs h t=>
   obtain⟨rs,c,q⟩:=yb (P:=P) (w:=w) t;obtain⟨g,b2⟩:=b;exact⟨(p.1,b2)::rs,⟨pW h.1,rfl,c⟩,.cons ⟨rfl,h.2⟩ q⟩
def Wf(q:List (TE×TE)):TE:=λZ H Q=>∀p,H p=none->ya q Z (upd H p (.dK [])) λps H2=>H2 p=some (.dK [])/\∃kvs:List (Key×V),ps=kvs.map (λb=>(kV b.1,b.2))/\kvs.length<=15/\Q (.ref p) (upd H2 p (.dK (jd [] kvs)))
theorem GD{keys:List (Option Expr)}{Bf:List (TE×TE)}(h:Vf X pos keys es Bf)(vf:keys.all (·.isSome)=true)(hl:keys.length=es.length)(h0:keys≠[])
  (N1:keys.length<=15):PE X (.Dict keys es pos) (Wf Bf):=by
 intro U s Z H Q I q;have l:=I.cW.fresh (bA s.heap.objs.size);have n:=I.laid (a:=s.heap.objs.size) (o:=.dK []) (h':=s.heap.push {cls:=.type "dict",data:=.dict #[]}) (t':=s.toks) (λ_ _ q=>bS _ q) (bA _) (C5 s.heap I.big);refine wpAny_Dict_walk (knd:=cu X.prog X.w) vf hl h0 N1 (eN (h U _ Z _ _ n (q _ l)) λws s2 ⟨ps,H2,b,rel,e,kvs,ep,lk,r⟩=>?_);subst ep;obtain⟨rs,c,rk⟩:=yb (P:=X.prog) (w:=X.w) rel;obtain⟨z,hd,L,M,dd⟩:=GA b.cW e;cases M;refine⟨rs,c,dd,λh' g hs=>⟨.ref s.heap.objs.size,_,?_,rfl,r⟩⟩;have hz:(jd [] kvs).length<=sizeLine:=by
  have S:=jv kvs [];rw[xG]at S;rw[dW];omega
 have he:∃q,h'.get? s.heap.objs.size=some q:=let⟨q,_,_,hq,_⟩:=g;⟨q,hq⟩
 exact uv b (by rw[e];exact True.intro) hs he (x_ hz hd (rk.merge .nil) g)
structure M1(X:Cx)(o:Expr)(m:Str)(b8:Pos)(e:Expr)(dI:Pos):Prop where
 base:attributeBase o m X.env (eval o X.env)=eval o X.env
 Wg:((backTo dI (starEach [e] X.env)).all (fun x=>!x.1)&&(backToKw dI (keywordEach [] X.env)).all (fun x=>x.1.isSome)
  &&decide (([e]:List Expr).length+([]:List Keyword).length+(if([]:List Keyword).isEmpty then 0 else 1)<30))=true
 line:(b8.endLine==dI.line)=true
 trees:backTo dI (starEach [e] X.env)=[(false,eval e X.env)]
structure M2(X:Cx)(o:Expr)(m:Str)(b8:Pos)(e f:Expr)(dI:Pos):Prop where
 base:attributeBase o m X.env (eval o X.env)=eval o X.env
 Wg:((backTo dI (starEach [e,f] X.env)).all (fun x=>!x.1)&&(backToKw dI (keywordEach [] X.env)).all (fun x=>x.1.isSome)
  &&decide (([e,f]:List Expr).length+([]:List Keyword).length+(if([]:List Keyword).isEmpty then 0 else 1)<30))=true
 line:(b8.endLine==dI.line)=true
 trees:backTo dI (starEach [e,f] X.env)=[(false,eval e X.env),(false,eval f X.env)]
def Wh(H:Hp)(a:Addr):Prop:=(∃kvs,Rd H a (.dK kvs))\/∃kvs,Rd H a (.dT kvs)
def Bg(I:Inv X U Z H s)(d:Wh H a):
  s.TypeIs (.ref a) "dict"/\(∀b,Value.ref a=.ref b->∃ob,s.heap.get? b=some ob/\ob.dict=none)/\(a==sysModules)=false:=by
 rcases d with⟨kvs,e⟩|⟨kvs,e⟩
 ·obtain⟨_,hd,vs,_,dd⟩:=uu I.cW e;refine⟨dd.typeIs,λb q=>?_,hd⟩;cases q;obtain⟨ob,_,_,h1,h2,_⟩:=dd;exact⟨ob,h1,h2.2.1⟩
 ·obtain⟨_,hd,xs,_,dd⟩:=vS I.cW e;refine⟨dd.typeIs,λb q=>?_,hd⟩;cases q;obtain⟨ob,_,_,h1,h2,_⟩:=dd;exact⟨ob,h1,h2.2.1⟩
section
variable {y d:V}{r:Value}{o:Option V}
theorem R'(hu:A.units+1<cLine)(I:Inv X U Z H s)(g:pX H a y o)(q:RelV y af)(h:∀w' s',Inv X U Z H s'->RelV (o.getD .cA) w'->Q w' s'):
  wpAny (model X.prog X.w) A (call (.builtin "dict.get") [.ref a,af]) Q E s:=by
 rcases g with⟨kvs,k,e,n,l⟩|⟨kvs,k,b,e,n,r,l⟩
 ·subst n;obtain⟨z,hd,vs,rel,dd⟩:=uu I.cW e;refine jF mJ dd.typeIs tm (PySem.F.args_dict_get_2 _ _) (meets_dict_get (cu X.prog X.w) a (pW q) hd) ⟨_,dd.mapOf,h _ _ (I.tok _) ?_⟩;rw[l];exact(rel.val k).getD rfl
 ·subst n;cases(show af=Value.ref b from q);obtain⟨z,hd,xs,rel,dd⟩:=vS I.cW e;refine jF mJ dd.typeIs tm (PySem.F.args_dict_get_2 _ _) (meetsH_dict_get (tupleKind (cu X.prog X.w)) a b hd) ⟨mS hu,k,xs,sE I.cW r,dd,h _ _ (I.tok _) ?_⟩;rw[l];exact(rel.val k).getD rfl
theorem Sa(hu:A.units+1<cLine)(I:Inv X U Z H s)(g:pX H a y o)(q:RelV y af)(rd:RelV d r)(h:∀w' s',Inv X U Z H s'->RelV (o.getD d) w'->Q w' s'):
  wpAny (model X.prog X.w) A (call (.builtin "dict.get") [.ref a,af,r]) Q E s:=by
 rcases g with⟨kvs,k,e,n,l⟩|⟨kvs,k,b,e,n,L,l⟩
 ·subst n;obtain⟨z,hd,vs,rel,dd⟩:=uu I.cW e;refine jF mJ dd.typeIs tm (PySem.F.args_dict_get_3 _ _ _) (meets_dict_get_default (cu X.prog X.w) a (pW q) hd r) ⟨_,dd.mapOf,h _ _ (I.tok _) ?_⟩;rw[l];exact(rel.val k).getD rd
 ·subst n;cases(show af=Value.ref b from q);obtain⟨z,hd,xs,rel,dd⟩:=vS I.cW e;refine jF mJ dd.typeIs tm (PySem.F.args_dict_get_3 _ _ _) (meetsH_dict_get_default (tupleKind (cu X.prog X.w)) a b hd r) ⟨mS hu,k,xs,sE I.cW L,dd,h _ _ (I.tok _) ?_⟩;rw[l];exact(rel.val k).getD rd
end
def Sb(td ty:TE):TE:=λZ H Q=>td Z H λx H1=>∃a,x=.ref a/\Wh H1 a/\ty Z H1 λy H2=>∃o,pX H2 a y o/\Q (o.getD .cA) H2
def Sd(td ty tx:TE):TE:=λZ H Q=>td Z H λx H1=>∃a,x=.ref a/\Wh H1 a/\ty Z H1 λy H2=>tx Z H2 λz b=>∃o,pX b a y o/\Q (o.getD z) b
def Se(td ty:TE):TE:=λZ H Q=>td Z H λx H1=>∃a,x=.ref a/\Wh H1 a/\ty Z H1 λy H2=>∃kvs k v,H2 a=some (.dK kvs)/\y=kV k/\m7 kvs k=some v/\Q v (upd H2 a (.dK (rQ kvs k)))
def Sf(td ty tx:TE):TE:=λZ H Q=>td Z H λx H1=>∃a,x=.ref a/\Wh H1 a/\ty Z H1 λy H2=>tx Z H2 λz b=>∃kvs k,b a=some (.dK kvs)/\y=kV k/\
 (∀v,m7 kvs k=some v->Q v (upd b a (.dK (rQ kvs k))))/\(m7 kvs k=none->Q z b)
section
variable {td ty tx:TE}
theorem KA(q:X.A.units+1<cLine)(ho:PE X o td)(he:PE X e ty)(m:M1 X o "get" b8 e p):PE X (.Call (.Attribute o "get" b8) [e] [] p) (Sb td ty):=by
 intro U s Z H Q I h;refine tV m.base m.Wg m.line qT mJ PySem.F.type_dict_get (eN (ho U s Z H _ I h) λu s1 ⟨x,H1,b,l,a,ex,d,n⟩=>?_);subst ex;obtain rfl:u=Value.ref a:=l;obtain⟨t1,r,_⟩:=Bg b d;refine⟨t1,r,?_⟩;rw[m.trees];refine nO rfl (nR (kN (eN (he U s1 Z H1 _ b n) λiv s2 ⟨y,H2,L,M,ov,g,S⟩=>pC ?_)));exact R' q L g M λw' s3 I3 pT=>⟨_,H2,I3,pT,S⟩
theorem KC(q:X.A.units+1<cLine)(ho:PE X o td)(he:PE X e ty)(hf:PE X tg tx)(m:M2 X o "get" b8 e tg p):PE X (.Call (.Attribute o "get" b8) [e,tg] [] p) (Sd td ty tx):=by
 intro U s Z H Q I h;refine tV m.base m.Wg m.line qT mJ PySem.F.type_dict_get (eN (ho U s Z H _ I h) λu s1 ⟨x,H1,b,l,a,ex,d,n⟩=>?_);subst ex;obtain rfl:u=Value.ref a:=l;obtain⟨t1,r,_⟩:=Bg b d;refine⟨t1,r,?_⟩;rw[m.trees];refine nO rfl (nR (kN (eN (he U s1 Z H1 _ b n) λiv s2 ⟨y,H2,L,M,S⟩=>
  kN (eN (hf U s2 Z H2 _ L S) λfv s3 ⟨z,H3,I3,rz,ov,g,q3⟩=>pC ?_))))
 exact Sa q I3 g M rz λw' s4 I4 pT=>⟨_,H3,I4,pT,q3⟩
theorem KD(q:PE X o td)(he:PE X e ty)(m:M1 X o "pop" b8 e p):PE X (.Call (.Attribute o "pop" b8) [e] [] p) (Se td ty):=by
 intro U s Z H Q I h;refine tV m.base m.Wg m.line qT tq PySem.F.type_dict_pop (eN (q U s Z H _ I h) λu s1 ⟨x,H1,b,g,a,ex,d,n⟩=>?_);subst ex;obtain rfl:u=Value.ref a:=g;obtain⟨t1,r,_⟩:=Bg b d;refine⟨t1,r,?_⟩;rw[m.trees];refine nO rfl (nR (kN (eN (he U s1 Z H1 _ b n) λiv s2 ⟨y,H2,L,M,kvs,k,v,S,ey,l,q2⟩=>pC ?_)));subst ey;exact Qu L S M l (.inl rfl) λw' s3 I3 pT=>⟨v,_,I3,pT,q2⟩
theorem KG(q:PE X o td)(he:PE X e ty)(hf:PE X tg tx)(m:M2 X o "pop" b8 e tg p):PE X (.Call (.Attribute o "pop" b8) [e,tg] [] p) (Sf td ty tx):=by
 intro U s Z H Q I h;refine tV m.base m.Wg m.line qT tq PySem.F.type_dict_pop (eN (q U s Z H _ I h) λu s1 ⟨x,H1,g,M,a,ex,d,S⟩=>?_);subst ex;obtain rfl:u=Value.ref a:=M;obtain⟨t1,t2,_⟩:=Bg g d;refine⟨t1,t2,?_⟩;rw[m.trees];refine nO rfl (nR (kN (eN (he U s1 Z H1 _ g S) λiv s2 ⟨y,H2,I2,n,q2⟩=>
  kN (eN (hf U s2 Z H2 _ I2 q2) λfv s3 ⟨z,H3,r,rz,kvs,k,L,ey,q3,q4⟩=>pC ?_))))
 subst ey;cases l:m7 kvs k with
 |some v=>exact Qu r L n l (.inr ⟨fv,rfl⟩) λw' s4 b pT=>⟨v,_,b,pT,q3 v l⟩
 |none=>exact R9 r L n l λs4 b=>⟨z,H3,b,rz,q4 l⟩
end
theorem zZ:∀{vs:List Value} {ns:List Int},IntsAre vs ns->Vals (ns.map V.int) vs
 |_,_,.nil=>.nil
 |_,_,.cons n t h=>.cons ⟨t,rfl⟩ (zZ h)
def Sg(H:Hp):Prop:=∀b,H b=none\/∃o xs,H b=some (.lJ o (.lst xs))
theorem KH{mb:Str->Option Value}{CX:CQ}{fd:FuncData}{sp:Sp}{dr:Shared}{ns:List Int}
  (KX:K.In dr.heap) (Si:dr.heap.Ns mainGlobals mg) (hb:dr.heap.Ns builtinsNs mb) (hbb:∀x:Str,x≠"__name__"->mb x=bootBuiltins x) (aaI:dr.heap.NoLimit) (hg:dr.gens=#[])
  (ha:dr.heap.get? a=some {cls:=.type "list",data:=.seq aq.toArray}) (hi:IntsAre aq ns) (hl:ns.length<=sizeLine) (hr:dk i callerA)
  (F:∀base:Heap,K.In base->base.Ns mainGlobals mg->eI P w K mg base CX i au fd [x] sp) (Wi:∀(s:Shared) (u:Value),BindsTo s fd ⟨[u],[]⟩ [(x,u)])
  (Kt:∀H:Hp,Sg H->lT K H a (ns.map V.int)->sp [.ref a] H (λv _=>v=.bl true) λ_ _ _=>False)
  (hCX:∀H e s',CX [] H dr (λ_ _ _=>False) e s'->False):
  codeAny (model P w) callerA (.call (.ref au) ⟨[.ref a],[]⟩) (λr s'=>r=.ok (.ret (.bool true))/\OldK dr.heap s'.heap/\s'.os=dr.os/\AllBare s'.gens) dr:=by
 have rv:=zZ hi;have L:=hi.length;have core:∀H:Hp,Sg H->lT K H a (ns.map V.int)->sA P w H dr.heap->(∀b,H b≠none->b=a)->(H a≠none->K.lookup a=none)->
   codeAny (model P w) callerA (.call (.ref au) ⟨[.ref a],[]⟩) (λr s'=>r=.ok (.ret (.bool true))/\OldK dr.heap s'.heap/\s'.os=dr.os/\AllBare s'.gens) dr:=by
  intro H hO hS cW hA hK;have GF:∀{b:Addr} {o:Obj},dr.heap.get? b=some o->H b=none->(AY dr.heap H).get? b=some o:=λe n=>J7 e n;have V8:∀{b:Addr} {o:Obj} {es:Array DictEntry} {ep:Nat},dr.heap.get? b=some o->o.data=.dict es ep->H b=none:=λ{b o es ep} e d=>by
   cases q:H b with
   |none=>rfl
   |some u=>
    have M:b=a:=hA b (by rw[q];simp);subst M;rw[ha]at e;cases e;have d':Data.seq aq.toArray _=Data.dict es ep:=d;cases d'
  have I:∀{b:Addr} {m:Str->Option Value},dr.heap.Ns b m->(AY dr.heap H).Ns b m:=λ{b m} ⟨o,es,ep,e,d,r⟩=>⟨o,es,ep,GF e (V8 e d),d,r⟩;have g:K.In (AY dr.heap H):=λb o e=>GF (KX b o e) (by
   cases q:H b with
   |none=>rfl
   |some u=>
    have M:b=a:=hA b (by rw[q];simp);subst M;rw[hK (by rw[q];simp)]at e;cases e)
  have hM:Mod K mg (AY dr.heap H):=⟨g,I Si,⟨mb,I hb,hbb⟩,let⟨mc,h1,h2⟩:=aaI;⟨mc,I h1,h2⟩⟩;have e0:zx P w K mg (AY dr.heap H) callerA [] dr H:=⟨rfl,hM,λb o e=>Nv e,Nat.le_of_eq (Ic _ _),trivial,λb hb=>absurd (show b∈([]:List Addr)from hb) (by simp),cW,.of_eq hg⟩;refine iO ((F _ g (I Si)).run callerA [] dr H ⟨[.ref a],[]⟩ [.ref a] [.ref a] _ _ hr e0 (Wi dr (.ref a)) (.cons rfl .nil) (Kt H hO hS)) λr s' h=>?_
  cases r with
  |error e=>exact(hCX H e s' h).elim
  |ok fl=>
   cases fl with
   |next=>exact False.elim h
   |brk=>exact False.elim h
   |cont=>exact False.elim h
   |ret u=>
    obtain⟨v,H',os,bare,un,S,r',q⟩:=h;have q':v=.bl true:=q;subst q';obtain rfl:u=Value.bool true:=r';refine⟨rfl,OldK.of_keep λb o e=>?_,os,bare⟩;cases q:H b with
    |none=>exact un.keep b o e q (by intro z;exact absurd (show b∈([]:List Addr)from z) (by simp)) (by simp)
    |some u=>
     rcases hO b with z|⟨ob,xs,z⟩
     ·rw[q]at z;cases z
     ·have z2:=un.lK b ob _ z;obtain⟨e1,_⟩:=cW b _ z;obtain⟨e2,_⟩:=S b _ z2;rw[e]at e1;cases e1;exact e2
 cases hk:K.lookup a with
 |some o=>
  have e:=KX a o hk;rw[ha]at e;cases e;refine core (λ_=>none) (λ_=>.inl rfl) (.inr ⟨_,aq.toArray,_,hk,rfl,rfl,rfl,by rw[cU,L];exact hl,by simpa using rv⟩) (λb u z=>by have l:(none:Option HO)=some u:=z;cases l) (λb z=>absurd rfl z) λz=>absurd rfl z
 |none=>
  refine core (λb=>if b=a then some (.lJ {cls:=.type "list",data:=.seq aq.toArray} (.lst (ns.map V.int)))else none) (λb=>?_) (.inl (.inr ⟨{cls:=.type "list",data:=.seq aq.toArray},aY rfl⟩)) (λb u z=>?_) (λb z=>?_) λ_=>hk
  ·by_cases hb:b=a
   ·exact .inr ⟨_,_,aY hb⟩
   ·exact .inl (bc hb)
  ·by_cases hb:b=a
   ·have l:=(aY hb).symm.trans z;cases l;subst hb;exact⟨ha,by rw[bu];exact hl,aq,_,rv,ha⟩
   ·have l:=(bc hb).symm.trans z;cases l
  ·by_cases hb:b=a
   ·exact hb
   ·exact absurd (bc hb) z
def N2{l:PySem.W.OpenLaw}{n k:Nat}{XP:(Str->Option Value)->Heap->Prop}{YP:World->Heap->Prop}{d:DefRec}{K:Params->Frag}{CX:World->CQ}{sp:World->Sp}{x:Str}
  (hn:l.most=some n) (RS:n<=sizeLine) (VB:d.params.defaults=[]) (hr:dk k callerA)
  (hY:∀(w:World) (h:Heap),YP w h->(K w.params).In h)
  (F:∀(w:World) (mg:Str->Option Value) (fa:Addr) (h:Heap),(K w.params).In h->h.Ns mainGlobals mg->mg d.name=some (.ref fa)->
   ∃fd:FuncData,(∀(s:Shared) (u:Value),BindsTo s fd ⟨[u],[]⟩ [(x,u)])/\
    ∀base:Heap,(K w.params).In base->base.Ns mainGlobals mg->eI l.prog w (K w.params) mg base (CX w) k fa fd [x] (sp w))
  (Kt:∀(w:World) (H:Hp) (a:Addr) (ns:List Int),ns.length<=n->Sg H->lT (K w.params) H a (ns.map V.int)->sp w [.ref a] H (λv _=>v=.bl true) λ_ _ _=>False)
  (q:∀(w:World) (H:Hp) (s:Shared) (e:Value) (s':Shared),CX w [] H s (λ_ _ _=>False) e s'->False):
  PySem.W.WalkO P ps XP YP l.row.toRowW d [] (λf vs=>PySem.call f vs):=by
 refine Att.CI hn VB λw gH L mg mb fa o pm cd doc a vs ns G M ho hd EL S Rr hints r hg=>?_
 have I:=hY w _ M;obtain⟨fd,hb,hF⟩:=F w mg fa _ I G.T.g S;exact KH I G.T.g G.T.b G.T.builtins G.T.nolimit hg Rr hints (cB r RS) hr hF hb (λH hO hS=>Kt w H a ns r hO hS) λH e s'=>q w H L e s'
noncomputable def wM(s:Stmt):Arguments:=match s with
 |.FunctionDef _ a _ _ _ _ _ _ _ _=>a
 |_=>{posonlyargs:=[],args:=[],vararg:=none,kwonlyargs:=[],kw_defaults:=[],kwarg:=none,defaults:=[]}
noncomputable def gc(s:Stmt):List Stmt:=match s with
 |.FunctionDef _ _ b _ _ _ _ _ _ _=>b
 |_=>[]
noncomputable def bI(s:Stmt):Scope:=match s with
 |.FunctionDef _ _ _ _ _ _ sc _ _ _=>sc
 |_=>{kind:=.function,names:=[],isGenerator:=false,isCoroutine:=false}
abbrev mH:CQ:=fun _ _ _ _ _ _=>False
abbrev E0:XK:=fun _ _ _=>False
def KI:Passes mH X E0:=λ_ _ _ _ _ _ _ h=>h.elim
structure zt(K:Frag)(x qual:Str)(st:Stmt)(f:Addr)(fd:FuncData):Prop where
 ex:∃(oc:Value) (od:Option Addr) (kV doc pm:Value) (an:Option Addr) (gn ct:Value) (Ks:Array (Option Value)),
  fd=PySem.W.fnOf x qual (wM st) (gc st) (bI st) .none kV doc pm an gn ct/\K.lookup f=some ⟨oc,od,.func fd,Ks⟩/\PySem.W.codeIn K gn qual=true
 kp:PySem.W.keepIn K (.ref f)=true
def zt.ok {qual:Str}{st:Stmt}{f:Addr}{fd:FuncData}{N:List Str}{k:Nat}{sp:Sp}(F:zt K x qual st f fd)(S:hX N ps (bI st))(len:∀vs H Q E,sp vs H Q E->vs.length=ps.length)
  (kZ:∀(gn:Value) (A:Around) (outer:List Env) (s:Shared) (H:Hp) (vs:List V) (Q:VK) (E:XK),dk k (A.deeper (envOfC qual (bI st) s.heap.objs.size f gn))->sp vs H Q E->
   ∃t,o6 (oZ mH P w K mg aa N qual (bI st) f gn A outer s H E).JU (gc st) t/\t {nx:=λ_ H'=>Q .cA H',rt:=Q} (start N vs) H):eI P w K mg aa mH (k+1) f fd ps sp:=by
 obtain⟨n,od,kV,doc,pm,an,gn,ct,Ks,rfl,lk,b⟩:=F.ex;refine Qp lk b S len λA outer s H vs Q E g l=>?_
 obtain⟨t,h,q⟩:=kZ gn A outer s H vs Q E g l;exact⟨t,h.JU,q⟩
def zt.binds {qual:Str}{st:Stmt}{f:Addr}{fd:FuncData}(F:zt K x qual st f fd)
  (h:∀(kV doc pm:Value) (an:Option Addr) (gn ct:Value) (us:List Value),us.length=ps.length->bindArgs (PySem.W.fnOf x qual (wM st) (gc st) (bI st) .none kV doc pm an gn ct) ⟨us,[]⟩=pure (ps.zip us)):Binds K fd ps []:=by
 obtain⟨b,od,kV,doc,pm,an,gn,ct,Ks,rfl,lk,g⟩:=F.ex;exact .all (h kV doc pm an gn ct)
theorem ba(q:dk i A):A.units+1<cLine:=xr (Nat.add_le_add_left (by decide:1<=64) _) q.units
def Sj{A B:Prop}(h:B):if false=true then A else B:=by
 rw[bc fI];exact h
def Sk{A B:Prop}(h:A):if true=true then A else B:=by
 rw[aY rfl];exact h
def bo(H H':Hp):Prop:=∀b o,H b=some o->H' b=some o
def bo.refl (H:Hp):bo H H:=λ_ _ h=>h
def bo.trans {H1 H2:Hp}(a:bo H H1)(b:bo H1 H2):bo H H2:=λc o h=>b c o (a c o h)
def bo.free {H':Hp}(e:bo H H'){l:Addr}(h:H' l=Option.none):H l=Option.none:=by
 cases q:H l with
 |none=>rfl
 |some o=>
  rw[e l o q]at h;cases h
def bo.seq {H':Hp}{xs:List V}(e:bo H H')(h:lT K H a xs):lT K H' a xs:=by
 rcases h with(h|⟨o,h⟩)|h
 ·exact .inl (.inl (e _ _ h))
 ·exact .inl (.inr ⟨o,e _ _ h⟩)
 ·exact .inr h
theorem yc{α β:Type}{f:α->β->Sem (ForInStep β)}{g:β->α->β}:∀(l:List α) (c:β),(∀x∈l,∀c,f x c=pure (.yield (g c x)))->forIn l c f=(pure (l.foldl g c):Sem β)
 |[],c,_=>rfl
 |x::l,c,h=>by
  rw[pD,h x cG,pure_bind];exact yc l _ λy b=>h y (cw _ b)
noncomputable def mn(env:Env)(cs:List (Str×Addr))(x:Str×NameKind):List (Str×Addr):=if x.2== .free then(x.1,(env.cells.lookup x.1).getD 0)::cs else cs
def E5(scope:Scope)(env:Env):List (Str×Addr):=scope.names.foldl (mn env) []
def uw{env:Env}(h:∀x∈ax.names,x.2=.free->∃c,env.cells.lookup x.1=some c):closureFor ax env=pure (E5 ax env):=by
 simp only[closureFor];rw[yc (g:=mn env) ax.names [] (λx l c=>by
  obtain⟨n,k⟩:=x;by_cases b:k=.free
  ·subst b;obtain⟨a,ha⟩:=h _ l rfl;have r:env.cells.lookup n=some a:=ha;simp[cellOf,r,mn]
  ·have e:(k==NameKind.free)=false:=by simpa using b
   simp[e,mn])]
 rfl
theorem yd{env:Env}:∀(names:List (Str×NameKind)) (acc:List (Str×Addr)),(∀x∈names,x.2=.free->∃c,env.cells.lookup x.1=some c)->(∀x c,acc.lookup x=some c->env.cells.lookup x=some c)->
  ∀x c,(names.foldl (mn env) acc).lookup x=some c->env.cells.lookup x=some c
 |[],_,_,ha,x,c,e=>ha x c e
 |(n,k)::r,acc,hf,ha,x,c,e=>by
  refine yd r (mn env acc (n,k)) (λy g=>hf y (cw _ g)) (λy d b=>?_) x c e;unfold mn at b;by_cases l:k=.free
  ·subst l;obtain⟨a,hn⟩:=hf (n,.free) cG rfl;have I:env.cells.lookup n=some a:=hn;simp only[bU,cj,I,pz,cQ]at b;split at b
   ·rename_i g;have:y=n:=by simpa using g
    subst this;rw[I];exact b
   ·exact ha y d b
  ·have e:(k==NameKind.free)=false:=by simpa using l
   simp only[e,cH,cg]at b;exact ha y d b
theorem ye{env:Env}:∀(names:List (Str×NameKind)) (acc:List (Str×Addr)) (x:Str),((acc.lookup x).isSome=true\/(x,NameKind.free)∈names)->((names.foldl (mn env) acc).lookup x).isSome=true
 |[],_,_,h=>h.elim (λz=>z) λz=>absurd z (by simp)
 |(n,k)::r,acc,x,h=>by
  refine ye r (mn env acc (n,k)) x ?_
  unfold mn;rcases h with h|h
  ·left;split
   ·rw[cQ];split<;>simp_all
   ·exact h
  ·rcases bH.mp h with h|h
   ·left;cases h;simp[cQ]
   ·exact .inr h
theorem sF{env:Env}:∀{names:List (Str×NameKind)} {x:Str} {k:NameKind},(names.map λ(n,k)=>if(k==NameKind.free&&env.scope.kind== .function&&env.kindOf n==some .cell)then(n,NameKind.cell)else(n,k)).lookup x=some k->
  names.lookup x=some k\/names.lookup x=some .free
 |[],_,_,h=>by simp at h
 |(n,j)::r,x,k,h=>by
  simp only[bB]at h;by_cases g:x=n
  ·subst g;by_cases b:(j==NameKind.free&&env.scope.kind== .function&&env.kindOf x==some .cell)=true
   ·rw[aY b]at h;simp only[bY,fu]at b;right;rw[cQ,bU,b.1.1]
   ·rw[bc b]at h;left;rw[cQ,bU]at h⊢;exact h
  ·have e:(x==n)=false:=by simpa using g
   have h':(r.map λ(n,k)=>if(k==NameKind.free&&env.scope.kind== .function&&env.kindOf n==some .cell)then(n,NameKind.cell)else(n,k)).lookup x=some k:=by
    split at h<;>(rw[cQ,e]at h;exact h)
   rcases sF h' with z|z
   ·left;rw[cQ,e];exact z
   ·right;rw[cQ,e];exact z
theorem ux{env:Env}:∀{names:List (Str×NameKind)} {x:Str},names.lookup x=some .free->
  (names.map λ(n,k)=>if(k==NameKind.free&&env.scope.kind== .function&&env.kindOf n==some .cell)then(n,NameKind.cell)else(n,k)).lookup x=some .cell\/
  (names.map λ(n,k)=>if(k==NameKind.free&&env.scope.kind== .function&&env.kindOf n==some .cell)then(n,NameKind.cell)else(n,k)).lookup x=some .free
 |[],_,h=>by simp at h
 |(n,j)::r,x,h=>by
  simp only[bB];by_cases b:x=n
  ·subst b;rw[cQ,bU]at h;have l:j=.free:=Option.some.inj h;by_cases g:(j==NameKind.free&&env.scope.kind== .function&&env.kindOf x==some .cell)=true
   ·left;rw[aY g,cQ,bU]
   ·right;rw[bc g,cQ,bU,l]
  ·have e:(x==n)=false:=by simpa using b
   rw[cQ,e]at h;rcases ux (env:=env) h with z|z
   ·left;split<;>(rw[cQ,e];exact z)
   ·right;split<;>(rw[cQ,e];exact z)
def uy(X:Cx)(scope:Scope)(N:List Str)(s:Shared)(H:Hp)(ex:List Addr):Cx where
 prog:=X.prog
 w:=X.w
 K:=X.K
 mg:=X.mg
 base:=X.base
 A:=X.A
 N:=N
 gH:=s
 CL:=H
 env:=compEnvC scope (E5 scope X.env) s.heap.objs.size X.env
 outer:=X.stack
 stack:=X.stack
 ex:=ex
 fn:=λ_=>false
 calm:=X.calm
 pn:=[]
 xe:=λ_ _=>False
noncomputable def Wj(N N':List Str)(ix:List (Option Nat))(sc scope:Scope):Bool:=
 decide (N'.length=ix.length)&&(N'.zip ix).all (λp=>match p.2 with
  |none=>true
  |some j=>decide (N[j]?=some p.1)&&decide (scope.names.lookup p.1=some .free))&&
 scope.names.all (λy=>y.2 != .cell&&(y.2 != .free||decide (sc.names.lookup y.1=some .cell))&&(y.2 != .local||decide (scope.names.lookup y.1=some .local)))&&(scope.kind== .function)
structure g0(X:Cx)(N':List Str)(ix:List (Option Nat))(scope:Scope):Prop where
 len:N'.length=ix.length
 free:∀(i:Nat) (x:Str) (j:Nat),N'[i]?=some x->ix[i]?=some (some j)->X.N[j]?=some x/\scope.names.lookup x=some .free
 KJ:∀y∈scope.names,y.2≠ .cell
 cell:∀y∈scope.names,y.2=.free->X.env.scope.names.lookup y.1=some .cell
 loc:∀y∈scope.names,y.2=.local->scope.names.lookup y.1=some .local
 kind:scope.kind=.function
def g0.of {N N':List Str}{ix:List (Option Nat)}{sc scope:Scope}(hN:X.N=N)(hs:X.env.scope=sc)(h:Wj N N' ix sc scope=true):g0 X N' ix scope:=by
 unfold Wj at h;simp only[bY,iK,dE]at h;obtain⟨⟨⟨l,h2⟩,g⟩,n⟩:=h;refine⟨l,λi x j r I=>?_,λy b z=>?_,λy b z=>?_,λy b z=>?_,by simpa using n⟩
 ·have m:(x,some j)∈N'.zip ix:=d8 (i:=i) (by rw[List.getElem?_zip_eq_some];exact⟨r,I⟩);have q:=h2 _ m;simp only[bY,iK]at q;rw[hN];exact q
 ·have q:=(g y b).1.1;rw[z]at q;simp at q
 ·have q:=(g y b).1.2;rw[z]at q;simp only[tN,iM,iK]at q;rw[hs];exact q
 ·have q:=(g y b).2;rw[z]at q;simp only[tN,iM,iK]at q;exact q
noncomputable def jw(ix:List (Option Nat))(Z:St):St:=ix.map λo=>o.bind λj=>(Z[j]?).join
theorem E6{ix:List (Option Nat)}{fp:List Addr}(L:g0 X ps ix ax)(I:Inv X U Z H s)
  (Si:aa.Ns s.heap.objs.size (λ_=>none)) (N3:∀b o,s.heap.get? b=some o->aa.get? b=some o)
  (hf:∀b∈fp,kY X U H b) (hfo:∀b∈fp,b<s.heap.objs.size):Inv (uy X ax ps s H fp) [] (jw ix Z) H {s with heap:=aa,toks:=az}:=by
 have yf:∀y∈ax.names,y.2=.free->∃c,X.env.cells.lookup y.1=some c:=λy hy z=>I.ok.has y.1 (.inl (L.cell y hy z));have sub:∀x c,(E5 ax X.env).lookup x=some c->X.env.cells.lookup x=some c:=yd ax.names [] yf (λx c e=>by simp at e);have has:∀x,ax.names.lookup x=some .free->∃c,(E5 ax X.env).lookup x=some c:=λx e=>
  xj.mp (ye ax.names [] x (.inr (lP e)))
 have Ni:∀b∈fp,b∉j8 X.stack:=λb hb z=>by
  obtain⟨_,f1,f2,_⟩:=hf b hb;rcases bH.mp (I.xU b z)with q|q
  ·exact f1 q
  ·exact f2 q
 refine⟨⟨I.ok.mod,L.kind,I.ok.glob,I.ok.blt,bA _,λx y c M g=>I.ok.inj x y c (sub x c M) (sub y c g),λx S=>?_,λx c z=>absurd (show false=true from z) fI,I.ok.hd,I.ok.frames,.inl rfl,
   λb hb=>⟨cf (hfo b hb),λx c e=>(hf b hb).2.2.2.2.1 x c (sub x c e)⟩,I.bs,cB I.ok.Ie I.sz,λb o e hb=>?_,Ni,I.stack,I.wK⟩,
  rfl,I.bare,Un.kept N3,⟨_,Si,λi x v M g e3=>?_⟩,λx c e=>?_,I.fresh,λx c e=>I.gq x c (sub x c e),λp hp=>absurd (show p∈([]:List (Addr×Obj))from hp) (by simp),I.cW.kept N3,?_⟩
 ·have S:(relabel ax X.env).names.lookup x=some .cell\/(relabel ax X.env).names.lookup x=some .free:=S;have Gk:ax.names.lookup x=some .free:=by
   rcases S with z|z
   ·rcases sF z with q|q
    ·exact absurd rfl (L.KJ _ (lP q))
    ·exact q
   ·rcases sF z with q|q
    ·exact q
    ·exact q
  exact has x Gk
 ·obtain⟨_,_,_,q,_⟩:=hf b hb;rcases q with q|q
  ·exact I.ok.AZ b o e q
  ·exact absurd (dc (bz (I.ok.bs b o e).1) q) (eZ _)
 ·
  unfold jw at g;rw[cq]at g;cases eo:ix[i]? with
  |none=>rw[eo]at g;cases g
  |some o=>
   rw[eo]at g;cases o with
   |none=>exact absurd (show(some none:Option (Option V))=some (some v)from g) (by simp)
   |some j=>
    obtain⟨n1,n2⟩:=L.free i x j M eo;have n:(Z[j]?).join=some v:=Option.some.inj (show some ((Z[j]?).join)=some (some v)from g);have e4:Z[j]?=some (some v):=by
     cases q:Z[j]? with
     |none=>rw[q]at n;cases n
     |some z=>
      rw[q]at n;have:z=some v:=n;rw[this]
    have GG:X.env.scope.names.lookup x=some .cell:=L.cell _ (lP n2) rfl;obtain⟨m,hn,hl⟩:=I.loc;obtain⟨u,r,l⟩:=hl j x v n1 e4 (.inr (.inl GG));refine⟨u,r,?_⟩;rcases l with⟨k,_⟩|⟨k,c,ec,z⟩
    ·have k':X.env.scope.names.lookup x=some .local:=k;rw[GG]at k';cases k'
    ·obtain⟨c',VN⟩:=has x n2;have ecc:c'=c:=by
      have q:=sub x c' VN;rw[ec]at q;exact(Option.some.inj q).symm
     subst ecc;refine .inr ⟨?_,c',VN,?_⟩
     ·exact ux n2
     ·obtain⟨o',Nw,Nx⟩:=z;exact⟨o',N3 _ _ Nw,Nx⟩
 ·obtain⟨v,o,ho,hd⟩:=I.cell x c (sub x c e);exact⟨v,o,N3 _ _ ho,hd⟩
 ·show(jw ix Z).length=ps.length;unfold jw;rw[bu];exact L.len.symm
noncomputable abbrev GH(ifs:List Expr)(env:Env):Sem Bool:=forIn ifs true fun c r=>if r=true then do let ok<-isTrue c env (eval c env);pure (ForInStep.yield ok)else pure (ForInStep.yield r)
theorem N4{acc:Value}{env:Env}(I:Nat->Shared->Prop)
  (turn:∀n s,I n s->wpAny (model P w) A (pyNext af) (λr q=>match r with
   |none=>aw (.ok .next) q
   |some v=>wpAny (model P w) A (letOwnedTupleGo o af v) (λ_ Qv=>wpAny (model P w) A (assign o env v) (λ_ uh=>
     wpAny (model P w) A (GH es env) (λok C0=>
      if ok=true then wpAny (model P w) A (eval e env) (λx N5=>
       wpAny (model P w) A (call (.builtin "list.append") [acc,x]) (λ_ Wk=>∃m,m<n/\I m Wk) (λ_ _=>False) N5) (λ_ _=>False) C0
      else∃m,m<n/\I m C0) (λ_ _=>False) uh) (λ_ _=>False) Qv) (λ_ _=>False) q) (λ_ _=>False) s)
  (n:Nat) (h:I n s):codeAny (model P w) A (.compLoop (.ListComp e [⟨o,tg,es,0⟩] ax pos) 0 af acc env) aw s:=by
 refine codeAny_loop rfl I (λn s l=>?_) n h;show wpAny _ A ((compTurn (.ListComp e [⟨o,tg,es,0⟩] ax pos) 0 af acc env).onRaise (λx=>do noteFrame x env;theTreesLotGoes x)) _ _ s;refine wpAny_noted ?_
 rw[compTurn_list];refine aU (wpAny_standAt (aU (ee (turn n s l) (λr q b=>?_) λ_ _ f=>f.elim)));cases r with
 |none=>exact bg b
 |some v=>
  refine aU (ee b (λ_ Qv L=>?_) λ_ _ f=>f.elim);refine aU (ee L (λ_ uh M=>aU (ee M (λok C0 g=>?_) λ_ _ f=>f.elim)) λ_ _ f=>f.elim);cases ok with
  |false=>exact bg ⟨rfl,g⟩
  |true=>exact aU (aU (ee g (λx N5 S=>aU (ee S (λ_ Wk rL=>bg (bg ⟨rfl,rL⟩)) λ_ _ f=>f.elim)) λ_ _ f=>f.elim))
def PF(X:Cx)(ifs:List Expr)(t:TT):Prop:=
 ∀(U:List (Addr×Obj)) (s:Shared) (Z:St) (H:Hp) (Q:Bool->Hp->Prop),Inv X U Z H s->t Z H Q->wpAny (model X.prog X.w) X.A (GH ifs X.env) (TP X U Z Q) X.xe s
def Sm:PF X [] (λ_ H Q=>Q true H):=λ_ _ _ H _ I h=>wpAny_tests_nil ⟨H,I,h⟩
theorem Sn{t:TT}(h:PT X e t):PF X [e] t:=λU s Z H Q I q=>wpAny_tests_one (h U s Z H Q I q)
def LcW(J:It)(D:Addr)(q:St)(H0:Hp)(g:TG)(tc:TT)(te:TE)(Q:Hp->Prop):Prop:=
 ∃W:Nat->Nat->St->Hp->Prop,(∃m,W 0 m q H0)/\∀i m Z H,W i m Z H->(J.stop i H/\Q H)\/
  (J.go i H/\∃N:St->Hp->Prop,(∀n H',N n H'->∃r,r<m/\W (i+1) r n H')/\∀x H',J.Gs i H x H'->g x Z H' λl H2=>tc l H2 λb I=>
    if b=true then te l I λy L=>∃ys,L D=some (.lst ys)/\ys.length<sizeLine/\N l (upd L D (.lst (ys++[y])))else N l I)
def Vh(q:TI)(ix:List (Option Nat))(g:TG)(tc:TT)(te:TE):TE:=λZ H Q=>q Z H λJ H1=>∀D,H1 D=none->LcW J D (jw ix Z) (upd H1 D (.lst [])) g tc te λH'=>Q (.ref D) H'
section
variable {scope:Scope}{ix:List (Option Nat)}{elt:Expr}{g:TG}{tc:TT}{te:TE}
theorem GI{use:Option (Value->Sem Unit)}{QD:Addr->Hp->Prop}{s2:Shared}{fp:List Addr}{tn:Nat->Heap->Prop}{J:It}
  (L:g0 X ps ix scope) (hc:X.calm=true) (lL:∀s H ex,PG (uy X scope ps s H ex) tg g/\PF (uy X scope ps s H ex) aA tc/\PE (uy X scope ps s H ex) elt te)
  (I2:Inv X U Z ac s2) (T:Turn X.prog X.w X.K tg J fp a tn) (NF:tn 0 s2.heap) (f2:∀b∈fp,kY X U ac b)
  (hw:∀D,ac D=none->LcW J D (jw ix Z) (upd ac D (.lst [])) g tc te (QD D))
  (aaL:∀D C H' s' m,Inv X U Z H' s'->kY X U H' C->s'.heap.Ns C m->QD D H'->compPost (model X.prog X.w) X.A X.xe use E (.ref D) C (.ok .next) s'):
  wpAny (model X.prog X.w) X.A (newList []) (λacc C0=>wpAny (model X.prog X.w) X.A (newFunctionEnv scope X.env.globals (E5 scope X.env) [] X.env.qual none .none (some X.env)) (λWm N5=>
   codeAny (model X.prog X.w) X.A (.compStart (.ListComp elt [⟨tg,am,aA,0⟩] scope pos) 0 (.ref a) acc {Wm with scope:=relabel scope X.env}) (compPost (model X.prog X.w) X.A X.xe use E acc Wm.locals) N5) X.xe C0) X.xe s2:=by
 refine kO (wpAny_newFunctionEnv L.KJ (by intro y hy;simp at hy) (λgu E7 E8=>?_) L.kind);dsimp only at E7 E8⊢;have hD:ac s2.heap.objs.size=none:=I2.fresh;have I3:Inv X U Z (upd ac s2.heap.objs.size (.lst [])) {s2 with heap:=s2.heap.push {cls:=.type "list",data:=.seq ([]:List Value).toArray},toks:=s2.toks}:=I2.NV (cy:=[]) .nil (d_ _);generalize hs3:({s2 with heap:=s2.heap.push {cls:=.type "list",data:=.seq ([]:List Value).toArray},toks:=s2.toks}:Shared)=s3 at I3;have e3:({s2 with heap:=s2.heap.push {cls:=.type "list",dict:=none,data:=.seq ([]:List Value).toArray}}:Shared)=s3:=hs3;have eh:s2.heap.push {cls:=.type "list",dict:=none,data:=.seq ([]:List Value).toArray}=s3.heap:=cV Shared.heap e3;have eos:s3.os=s2.os:=by rw[<-e3]
 have ek:∀b o,s2.heap.get? b=some o->s3.heap.get? b=some o:=λb o e=>by rw[<-eh];exact bS _ e
 have So:s2.heap.objs.size<=s3.heap.objs.size:=by rw[<-eh,jE];exact pN _
 rw[eh]at E7 E8⊢;have f3:∀b∈fp,kY X U (upd ac s2.heap.objs.size (.lst [])) b:=λb hb=>by
  obtain⟨o,eo,_⟩:=T.obj _ _ NF b hb;refine⟨?_,(f2 b hb).2⟩;rw[bq (cf (bz eo))];exact(f2 b hb).1
 have zq:∀b∈fp,b<s3.heap.objs.size:=λb hb=>by
  obtain⟨o,eo,_⟩:=T.obj _ _ NF b hb;exact dc (bz eo) So
 have k4:∀b o,s3.heap.get? b=some o->gu.get? b=some o:=λb o e=>E8.extBut b o (cf (bz e)) (bS _ e);have st4:tn 0 gu:=T.keep _ _ _ NF λb _ o e=>k4 b o (ek b o e);obtain⟨W,⟨m0,w0⟩,turn⟩:=hw s2.heap.objs.size hD;have I4:∀l,Inv (uy X scope ps s3 (upd ac s2.heap.objs.size (.lst [])) fp) [] (jw ix Z) (upd ac s2.heap.objs.size (.lst [])) {s3 with heap:=gu,toks:=l}:=λl=>
  E6 L I3 E7 k4 f3 zq
 obtain⟨hg,hf,he⟩:=lL s3 (upd ac s2.heap.objs.size (.lst [])) fp;have ES:∀{H':Hp},(∀b∈fp,H' b=none)->∀b∈fp,kY (uy X scope ps s3 (upd ac s2.heap.objs.size (.lst [])) fp) [] H' b:=λ{H'} hn b hb=>by
  have ok:=(I4 0).ok;obtain⟨x1,x2⟩:=ok.Vc b hb;exact⟨hn b hb,x1,ok.CM b hb,.inl hb,x2,λp hp=>absurd (show p∈([]:List (Addr×Obj))from hp) (by simp)⟩
 have loop:∀l,codeAny (model X.prog X.w) X.A (.compLoop (.ListComp elt [⟨tg,am,aA,0⟩] scope pos) 0 (.ref a) (.ref s2.heap.objs.size) (compEnvC scope (E5 scope X.env) s3.heap.objs.size X.env))
   (compPost (model X.prog X.w) X.A X.xe use E (.ref s2.heap.objs.size) s3.heap.objs.size) {s3 with heap:=gu,toks:=l}:=λl=>by
  refine N4 (λn s'=>∃i dB H',Inv (uy X scope ps s3 (upd ac s2.heap.objs.size (.lst [])) fp) [] dB H' s'/\tn i s'.heap/\(∀b∈fp,H' b=none)/\W i n dB H') ?_ m0
   ⟨0,_,_,I4 l,st4,λb hb=>(f3 b hb).1,w0⟩
  rintro n s5 ⟨i,ZY,S,I5,Vd,ZV,w5⟩
  rcases turn i n ZY S w5 with⟨stop,qn⟩|⟨go,N,hN,step⟩
  ·refine eN (T.done (uy X scope ps s3 (upd ac s2.heap.objs.size (.lst [])) fp) rfl rfl rfl hc i [] s5 ZY S _ I5 (ES ZV) Vd stop) λr s6 ⟨hr,q⟩=>?_
   subst hr;have u:Un (j8 X.stack) fp ac S s2.heap s6.heap:=(Un.laid (o:=.lst []) ek (bA _) hD).trans q.base;have J6:Inv X U Z S s6:=I2.VO (ch:=fp) (q.os.trans eos) u q.cW q.bare λb hb=>by
    obtain⟨_,x1,_,x3,x4,x5⟩:=f2 b hb;exact⟨x3,x1,x4,x5⟩
   obtain⟨m,hm,_⟩:=q.loc;exact aaL _ _ S s6 m J6 (I2.xW So q.free) hm qn
  ·refine eN (T.item (uy X scope ps s3 (upd ac s2.heap.objs.size (.lst [])) fp) rfl rfl rfl hc i [] s5 ZY S _ I5 (ES ZV) Vd go) λr s6 ⟨v,hr,h6⟩=>?_
   subst hr;refine eN h6 λ_ s7 ⟨x,H7,I7,r7,y7,I,fr7⟩=>?_
   have I7':=I7.pinned (ES fr7) (T.obj _ _ I);refine eN (hg _ s7 ZY H7 x v _ I7' r7 (step x H7 y7)) λ_ s8 ⟨ZZ,H8,I8,q8⟩=>?_
   have again:∀{Wn:St} {M:Hp} {s9:Shared},Inv (uy X scope ps s3 (upd ac s2.heap.objs.size (.lst [])) fp) ([]++xY fp s7.heap) Wn M s9->N Wn M->
     ∃m,m<n/\∃i dB H',Inv (uy X scope ps s3 (upd ac s2.heap.objs.size (.lst [])) fp) [] dB H' s9/\tn i s9.heap/\(∀b∈fp,H' b=none)/\W i m dB H':=λ{Wn M s9} I9 n9=>by
    obtain⟨m',hm,w9⟩:=hN Wn M n9;refine⟨m',hm,i+1,Wn,M,I9.ug,T.keep _ _ _ I λb hb o e=>(I9.pin (b,o) (dD _ (dD _ (nV hb e)))).1,λb hb=>?_,w9⟩;obtain⟨o,e,d⟩:=T.obj _ _ I b hb;exact(I9.pin (b,o) (dD _ (dD _ (nV hb e)))).2.1
   refine eN (hf _ s8 ZZ H8 _ I8 q8) λok s9 ⟨M,I9,q9⟩=>?_
   cases ok with
   |false=>exact again I9 q9
   |true=>
    refine eN (he _ s9 ZZ M _ I9 q9) λy s10 ⟨v10,H10,I10,r10,ys,hy,hz,n10⟩=>?_
    refine eN (jc _ s10 ZZ H10 (.ref s2.heap.objs.size) [v10] (.ref s2.heap.objs.size) [y] (λ_ H'=>N ZZ H') I10 rfl (.cons r10 .nil) ⟨_,ys,v10,rfl,rfl,hy,hz,n10⟩) λ_ s11 ⟨_,H11,I11,_,q11⟩=>?_
    exact again I11 q11
 have es:∀l,({s2 with heap:=gu,toks:=l}:Shared)={s3 with heap:=gu,toks:=l}:=λl=>by rw[<-e3]
 have Qw:∀l,codeAny (model X.prog X.w) X.A (.compLoop (.ListComp elt [⟨tg,am,aA,0⟩] scope pos) 0 (.ref a) (.ref s2.heap.objs.size) (compEnvC scope (E5 scope X.env) s3.heap.objs.size X.env))
   (compPost (model X.prog X.w) X.A X.xe use E (.ref s2.heap.objs.size) s3.heap.objs.size) {s2 with heap:=gu,toks:=l}:=λl=>by
  rw[es l];exact loop l
 exact codeAny_compStart_list (Qw _) (T.self _ 0 _ _ _ st4 (Qw _))
theorem KL{wi:TI}(L:g0 X ps ix scope)(hc:X.calm=true)(hi:PI X tg am wi)(lL:∀s H ex,PG (uy X scope ps s H ex) tg g/\PF (uy X scope ps s H ex) aA tc/\PE (uy X scope ps s H ex) elt te)
  (hs:∀x,foldedSetIterable am X.env x=pure x:=by intro _;rfl):PE X (.ListComp elt [⟨tg,am,aA,0⟩] scope pos) (Vh wi ix g tc te):=by
 intro U s Z H Q I h;have l:∀y∈scope.names,y.2=.free->∃c,X.env.cells.lookup y.1=some c:=λy n z=>I.ok.has y.1 (.inl (L.cell y n z));rw[eval_ListComp];refine wpAny_comprehension_free (use:=none) rfl hs (uw l) L.kind L.loc (eN (hi U s Z H _ I h) λv s1 r=>eN r λZR s2 h2=>?_);obtain⟨it,fp,tn,J,H2,e,M,T,S,f2,hw⟩:=h2;subst e;refine GI (QD:=λD H'=>Q (.ref D) H') L hc lL M T S f2 hw λD C H' s' m I' fC hm q=>⟨m,hm,λh' N3=>?_⟩;obtain⟨x0,x1,x2,x3,x4,x5⟩:=fC;exact⟨.ref D,H',I'.turned (t':=s'.toks) (λb o hb e=>(N3.2 b hb).trans e) x0 x1 x3 x4 x5,rfl,q⟩
def yg{wi:TI}(L:g0 X ps ix scope)(hc:X.calm=true)(hN:X.N.Nodup)(hi:X.N[i]?=some x)(hx:Loc X.env.scope x)(hit:PI X tg am wi)
  (lL:∀s H ex,PG (uy X scope ps s H ex) tg g/\PF (uy X scope ps s H ex) aA tc/\PE (uy X scope ps s H ex) elt te)
  (Iu:swapsWith (.ListComp elt [⟨tg,am,aA,0⟩] scope pos) (some (.Name x p)) b8.line X.env=pure true:=by rfl)
  (hs:∀x,foldedSetIterable am X.env x=pure x:=by intro _;rfl) (hf:zr X x:=by first|exact .inl rfl|exact .inr rfl|assumption):
  PS X (.Assign [.Name x p] (.ListComp elt [⟨tg,am,aA,0⟩] scope pos) b8) (λD Z H=>Vh wi ix g tc te Z H λv H'=>D.nx (Z.set i (some v)) H'):=by
 intro U s Z H D I h;have yf:∀y∈scope.names,y.2=.free->∃c,X.env.cells.lookup y.1=some c:=λy hy z=>I.ok.has y.1 (.inl (L.cell y hy z));rw[exec_Assign_Name_used _ _ _ _ Iu];refine aU (wpAny_standAt (aU ?_));show wpAny _ X.A (do let _<-comprehension (.ListComp elt [⟨tg,am,aA,0⟩] scope pos) scope X.env _ (newList []) false (eval am X.env) (some (assign (.Name x p) X.env))) _ _ s;refine aU (ee (wpAny_comprehension_free (use:=some (assign (.Name x p) X.env)) (Q:=λ_ s'=>SP X U D .next s') rfl hs (uw yf) L.kind L.loc
  (eN (hit U s Z H _ I h) λv s1 h1=>eN h1 λZR s2 h2=>?_)) (λ_ s' hq=>bg (bg hq)) λ_ _ e=>e)
 obtain⟨it,fp,tn,J,H2,e,I2,T,NF,f2,hw⟩:=h2;subst e;refine GI (QD:=λl H'=>D.nx (Z.set i (some (.ref l))) H') L hc lL I2 T NF f2 hw λl C H' s' m I' fC hm q=>?_
 obtain⟨x0,S,x2,x3,x4,x5⟩:=fC;show wpAny _ X.A (assign (.Name x p) X.env (.ref l)) _ _ _;refine wpAny_assign_Name (zQ I' hN hi hx (v:=.ref l) rfl (λRY n zP=>?_) hf);obtain⟨a,N3,ha⟩:=zP;have r:C≠a:=by
  rcases ha with ha|ha
  ·rw[ha];exact S
  ·exact λz=>x4 _ _ ha z.symm
 refine⟨m,hm.sameBut N3 r,λh' M=>?_⟩;exact⟨_,H',n.turned (t':=RY.toks) (λb o hb e=>(M.2 b hb).trans e) x0 S x3 x4 x5,q⟩
end
def Z0(z:Str):It:=⟨λi _=>i<z.cps.size,λi H x H'=>H'=H/\∃c,z.cps[i]?=some c/\x=.str ⟨#[c]⟩,λi _=>i=z.cps.size⟩
theorem C7{t:Tok}{it:Addr}{n:String}(hn:["enumerate","zip","dict_itemiterator","dict_reverseitemiterator","odict_iterator","itertools.zip_longest","itertools.pairwise"].contains n=false)
  (W:∀A':Around,A'.handled=none->Walks P w A' it [it] [it] x.cps.size (SignAt x) (λi h=>h.IsStrIter it n x t i))
  (self:∀(A:Around) (i:Nat) (s:Shared) (Q:Value->Shared->Prop) (E:Value->Shared->Prop),s.heap.IsStrIter it n x t i->Q (.ref it) s->wpAny (model P w) A (pyIter (.ref it)) Q E s):
  Turn P w K tg (Z0 x) [it] it (λi h=>h.IsStrIter it n x t i) where
 mem:=by simp
 obj:=λi h st b hb=>by
  have e:b=it:=by simpa using hb
  subst e;obtain⟨o,e,c,d⟩:=st;exact⟨o,e,λv q=>by rw[d]at q;cases q⟩
 keep:=λi h h' st k=>by
  obtain⟨o,e,c,d⟩:=st;exact⟨o,k it (by simp) o e,c,d⟩
 item:=by
  intro X g hw l r i U s Z H E I hf st L;subst g hw l;obtain⟨f0,f1,f2,M,f4,S⟩:=hf it (by simp);refine(W X.A (I.ok.hd r)).item i s _ _ L st λv h' tk hv xX kk=>?_
  obtain⟨c,u,hcu,rfl⟩:=hv;have I1:Inv X U Z H {s with heap:=h',toks:=tk}:=I.turned (λb o hb e=>kk b o (by simpa using hb) e) f0 f1 M f4 S;obtain⟨o,e,cl,d⟩:=id xX;exact⟨_,rfl,zR (s:={s with heap:=h',toks:=tk}) e cl d hn ⟨.str ⟨#[c]⟩,H,I1,⟨u,rfl⟩,⟨rfl,c,hcu,rfl⟩,xX,λb hb=>(hf b hb).1⟩⟩
 done:=by
  intro X g hw l r i U s Z H E I hf st L;subst g hw l;obtain⟨f0,f1,f2,M,f4,S⟩:=hf it (by simp);have e:i=x.cps.size:=L;subst e;exact(W X.A (I.ok.hd r)).done s _ _ st λh' tk kk=>⟨rfl,I.turned (λb o hb e=>kk b o (by simpa using hb) e) f0 f1 M f4 S⟩
 self:=self
theorem lT.upd {xs:List V}{o:HO}(q:H au=none)(h:lT K H a xs):lT K (upd H au o) a xs:=by
 rcases h with(h|⟨b,h⟩)|h
 ·exact .inl (.inl (by rw[bq (bV h q)];exact h))
 ·exact .inl (.inr ⟨b,by rw[bq (bV h q)];exact h⟩)
 ·exact .inr h
theorem ju.upd {xs:List V}{o:HO}(q:H au=none)(h:ju K H a xs):ju K (upd H au o) a xs:=by
 rcases h with(h|⟨b,h⟩)|h
 ·exact .inl (.inl (by rw[bq (bV h q)];exact h))
 ·exact .inl (.inr ⟨b,by rw[bq (bV h q)];exact h⟩)
 ·exact .inr h
theorem Iw:vh X (compareOp .LtE) (λx y H Q=>∃i j,x=.str i/\y=.str j/\Q (.bl (!(decide (j.cps.toList<i.cps.toList)))) H):=by
 intro U s Z H x y v u Q I b g h;obtain⟨i,j,rfl,rfl,q⟩:=h;obtain⟨t,rfl⟩:=b;obtain⟨t',rfl⟩:=g;exact PySem.P.le_str (vi I q rfl)
theorem Sq:vh X (compareOp .Is) (λx y H Q=>∃c d,x=.bl c/\y=.bl d/\Q (.bl (c==d)) H):=by
 intro U s Z H x y v u Q I b g h;obtain⟨c,d,rfl,rfl,q⟩:=h;cases b;cases g;exact is_bool (vi I q rfl)
theorem N6:vh X (binaryOp .Mult) (λx y H Q=>∃z n,x=.str z/\y=.int n/\MulOk z n/\Q (.str (Txt.mul z n)) H):=by
 intro U s Z H x y v u Q I b g h;obtain⟨z,n,rfl,rfl,cW,q⟩:=h;obtain⟨t,rfl⟩:=b;obtain⟨t',rfl⟩:=g;exact SB.mul cW λt' k=>⟨.str _,H,I.tok _,⟨_,rfl⟩,q⟩
theorem KN(hc:X.calm=true):gQ X (.builtin "all") (λxs H Q=>∃(p:Addr) (bs:List Bool),xs=[.ref p]/\lT X.K H p (bs.map V.bl)/\Q (.bl (bs.all id)) H):=by
 intro U s Z H xs us Q I r h;obtain⟨p,bs,rfl,L,q⟩:=h;obtain⟨u,rfl,S⟩:=vals1 r;cases(show u=Value.ref p from S);obtain⟨cy,rv,pl,hz⟩:=I.list L;have hb:cy=bs.map Value.bool:=by
  clear hz pl L q I
  induction bs generalizing cy with
  |nil=>cases rv;rfl
  |cons b r ih=>
   cases rv with
   |cons r1 r2=>
    rw[bB,<-ih _ (by exact r2)];cases(show _=Value.bool b from r1)
    rfl
 subst hb;have gJ:p<s.heap.objs.size:=by obtain⟨o,n,e,_⟩:=pl;exact bz e
 refine call_all_walk (kP pl.isList ?_);refine⟨s.heap.objs.size,[s.heap.objs.size,p],[s.heap.objs.size],(bs.map Value.bool).toArray.size,_,_,λi=>(bs[i]?).getD true,rfl,Walks.list (A:=X.A.in1) (I.ok.hd hc) _ p (cf gJ) _,
  ⟨⟨_,cz _ rfl,rfl,rfl⟩,pl.isList.push _⟩,λi v s' Q' E' hP M=>?_,λh' tk hk=>?_⟩
 ·have g:(bs.map Value.bool)[i]?=some v:=by simpa using hP
  rw[cq]at g;cases l:bs[i]? with
  |none=>rw[l]at g;cases g
  |some b=>
   rw[l]at g;cases g;simp only[l,pz]at M;exact pB M
 ·have e:((List.range (bs.map Value.bool).toArray.size).all λi=>(bs[i]?).getD true)=bs.all id:=by
   rw[cU,bu];exact LSm.range_all bs
  rw[e];exact⟨.bl _,H,I.kept (LSm.kept_iter hk),rfl,q⟩
def bo.tup {H':Hp}{xs:List V}(e:bo H H')(h:ju K H a xs):ju K H' a xs:=by
 rcases h with(h|⟨o,h⟩)|h
 ·exact .inl (.inl (e _ _ h))
 ·exact .inl (.inr ⟨o,e _ _ h⟩)
 ·exact .inr h
theorem bo.upd {o:HO}(q:H a=none):bo H (upd H a o):=λb u e=>by rw[bq (bV e q)];exact e
def bo.Bh {H':Hp}{D:Addr}{o:HO}(s:bo H H')(q:H D=none):bo H (L2.upd H' D o):=λb u e=>by rw[bq (bV e q)];exact s b u e
structure z5(K:Frag)(mg:Str->Option Value)(x:Str)(st:Stmt)(ps:List Str)(f:Addr)(fd:FuncData):Prop where
 fn:zt K x x st f fd
 bd:Binds K fd ps []
 mg:mg x=some (.ref f)
def Sr{fd:FuncData}{sp:Sp}{t:TA}(D:z5 X.K X.mg x ai ps a fd)(G:eI X.prog X.w X.K X.mg X.base mH i a fd ps sp)(hr:dk i X.A)
  (ha:PA X (e::es) t) (hg:Gl X x:=by rfl) (fQ:Db x:=by decide) (he:starEach (e::es) X.env=(false,eval e X.env)::starEach es X.env:=by rfl)
  (oY:(backTo pos (starEach es X.env)).any (·.1)=false:=by rfl):PE X (.Call (.Name x p) (e::es) [] pos) (Qm sp [] E0 t):=by
 have q:=Gv (p:=p) (pos:=pos) G hr hg D.mg D.fn.kp D.bd .nil KI ha (fQ:=fQ) (he:=he) (oY:=oY);exact q
def aaN:V->Option Int->Option Int->Hp->VK->Prop:=λx lo hi H Q=>∃z,x=.str z/\z.length<=sizeLine/\Q (.str (Txt.slice z lo hi)) H
theorem Ss:Ve X aaN:=by
 intro U s Z H x v S vu lo hi sl Q I n hs pl pu h;obtain⟨z,rfl,hz,q⟩:=h;obtain⟨t,rfl⟩:=n;refine⟨"str",_,F.slot_str_getitem.lookup,typeIs_str _ _ _,?_⟩;have go:∀(l u:Option (Int×Tok)),s.heap.IsSlice sl l u none->lo=l.map (·.1)->hi=u.map (·.1)->wpAny (model X.prog X.w) X.A (getItem (.str z t) (.ref sl)) (EP X U Z Q) X.xe s:=λl u r L M=>by
  subst L M;exact wpAny_getItem_str_slice r rfl (post_val_or_str ⟨cB (Txt.slice_le z _ _) hz,λt' k=>⟨.str _,H,I.tok _,⟨_,rfl⟩,q⟩⟩)
 cases pl with
 |none=>
  cases pu with
  |none=>exact go none none hs rfl rfl
  |int j b=>exact go none (some (j,b)) hs rfl rfl
 |int i g=>
  cases pu with
  |none=>exact go (some (i,g)) none hs rfl rfl
  |int j b=>exact go (some (i,g)) (some (j,b)) hs rfl rfl
theorem C8:∀{cs:List String} {us:List Value},Vals (cs.map V.ty) us->us=cs.map Value.type
 |[],_,.nil=>rfl
 |c::cs,_,.cons r t=>by
  rw[C8 t];cases(show _=Value.type c from r)
  rfl
def vo(q:aa.IsTuple a ak):∃dd n sl,aa.get? a=some ⟨.type "tuple",dd,.seq ak n,sl⟩:=by
 obtain⟨⟨cls,dd,data,sl⟩,h1,h2,n,b⟩:=q;dsimp only at h2 b;subst h2 b;exact⟨dd,n,sl,h1⟩
theorem Iy:gQ X (.builtin "isinstance") (λxs H Q=>∃(x:V) (p:Addr) (cs:List String) (t:Value) (b:Bool),xs=[x,.ref p]/\Qs x=true/\ju X.K H p (cs.map V.ty)/\uk X.K H x t/\PySem.W.kitAny X.K t (cs.map Value.type)=some b/\Q (.bl b) H):=by
 intro U s Z H xs us Q I r h;obtain⟨x,p,cs,t,b,rfl,M,hp,ty,e,q⟩:=h;obtain⟨u,v,rfl,g,rv⟩:=vals2 r;cases(show v=Value.ref p from rv);obtain⟨cy,r1,p1,_⟩:=I.tuple hp;obtain⟨dd,n,sl,l⟩:=vo p1;cases C8 r1;have fin:∀L,EP X U Z Q (.bool b) {s with toks:=L}:=λL=>⟨.bl b,H,I.tok _,rfl,q⟩;cases ty with
 |cA=>
  cases(show u=Value.none from g);exact tW PySem.W.kitx_none I.ml .intro l e (by simp) fin
 |bl y=>
  cases(show u=Value.bool y from g);exact tW PySem.W.kitx_bool I.ml .intro l e (by simp) fin
 |int i=>
  obtain⟨t,rfl⟩:=(show∃t,u=Value.int i t from g);exact tW PySem.W.kitx_int I.ml .intro l e (by simp) fin
 |str y=>
  obtain⟨t,rfl⟩:=(show∃t,u=Value.str y t from g);exact tW PySem.W.kitx_str I.ml .intro l e (by simp) fin
 |_=>exact absurd (show false=true from M) fI
def C9(K:Frag)(w:World)(a:Addr)(kvs:List (Str×Value)):Prop:=
 (a==sysModules)=false/\∃o es ep,K.lookup a=some o/\o.ExactDict/\o.data=.dict es ep/\∀prog,KeysOf (PySem.strKind prog w) es/\Pairs (PySem.strKind prog w) es.toList kvs/\(kvs.map (·.1)).Nodup
def C9.of {kvs:List (Str×Value)}(D:C9 X.K X.w a kvs)(I:Inv X U Z H s):s.heap.DictOf (PySem.strKind X.prog X.w) a kvs:=by
 obtain⟨_,o,es,ep,h1,h2,b,g⟩:=D;obtain⟨k1,k2,k3⟩:=g X.prog;exact⟨o,es,ep,I.ml _ _ h1,h2,b,k1,k2,k3⟩
theorem KO{to ti:TE}(ho:PE X o to)(hi:PE X e ti)(hs:NY e):
  PE X (.Subscript o e pos) (RK (λx y H Q=>∃(a:Addr) (z:Str) (kvs:List (Str×Value)) (u:Value) (v:V),x=.ref a/\y=.str z/\C9 X.K X.w a kvs/\valueAt kvs z=some u/\RelV v u/\Q v H) to ti):=by
 intro U s Z H Q I h;refine NZ PySem.F.slot_dict_getitem.lookup hs (eN (ho U s Z H _ I h) λu s1 ⟨x,H1,g,l,n⟩=>eN (hi U s1 Z H1 _ g n) λiv s2 ⟨y,H2,b,r,L⟩=>?_);obtain⟨a,z,kvs,u',v,rfl,rfl,D,M,rv,q⟩:=L;cases(show u=Value.ref a from l);obtain⟨t,rfl⟩:=r;have dd:=D.of b;refine⟨?_,wpAny_getItem_of (knd:=PySem.strKind X.prog X.w) (k:=z) (by simp[PySem.strKind,Value.isStrOf]) dd.mapOf M ⟨v,H2,b.tok _,rv,q⟩⟩;obtain⟨S,es,ep,h1,h2,_⟩:=dd;exact⟨S,h1,h2.1⟩
inductive Tr where
 |cA|bl (b:Bool)|int (i:Int)|str (z:Str)|ty (n:String)
 |vU (ns:List Int)|tup (ts:List Tr)|lst (ts:List Tr)|bW (bE:List (Key×Tr))|at(i:Nat)
 |vV (bE:List (List Key×Tr))|ob (x:Str) (fs:List (Str×Tr))|z6 (x:Str)
variable {aB:Tr->Prop}{aC:Tr}{aG:List (Key×Tr)}
variable {ts:List Tr}
noncomputable def cZ:Nat:=1000000
noncomputable def clsAt(K:Frag)(x:Str):Addr:=match PySem.W.nsIn K mainGlobals x with
 |some (some (.ref C))=>C
 |_=>0
structure Vw where
 H:Hp
 ix:Addr->Option Nat
instance:Coe Vw Hp:=⟨Vw.H⟩
instance:CoeFun Vw (fun _=>Addr->Option HO):=⟨Vw.H⟩
structure fj(W W':Vw):Prop where
 h:bo W.H W'.H
 x:∀a i,W.ix a=some i->W'.ix a=some i
theorem fj.refl (W:Vw):fj W W:=⟨bo.refl _,λ_ _ e=>e⟩
theorem fj.trans {W W1 W2:Vw}(a:fj W W1)(b:fj W1 W2):fj W W2:=⟨a.h.trans b.h,λc i e=>b.x c i (a.x c i e)⟩
mutual
inductive Rep(K:Frag)(H:Vw):V->Tr->Prop where
 |cA:Rep K H .cA .cA
 |bl (b:Bool):Rep K H (.bl b) (.bl b)
 |int (i:Int):Rep K H (.int i) (.int i)
 |str (z:Str) (h:z.length<=cZ):Rep K H (.str z) (.str z)
 |ty (n:String):Rep K H (.ty n) (.ty n)
 |vU {a:Addr} {ns:List Int} (h:lT K H.H a (ns.map V.int)):Rep K H (.ref a) (.vU ns)
 |tup {a:Addr} {vs:List V} {ts:List Tr} (h:ju K H.H a vs) (r:bQ K H vs ts):Rep K H (.ref a) (.tup ts)
 |lst {a:Addr} {vs:List V} {ts:List Tr} (h:H.H a=some (.lst vs)) (r:bQ K H vs ts):Rep K H (.ref a) (.lst ts)
 |bW {a:Addr} {kvs:List (Key×V)} {bE:List (Key×Tr)} (h:Rd H.H a (.dK kvs)) (e:kvs.map (·.1)=bE.map (·.1)) (r:bQ K H (kvs.map (·.2)) (bE.map (·.2))):Rep K H (.ref a) (.bW bE)
 |at{a:Addr} {i:Nat} (h:H.ix a=some i):Rep K H (.ref a) (.at i)
 |vV {a:Addr} {kvs:List (List Key×V)} {bE:List (List Key×Tr)} (h:H.H a=some (.dT kvs)) (e:kvs.map (·.1)=bE.map (·.1)) (r:bQ K H (kvs.map (·.2)) (bE.map (·.2))):Rep K H (.ref a) (.vV bE)
 |ob {a dx:Addr} {x:Str} {iy:List (Str×V)} {fs:List (Str×Tr)} (h:H.H a=some (.ins (clsAt K x) dx iy)) (e:iy.map (·.1)=fs.map (·.1)) (r:bQ K H (iy.map (·.2)) (fs.map (·.2))):Rep K H (.ref a) (.ob x fs)
 |z6 {a:Addr} {oe:Obj} {x:Str} (h:H.H a=some (.ext fun h=>h.get? a=some oe)) (c:oe.cls=.ref (clsAt K x)):Rep K H (.ref a) (.z6 x)
inductive bQ(K:Frag)(H:Vw):List V->List Tr->Prop where
 |nil:bQ K H [] []
 |cons {v:V} {t:Tr} {vs:List V} {ts:List Tr} (h:Rep K H v t) (r:bQ K H vs ts):bQ K H (v::vs) (t::ts)
end
section
def Rd.same {H H':Hp}{u:HO}(s:bo H H')(h:Rd H a u):Rd H' a u:=by
 rcases h with h|⟨o,h⟩
 ·exact .inl (s _ _ h)
 ·exact .inr ⟨o,s _ _ h⟩
variable {H H':Vw}
theorem Rep.same (s:fj H H'){v:V}{t:Tr}(h:Rep K H v t):Rep K H' v t:=by
 refine Rep.rec (motive_1:=λv t _=>Rep K H' v t) (motive_2:=λvs ts _=>bQ K H' vs ts) ?_ ?_ ?_ ?_ ?_ ?_ ?_ ?_ ?_ ?_ ?_ ?_ ?_ ?_ ?_ h
 ·exact .cA
 ·exact λb=>.bl b
 ·exact λi=>.int i
 ·exact λz h=>.str z h
 ·exact λn=>.ty n
 ·exact λh=>.vU (s.h.seq h)
 ·exact λh _ r=>.tup (s.h.tup h) r
 ·exact λh _ r=>.lst (s.h _ _ h) r
 ·exact λh e _ r=>.bW (Rd.same s.h h) e r
 ·exact λh=>.at (s.x _ _ h)
 ·exact λh e _ r=>.vV (s.h _ _ h) e r
 ·exact λh e _ r=>.ob (s.h _ _ h) e r
 ·exact λh c=>.z6 (s.h _ _ h) c
 ·exact .nil
 ·exact λ_ _ h r=>.cons h r
theorem bQ.same (s:fj H H'):∀{vs:List V} {ts:List Tr},bQ K H vs ts->bQ K H' vs ts
 |[],_,h=>by cases h;exact .nil
 |_::_,_,h=>by cases h with|cons h r=>exact .cons (h.same s) (bQ.same s r)
theorem bQ.length:∀{vs:List V} {ts:List Tr},bQ K H vs ts->vs.length=ts.length
 |[],_,h=>by cases h;rfl
 |_::_,_,h=>by cases h with|cons h r=>rw[dA,dA,bQ.length r]
theorem bQ.get:∀{vs:List V} {ts:List Tr} {i:Nat} {t:Tr},bQ K H vs ts->ts[i]?=some t->∃v,vs[i]?=some v/\Rep K H v t
 |[],_,i,t,h,e=>by cases h;simp at e
 |_::_,_,0,t,h,e=>by cases h with|cons h r=>simp at e;subst e;exact⟨_,rfl,h⟩
 |_::_,_,i+1,t,h,e=>by
  cases h with
  |cons h r=>
   obtain⟨v,b,r1⟩:=bQ.get (i:=i) (t:=t) r (by simpa using e);exact⟨v,by simpa using b,r1⟩
theorem bQ.yh:∀{vs:List V} {ts:List Tr} {i:Nat} {v:V},bQ K H vs ts->vs[i]?=some v->∃t,ts[i]?=some t/\Rep K H v t
 |[],_,i,t,h,e=>by simp at e
 |_::_,_,0,t,h,e=>by cases h with|cons h r=>simp at e;subst e;exact⟨_,rfl,h⟩
 |_::_,_,i+1,t,h,e=>by
  cases h with
  |cons h r=>
   obtain⟨v,b,r1⟩:=bQ.yh (i:=i) r (by simpa using e);exact⟨v,by simpa using b,r1⟩
theorem bQ.append:∀{vs ws:List V} {ts us:List Tr},bQ K H vs ts->bQ K H ws us->bQ K H (vs++ws) (ts++us)
 |[],_,_,_,h,q=>by cases h;exact q
 |_::_,_,_,_,h,q=>by cases h with|cons h r=>exact .cons h (bQ.append r q)
theorem bQ.take:∀{vs:List V} {ts:List Tr} (n:Nat),bQ K H vs ts->bQ K H (vs.take n) (ts.take n)
 |_,_,0,_=>by rw[List.take_zero,List.take_zero];exact .nil
 |[],_,_+1,h=>by cases h;exact .nil
 |_::_,_,n+1,h=>by cases h with|cons h r=>exact .cons h (bQ.take n r)
theorem bQ.drop:∀{vs:List V} {ts:List Tr} (n:Nat),bQ K H vs ts->bQ K H (vs.drop n) (ts.drop n)
 |_,_,0,h=>h
 |[],_,_+1,h=>by cases h;exact .nil
 |_::_,_,n+1,h=>by cases h with|cons h r=>exact bQ.drop n r
theorem bQ.rep {vs:List V}(h:bQ K H vs ts):∀n:Nat,bQ K H (List.replicate n vs).flatten (List.replicate n ts).flatten
 |0=>.nil
 |n+1=>by
  rw[nT,nT,mP,mP];exact h.append (bQ.rep h n)
theorem z7:∀{zs:List Str},(∀z∈zs,z.length<=cZ)->bQ K H (zs.map V.str) (zs.map Tr.str)
 |[],_=>.nil
 |z::zs,h=>.cons (.str z (h z (cG ..))) (z7 λy b=>h y (cw _ b))
end
structure fw where
 hd:Addr->Bool
 ix:Addr->Option Nat
variable {B:fw}
instance:CoeFun fw (fun _=>Addr->Bool):=⟨fw.hd⟩
def cn(B:fw)(H:Hp):Vw:=⟨λb=>if B.hd b=true then none else H b,B.ix⟩
def HB(B:fw)(H:Hp):Prop:=∀b,B.hd b=true->∃o,H b=some o
section
variable {B':fw}{H':Hp}
def gv{b:Addr}(h:B.hd b=false):(cn B H).H b=H b:=by show(if B.hd b=true then none else H b)=_;rw[h,bc fI]
def bJ:bo (cn B H).H H:=λb o (e:(if B.hd b=true then none else H b)=some o)=>by
 split at e
 ·cases e
 ·exact e
def bL(s:bo H H'):fj (cn B H) (cn B H'):=⟨λb o (e:(if B.hd b=true then none else H b)=some o)=>by
 show(if B.hd b=true then none else H' b)=some o;split at e
 ·cases e
 ·rw[bc (by assumption)];exact s b o e,λ_ _ e=>e⟩
def raw(B:fw)(H:Hp):Vw:=⟨H,B.ix⟩
def fL:fj (cn B H) (raw B H):=⟨bJ,λ_ _ e=>e⟩
def HB.same (h:HB B H)(s:bo H H'):HB B H':=λb e=>by obtain⟨o,q⟩:=h b e;exact⟨o,s b o q⟩
def HB.free {p:Addr}(h:HB B H)(hp:H p=none):B.hd p=false:=by
 cases e:B.hd p with
 |false=>rfl
 |true=>obtain⟨o,q⟩:=h p e;rw[hp]at q;cases q
def HB.new {p:Addr}{o:HO}(h:HB B H)(hp:H p=none):(cn B (upd H p o)).H p=some o:=by rw[gv (h.free hp)];exact bP
structure vW(B B':fw):Prop where
 hd:∀b,B.hd b=true->B'.hd b=true
 ix:∀b i,B'.ix b=some i->B.ix b=some i
def yi(h:vW B B'):fj (cn B' H) (cn B H):=⟨λb o (e:(if B'.hd b=true then none else H b)=some o)=>by
 show(if B.hd b=true then none else H b)=some o;split at e
 ·cases e
 ·rename_i n;rw[bc λz=>n (h.hd b z)];exact e,h.ix⟩
end
inductive Rs(α:Type) where
 |bad|ok (a:α)|exc (c:Tr)
variable {aE:Tr->Tr->Rs Tr}
variable {h:List Tr->Rs Tr}
noncomputable def Rs.bind {α β:Type}(r:Rs α)(f:α->Rs β):Rs β:=match r with
 |.ok a=>f a
 |.exc c=>.exc c
 |.bad=>.bad
def XA(X:Cx)(c:Tr)(H:Hp):Prop:=False
def qX(xc:Tr->Prop){α:Type}(r:Rs α)(k:α->Prop):Prop:=match r with
 |.ok a=>k a
 |.exc c=>xc c
 |.bad=>False
def xP(X:Cx)(H:Hp):Tr->Prop:=λc=>∀H',bo H H'->XA X c H'
def Fi(X:Cx)(H:Hp){α:Type}(r:Rs α)(k:α->Prop):Prop:=qX (xP X H) r k
section
variable {β:Type}{r:Rs ag}{k k':ag->Prop}{Vi:Tr->Prop}
def qX.mono (h:qX aB r k)(w:∀a,k a->k' a):qX aB r k':=by
 cases r with
 |ok a=>exact w a h
 |_=>exact h
def qX.imp (h:qX aB r k)(w:∀c,aB c->Vi c):qX Vi r k:=by
 cases r with
 |ok a=>exact h
 |exc c=>exact w c h
 |bad=>exact h
theorem qX.bind {f:ag->Rs β}{k:β->Prop}(h:qX aB (r.bind f) k):qX aB r λa=>qX aB (f a) k:=by
 cases r with
 |_=>exact h
theorem Fi.mono (h:Fi X H r k)(w:∀a,k a->k' a):Fi X H r k':=qX.mono h w
def Fi.same (h:Fi X H r k)(s:bo H ac):Fi X ac r k:=qX.imp h λ_ q H2 s2=>q H2 (s.trans s2)
theorem Fi.bind {f:ag->Rs β}{k:β->Prop}(h:Fi X H (r.bind f) k):Fi X H r λa=>Fi X H (f a) k:=qX.bind h
end
set_option genInjectivity true in
inductive Cell where
 |no|sh (t:Tr)|ow (ts:List Tr)
abbrev bX:=List Cell
variable {aF:bX->Rs Bool}
variable {F G:bX->Rs Tr}{L:bX->Rs (List Tr)}
structure cK(K:Frag)(B:fw)(H:Hp)(Z:St)(Y:bX):Prop where
 len:Y.length=Z.length
 sh:∀(i:Nat) (t:Tr),Y[i]?=some (.sh t)->∃v,Z[i]?=some (some v)/\Rep K (cn B H) v t
 ow:∀(i:Nat) (ts:List Tr),Y[i]?=some (.ow ts)->∃D ys,Z[i]?=some (some (.ref D))/\B D=true/\H D=some (.lst ys)/\bQ K (cn B H) ys ts
 ap:∀(i j:Nat) (ts us:List Tr) (D:Addr),i≠j->Y[i]?=some (.ow ts)->Y[j]?=some (.ow us)->Z[i]?=some (some (.ref D))->Z[j]? ≠some (some (.ref D))
section
variable {B':fw}{Y:bX}
theorem cK.same (h:cK K B H Z Y)(s:bo H ac):cK K B ac Z Y:=
 ⟨h.len,λi t e=>by obtain⟨v,b,r⟩:=h.sh i t e;exact⟨v,b,r.same (bL s)⟩,
   λi ts e=>by obtain⟨D,ys,b,g,l,r⟩:=h.ow i ts e;exact⟨D,ys,b,g,s _ _ l,r.same (bL s)⟩,h.ap⟩
theorem fU{l:List ag}{j:Nat}{x y:ag}(e:(l.set i x)[j]?=some y):(i=j/\i<l.length/\y=x)\/(i≠j/\l[j]?=some y):=by
 rw[mQ]at e;by_cases b:i=j
 ·rw[aY b]at e;by_cases g:i<l.length
  ·rw[aY g]at e;exact .inl ⟨b,g,(Option.some.inj e).symm⟩
  ·rw[bc g]at e;cases e
 ·rw[bc b]at e;exact .inr ⟨b,e⟩
theorem cK.set {v:V}{t:Tr}(h:cK K B H Z Y)(i:Nat)(r:Rep K (cn B H) v t):cK K B H (Z.set i (some v)) (Y.set i (.sh t)):=by
 refine⟨by rw[kS,kS];exact h.len,λj u e=>?_,λj us e=>?_,λj k us ws D n b M L=>?_⟩
 ·rcases fU e with⟨rfl,l,q⟩|⟨g,q⟩
  ·cases q;exact⟨v,by rw[mQ,aY rfl,aY (by rw[<-h.len];exact l)],r⟩
  ·obtain⟨w,b,r1⟩:=h.sh j u q;exact⟨w,by rw[mQ,bc g];exact b,r1⟩
 ·rcases fU e with⟨rfl,l,q⟩|⟨g,q⟩
  ·cases q
  ·obtain⟨D,ys,b,r1⟩:=h.ow j us q;exact⟨D,ys,by rw[mQ,bc g];exact b,r1⟩
 ·rcases fU b with⟨rfl,l,q⟩|⟨g,q⟩
  ·cases q
  ·rcases fU M with⟨rfl,l,I⟩|⟨S,I⟩
   ·cases I
   ·rw[mQ,bc g]at L;rw[mQ,bc S];exact h.ap j k us ws D n q I L
end
def startT(n:Nat)(ts:List Tr):bX:=ts.map Cell.sh++List.replicate (n - ts.length) .no
theorem qY{c:Cell}(e:(startT az ts)[i]?=some c):c=.no\/∃t,ts[i]?=some t/\c=.sh t:=by
 unfold startT at e;by_cases hi:i<ts.length
 ·rw[o7 (by rw[bu];exact hi),cq]at e;cases q:ts[i]? with
  |none=>rw[q]at e;cases e
  |some u=>rw[q]at e;exact .inr ⟨u,rfl,(Option.some.inj e).symm⟩
 ·rw[xh (by rw[bu];omega),sY]at e;split at e
  ·exact .inl (Option.some.inj e).symm
  ·cases e
theorem cK.start (h:bQ K (cn B H) ar ts):cK K B H (start ps ar) (startT ps.length ts):=by
 have l:=h.length;refine⟨by unfold L2.start startT;simp only[fm,bu,xo];omega,λi t e=>?_,λi us e=>?_,λi j us ws D _ e _ _=>?_⟩
 ·rcases qY e with q|⟨u,q,b⟩
  ·cases q
  ·cases b;obtain⟨v,g,r⟩:=h.get q;have hi:i<ar.length:=(gD.mp g).1;refine⟨v,?_,r⟩;unfold L2.start;rw[o7 (by rw[bu];exact hi),cq,g]
   rfl
 ·rcases qY e with q|⟨u,q,b⟩
  ·cases q
  ·cases b
 ·rcases qY e with q|⟨u,q,b⟩
  ·cases q
  ·cases b
noncomputable def isStar:Expr->Bool
 |.Starred .. =>true
 |_=>false
def bO(es:List Expr)(env:Env)(h:isStar e=false):starEach (e::es) env=(false,eval e env)::starEach es env:=by
 cases e<;>first|rfl|cases h
def bC(es:List Expr):Bool:=es.all λe=>!isStar e
theorem cS{env:Env}:∀{es:List Expr},bC es=true->(backTo pos (starEach es env)).any (·.1)=false
 |[],_=>by rw[starEach];rfl
 |e::es,h=>by
  unfold bC at h;rw[iN,bY]at h;have b:isStar e=false:=by simpa using h.1
  rw[bO es env b];exact cS (es:=es) h.2
theorem jI{env:Env}:∀{es:List Expr},bC es=true->(backTo pos (starEach es env)).all (λx=>!x.1)=true
 |[],_=>by rw[starEach];rfl
 |e::es,h=>by
  unfold bC at h;rw[iN,bY]at h;have b:isStar e=false:=by simpa using h.1
  rw[bO es env b];exact jI (es:=es) h.2
def bt{es:List Expr}(h:bC (e::es)=true):isStar e=false/\bC es=true:=by
 unfold bC at h;rw[iN,bY]at h;exact⟨by simpa using h.1,h.2⟩
def sG:Expr->Bool
 |.ListComp .. =>true
 |.SetComp .. =>true
 |.DictComp .. =>true
 |_=>false
def yj{t:Option Expr}{env:Env}(h:sG e=false):swapsWith e t i env=pure false:=by
 cases e<;>first|rfl|cases h
noncomputable def m9:Expr->Bool
 |.UnaryOp .. =>false
 |.BoolOp .. =>false
 |.IfExp .. =>false
 |.Compare .. =>false
 |_=>true
def yk{env:Env}(h:m9 e=true):∀whole,isTrue e env whole=(do let v<-whole;standAt e.pos;holding [v] (truthy v)):=by
 intro whole;cases e<;>first|rfl|cases h
def isSet:Expr->Bool
 |.Set .. =>true
 |_=>false
def gK{env:Env}(h:isSet e=false):∀x,foldedSetIterable e env x=pure x:=by
 intro x;cases e<;>first|rfl|cases h
def isCall:Expr->Bool
 |.Call .. =>true
 |_=>false
def gL{env:Env}{w:Sem Value}(h:isCall o=false):attributeBase o x env w=w:=by
 cases o<;>first|rfl|cases h
inductive tP(X:Cx)(F:bX->Rs Tr)(Z:St)(H:Hp)(Q:VK):Prop
 |mk (B:fw) (Y:bX):HB B H->cK X.K B H Z Y->(Fi X H (F Y) fun t=>∀v H',bo H H'->Rep X.K (cn B H') v t->Q v H')->tP X F Z H Q
inductive tQ(X:Cx)(F:bX->Rs Bool)(Z:St)(H:Hp)(Q:Bool->Hp->Prop):Prop
 |mk (B:fw) (Y:bX):HB B H->cK X.K B H Z Y->(Fi X H (F Y) fun b=>∀H',bo H H'->Q b H')->tQ X F Z H Q
inductive C_(X:Cx)(F:bX->Rs (List Tr))(Z:St)(H:Hp)(Q:List V->Hp->Prop):Prop
 |mk (B:fw) (Y:bX):HB B H->cK X.K B H Z Y->(Fi X H (F Y) fun ts=>∀vs H',bo H H'->bQ X.K (cn B H') vs ts->Q vs H')->C_ X F Z H Q
inductive Out where
 |nx (Y:bX)|ret (t:Tr)|bk (Y:bX)|ct (Y:bX)
structure eD(C B0:fw)(H0:Hp)(B:fw)(H:Hp):Prop where
 kp:∀b o,C b=true->H0 b=some o->H b=some o
 jR:fj (cn B0 H0) (cn B H)
 sub:vW C B
 hb:HB B H
section
variable {C B0 B1 B2:fw}{H' H1 H2:Hp}
def eD.go (h:eD C B0 ac B H)(s:bo H H'):eD C B0 ac B H':=⟨λb o c e=>s _ _ (h.kp b o c e),h.jR.trans (bL s),h.sub,h.hb.same s⟩
def vW.refl:vW B B:=⟨λ_ e=>e,λ_ _ e=>e⟩
theorem eD.refl (h:HB B H)(c:vW C B):eD C B H B H:=⟨λ_ _ _ e=>e,fj.refl _,c,h⟩
theorem eD.trans (h:eD C B0 ac B1 H1)(q:eD C B1 H1 B2 H2):eD C B0 ac B2 H2:=⟨λb o c e=>q.kp b o c (h.kp b o c e),h.jR.trans q.jR,q.sub,q.hb⟩
def eD.same (h:eD C C ac B H):bo ac H:=λb o e=>by
 cases q:C b with
 |true=>exact h.kp b o q e
 |false=>exact bJ _ _ (h.jR.h b o (by rw[gv q];exact e))
end
def E9(X:Cx)(D:Ends)(C B0:fw)(H0:Hp):Out->Prop
 |.nx Y=>∀b B' H',eD C B0 H0 B' H'->cK X.K B' H' b Y->D.nx b H'
 |.ret t=>∀v B' H',eD C B0 H0 B' H'->Rep X.K (cn C H') v t->D.rt v H'
 |.bk Y=>∀b B' H',eD C B0 H0 B' H'->cK X.K B' H' b Y->D.bk b H'
 |.ct Y=>∀b B' H',eD C B0 H0 B' H'->cK X.K B' H' b Y->D.ct b H'
def xS(X:Cx)(C B0:fw)(H0:Hp):Tr->Prop:=λc=>∀B' H',eD C B0 H0 B' H'->XA X c H'
inductive tS(X:Cx)(G:bX->Rs Out)(D:Ends)(Z:St)(H:Hp):Prop
 |mk (C:fw) (B0:fw) (H0:Hp) (B:fw) (Y:bX):eD C B0 H0 B H->cK X.K B H Z Y->qX (xS X C B0 H0) (G Y) (E9 X D C B0 H0)->tS X G D Z H
def PE.weak {t t':TE}(h:PE X e t)(w:∀Z H Q,t' Z H Q->t Z H Q):PE X e t':=λU s Z H Q I q=>h U s Z H Q I (w Z H Q q)
def PT.weak {t t':TT}(h:PT X e t)(w:∀Z H Q,t' Z H Q->t Z H Q):PT X e t':=λU s Z H Q I q=>h U s Z H Q I (w Z H Q q)
def PW.weak {t t':TT}(h:PW X e t)(w:∀Z H Q,t' Z H Q->t Z H Q):PW X e t':=λwh U s Z H Q I q=>h wh U s Z H Q I (w Z H Q q)
def PA.weak {t t':TA}(h:PA X es t)(w:∀Z H Q,t' Z H Q->t Z H Q):PA X es t':=λpos U s Z H Q I q=>h pos U s Z H Q I (w Z H Q q)
def PS.weak {st:Stmt}{t t':TS}(h:PS X st t)(w:∀D Z H,t' D Z H->t D Z H):PS X st t':=λU s Z H D I q=>h U s Z H D I (w D Z H q)
def o6.weak {st:List Stmt}{t t':TS}(h:o6 X st t)(w:∀D Z H,t' D Z H->t D Z H):o6 X st t':=λU s Z H D I q=>h U s Z H D I (w D Z H q)
def yl(Y:bX)(i:Nat):Rs Tr:=match Y[i]? with
 |some (.sh t)=>.ok t
 |_=>.bad
def KQ{Y:bX}(r:cK X.K B H Z Y)(h:Fi X H (yl Y i) aB):∃v t,Z[i]?=some (some v)/\Rep X.K (cn B H) v t/\aB t:=by
 unfold yl at h;split at h
 ·rename_i t e;obtain⟨v,b,r1⟩:=r.sh i t e;exact⟨v,t,b,r1,h⟩
 ·exact h.elim
section
variable {b:Expr}{E:bX->Rs Tr}
theorem Wr(i:Nat)(hN:X.N[i]?=some x:=by rfl) (hv:ZN X.env.scope x:=by first|exact Or.inl rfl|exact Or.inr (Or.inl rfl)|exact Or.inr (Or.inr rfl)) (hd:Db x:=by decide)
  (EL:(x==("__classdict__":Str))=false:=by decide):PE X (.Name x pos) (tP X λY=>yl Y i):=
 (RD hN hv hd EL).weak λZ H Q ⟨B,Y,hb,r,q⟩=>by
  obtain⟨v,t,e,r1,k⟩:=KQ r q;exact⟨v,e,k v H (bo.refl H) r1⟩
theorem C'{v:V}(h:PE X e (tC v))(r:∀H,Rep X.K H v aC):PE X e (tP X λ_=>.ok aC):=
 h.weak λZ H Q ⟨B,Y,_,_,q⟩=>q v H (bo.refl H) (r _)
def Ws{i:Int}{j pos}:PE X (.Constant (.int i) j pos) (tP X λ_=>.ok (.int i)):=C' RE λH=>.int i
def aaO{b:Bool}{j pos}:PE X (.Constant (.bool b) j pos) (tP X λ_=>.ok (.bl b)):=C' VP λH=>.bl b
def Wt{j pos}:PE X (.Constant .none j pos) (tP X λ_=>.ok .cA):=C' RF λH=>.cA
def Wu{j pos}(hz:x.length<=cZ:=by decide):PE X (.Constant (.str x) j pos) (tP X λ_=>.ok (.str x)):=C' RG λH=>.str x hz
def Wv(K:Frag)(mg:Str->Option Value)(x:Str)(t:Tr):Prop:=∃v u,mg x=some u/\RelV v u/\∀H,Rep K H v t
def aaP(hm:X.mg x=none)(q:bootBuiltins x=some (.type ay):=by rfl) (hg:Gl X x:=by rfl) (hn:x≠"__name__":=by decide) (hd:Db x:=by decide):PE X (.Name x pos) (tP X λ_=>.ok (.ty ay)):=
 C' (Gn (v:=.ty ay) hg hm q rfl hn hd) λH=>.ty ay
def Iz(h:Tr->Tr->Rs Tr)(o b:Rs Tr):Rs Tr:=o.bind λx=>b.bind λy=>h x y
inductive rT(X:Cx)(h:Tr->Tr->Rs Tr)(x:V)(y:V)(H:Hp)(Q:VK):Prop
 |mk (B:fw) (tx:Tr) (ty:Tr):HB B H->Rep X.K (cn B H) x tx->Rep X.K (cn B H) y ty->(Fi X H (h tx ty) fun t=>∀v H',bo H H'->Rep X.K (cn B H') v t->Q v H')->rT X h x y H Q
abbrev Cz(X:Cx)(f:Value->Value->Sem Value)(h:Tr->Tr->Rs Tr):Prop:=vh X f (rT X h)
def uz{Q:VK}(q:tP X (λY=>Iz aE (F Y) (G Y)) Z H Q):RK (rT X aE) (tP X F) (tP X G) Z H Q:=by
 obtain⟨B,Y,hb,r,q⟩:=q;refine⟨B,Y,hb,r,q.bind.mono λx b v H1 s1 r1=>⟨B,Y,hb.same s1,r.same s1,(b.bind.same s1).mono λy g u H2 s2 r2=>⟨B,x,y,(hb.same s1).same s2,r1.same (bL s2),r2,?_⟩⟩⟩;exact(g.same (s1.trans s2)).mono λt l w n s3 I=>l w n ((s1.trans s2).trans s3) I
def Ww{op:Operator}(ho:Cz X (binaryOp op) aE)(ha:PE X o (tP X F))(hb:PE X b (tP X G)):PE X (.BinOp o op b pos) (tP X λY=>Iz aE (F Y) (G Y)):=
 (Ql ho ha hb).weak λ_ _ _ q=>uz q
def Wx{op:CmpOp}(ho:Cz X (compareOp op) aE)(ha:PE X o (tP X F))(hb:PE X b (tP X G))(hm:behindInMarks op b=false:=by first|exact A9 _|rfl|with_unfolding_all rfl):PE X (.Compare o [op] [b] pos) (tP X λY=>Iz aE (F Y) (G Y)):=
 (NI ho ha hb hm).weak λ_ _ _ q=>uz q
def Z1(r:Rs Tr):Rs Bool:=r.bind λt=>match t with
 |.bl b=>.ok b
 |_=>.bad
def Rep.ym {H:Vw}{v:V}{b:Bool}(h:Rep K H v (.bl b)):v=.bl b:=by cases h;rfl
def gw{W:Vw}{t:Tr}(r:bQ K W ar [t]):∃x,ar=[x]/\Rep K W x t:=by
 cases r with
 |cons o r=>cases r;exact⟨_,rfl,o⟩
def z8{W:Vw}{u:Tr}(r:bQ K W ar [aC,u]):∃x y,ar=[x,y]/\Rep K W x aC/\Rep K W y u:=by
 cases r with
 |cons o r=>
  obtain⟨y,rfl,b⟩:=gw r;exact⟨_,_,rfl,o,b⟩
def Rep.GJ {H:Vw}{v:V}{ns:List Int}(h:Rep K H v (.vU ns)):∃o,v=.ref o/\lT K H.H o (ns.map V.int):=by cases h;exact⟨_,rfl,by assumption⟩
def Rep.nW {H:Vw}{v:V}{bE:List (Key×Tr)}(h:Rep K H v (.bW bE)):∃o kvs,v=.ref o/\Rd H.H o (.dK kvs)/\kvs.map (·.1)=bE.map (·.1)/\bQ K H (kvs.map (·.2)) (bE.map (·.2)):=by cases h;exact⟨_,_,rfl,by assumption,by assumption,by assumption⟩
def Rep.nX {H:Vw}{v:V}(h:Rep K H v (.at i)):∃o,v=.ref o/\H.ix o=some i:=by cases h;exact⟨_,rfl,by assumption⟩
def Rep.Bj {H:Vw}{v:V}{fs:List (Str×Tr)}(h:Rep K H v (.ob x fs)):∃o dx q,v=.ref o/\H.H o=some (.ins (clsAt K x) dx q)/\q.map (·.1)=fs.map (·.1)/\bQ K H (q.map (·.2)) (fs.map (·.2)):=by cases h;exact⟨_,_,_,rfl,by assumption,by assumption,by assumption⟩
def Rep.N7 {H:Vw}{v:V}(h:Rep K H v .cA):v=.cA:=by cases h;rfl
def Rep.int_inv {H:Vw}{v:V}{i:Int}(h:Rep K H v (.int i)):v=.int i:=by cases h;rfl
def Rep.str_inv {H:Vw}{v:V}{z:Str}(h:Rep K H v (.str z)):v=.str z/\z.length<=cZ:=by cases h;exact⟨rfl,by assumption⟩
def Rep.dX {H:Vw}{v:V}(h:Rep K H v (.tup ts)):∃o vs,v=.ref o/\ju K H.H o vs/\bQ K H vs ts:=by cases h;exact⟨_,_,rfl,by assumption,by assumption⟩
def Rep.lst_inv {H:Vw}{v:V}(h:Rep K H v (.lst ts)):∃o vs,v=.ref o/\H.H o=some (.lst vs)/\bQ K H vs ts:=by cases h;exact⟨_,_,rfl,by assumption,by assumption⟩
theorem hide{G:Prop}(k:∀P:Prop,(G->P)->P):G:=k G id
def N8{r:Rs Tr}{k:Bool->Prop}(h:Fi X H (Z1 r) k):Fi X H r λt=>∃b,t=.bl b/\k b:=by
 refine h.bind.mono λt q=>?_
 cases t with
 |bl b=>exact⟨b,rfl,q⟩
 |_=>exact q.elim
theorem Wy{op:CmpOp}(ho:Cz X (compareOp op) aE)(ha:PE X o (tP X F))(hb:PE X b (tP X G))(hm:behindInMarks op b=false:=by first|exact A9 _|rfl|with_unfolding_all rfl):PT X (.Compare o [op] [b] pos) (tQ X λY=>Z1 (Iz aE (F Y) (G Y))):=
 (NJ ho ha hb hm).weak λZ H Q ⟨B,Y,hb,r,q⟩=>by
  refine uz (Q:=λx H'=>∃k,x=.bl k/\Q k H') ⟨B,Y,hb,r,(N8 q).mono λt g v H' s' l=>?_⟩;obtain⟨b,rfl,k⟩:=g;exact⟨b,l.ym,k H' s'⟩
noncomputable def pZ:Tr->Rs Bool
 |.cA=>.ok false
 |.bl b=>.ok b
 |.int i=>.ok (i !=0)
 |.str z=>.ok ((z.length:Int) !=0)
 |.tup ts=>.ok (!ts.isEmpty)
 |.lst ts=>.ok (!ts.isEmpty)
 |.bW bE=>.ok (!bE.isEmpty)
 |_=>.bad
theorem bQ.isEmpty {H:Vw}{vs:List V}(h:bQ K H vs ts):vs.isEmpty=ts.isEmpty:=by cases h<;>rfl
def lV:cZ<=sizeLine:=by rw[dW];decide
def N9{H:Vw}{v:V}{b:Bool}(r:Rep K H v aC)(e:pZ aC=.ok b):NK K v H b:=by
 cases r with
 |cA=>cases e;rfl
 |bl tg=>cases e;rfl
 |int i=>cases e;rfl
 |str z h=>cases e;exact⟨cB h lV,rfl⟩
 |ty n=>cases e
 |tup h r=>cases e;exact .inr (.inl ⟨_,h,by rw[r.isEmpty]⟩)
 |lst h r=>cases e;exact .inl ⟨_,.of h,by rw[r.isEmpty]⟩
 |vU h=>cases e
 |«at» h=>cases e
 |vV h g l=>cases e
 |ob h g l=>cases e
 |z6 h tg=>cases e
 |bW h g r=>
  cases e;refine .inr (.inr ⟨_,h,?_⟩);rename_i kvs bE;cases kvs<;>cases bE<;>first|rfl|cases g
def yn{H:Vw}{v:V}{t:Tr}{k:Bool->Prop}(r:Rep X.K H v t)(h:Fi X H (pZ t) k):∃b,NK X.K v H b/\k b:=by
 cases e:pZ t with
 |ok b=>rw[e]at h;exact⟨b,N9 r e,h⟩
 |exc tg=>cases t<;>cases e
 |bad=>rw[e]at h;exact h.elim
theorem Wz(ha:PE X o (tP X F))(he:m9 o=true:=by rfl):PT X o (tQ X λY=>(F Y).bind pZ):=
 (CO ha (yk he)).weak λZ H Q ⟨B,Y,hb,r,q⟩=>⟨B,Y,hb,r,q.bind.mono λt g v H' s' l=>by
  obtain⟨b,h1,h2⟩:=yn (l.same fL) (g.same s');exact⟨b,h1,h2 H' s'⟩⟩
def IA(r:Rs Bool):Rs Bool:=r.bind λb=>.ok (!b)
variable {A B:bX->Rs Bool}{c9:List Expr}
theorem WA(ha:PT X o (tQ X A)):PT X (.UnaryOp .Not o pos) (tQ X λY=>IA (A Y)):=
 (Ka ha).weak λZ H Q ⟨B,Y,hb,r,q⟩=>⟨B,Y,hb,r,q.bind⟩
def IB(o b:Rs Bool):Rs Bool:=o.bind λtg=>if tg then b else .ok false
def WB(o b:Rs Bool):Rs Bool:=o.bind λtg=>if tg then .ok true else b
def Su(q:PT X o (tQ X A)):PW X (.BoolOp .And [o] pos) (tQ X A):=pw_and1 q
def WC(q:PT X o (tQ X A)):PW X (.BoolOp .Or [o] pos) (tQ X A):=pw_or1 q
theorem w_and(ha:PT X o (tQ X A))(hb:PW X (.BoolOp .And (b::c9) pos) (tQ X B)):PW X (.BoolOp .And (o::b::c9) pos) (tQ X λY=>IB (A Y) (B Y)):=
 (pw_and ha hb).weak λZ H Q ⟨g,Y,hb,r,q⟩=>⟨g,Y,hb,r,q.bind.mono λtg l H1 s1=>by
  cases tg with
  |true=>exact⟨g,Y,hb.same s1,r.same s1,(Fi.same l s1).mono λb n H2 s2=>n H2 (s1.trans s2)⟩
  |false=>exact l H1 s1⟩
theorem w_or(ha:PT X o (tQ X A))(hb:PW X (.BoolOp .Or (b::c9) pos) (tQ X B)):PW X (.BoolOp .Or (o::b::c9) pos) (tQ X λY=>WB (A Y) (B Y)):=
 (pw_or ha hb).weak λZ H Q ⟨g,Y,hb,r,q⟩=>⟨g,Y,hb,r,q.bind.mono λtg l H1 s1=>by
  cases tg with
  |false=>exact⟨g,Y,hb.same s1,r.same s1,(Fi.same l s1).mono λb n H2 s2=>n H2 (s1.trans s2)⟩
  |true=>exact l H1 s1⟩
def Sv{op}(h:PW X (.BoolOp op es pos) (tQ X A)):PT X (.BoolOp op es pos) (tQ X A):=h.pt
def WD(o b:Rs Tr):Rs Tr:=o.bind λt=>(pZ t).bind λtg=>if tg then b else .ok t
theorem WE(ha:PE X o (tP X F))(hb:PE X (.BoolOp .And (b::c9) pos) (tP X G)):PE X (.BoolOp .And (o::b::c9) pos) (tP X λY=>WD (F Y) (G Y)):=by
 intro U s Z H Q I ⟨B,Y,n,r,q⟩;refine BoolOp_and (eN (ha U s Z H _ I ⟨B,Y,n,r,q.bind.mono λt l v H1 s1 r1=>(show∃t,Rep X.K (cn B H1) v t/\bo H H1/\Fi X H ((pZ t).bind λtg=>if tg then G Y else .ok t) (λt=>∀v H',bo H H'->Rep X.K (cn B H') v t->Q v H')from⟨t,r1,s1,l⟩)⟩) λv s1 ⟨x,H1,M,r1,t,rt,g,l⟩=>?_);obtain⟨tg,h1,h2⟩:=yn (rt.same fL) (l.bind.same g);refine eN (Kk U s1 Z H1 x v (λk H'=>k=tg/\H'=H1) M r1 ⟨tg,h1,rfl,rfl⟩) λk s2 ⟨H2,L,S,e2⟩=>?_
 subst S e2;cases k with
 |true=>exact hb U s2 Z _ Q L ⟨B,Y,n.same g,r.same g,(Fi.same h2 g).mono λt q v H' s' r'=>q v H' (g.trans s') r'⟩
 |false=>exact⟨x,_,L,r1,h2 x _ g rt⟩
def WG{op}(h:PE X o (tP X F)):PE X (.BoolOp op [o] pos) (tP X F):=RH h
def Sw(r:Rs Bool):Rs Tr:=r.bind λb=>.ok (.bl b)
def KR(tg:Rs Bool)(o b:Rs Tr):Rs Tr:=tg.bind λk=>if k then o else b
theorem aaQ(hc:PT X tg (tQ X A))(ha:PE X o (tP X F))(hb:PE X b (tP X G)):PE X (.IfExp tg o b pos) (tP X λY=>KR (A Y) (F Y) (G Y)):=
 (Kb hc ha hb).weak λZ H Q ⟨B,Y,hb,r,q⟩=>⟨B,Y,hb,r,q.bind.mono λk l H1 s1=>by
  cases k with
  |true=>exact⟨B,Y,hb.same s1,r.same s1,(Fi.same l s1).mono λt q v H2 s2 g=>q v H2 (s1.trans s2) g⟩
  |false=>exact⟨B,Y,hb.same s1,r.same s1,(Fi.same l s1).mono λt q v H2 s2 g=>q v H2 (s1.trans s2) g⟩⟩
def yo(o:Rs Tr)(l:Rs (List Tr)):Rs (List Tr):=o.bind λx=>l.bind λxs=>.ok (x::xs)
theorem GK:PA X [] (C_ X λ_=>.ok []):=sD.weak λZ H Q ⟨B,Y,hb,r,q⟩=>q [] H (bo.refl H) .nil
theorem Bk(ha:PE X o (tP X F))(hr:PA X es (C_ X L))(hs:isStar o=false:=by rfl):PA X (o::es) (C_ X λY=>yo (F Y) (L Y)):=
 (lU ha hr (bO _ _ hs)).weak λZ H Q ⟨B,Y,hb,r,q⟩=>⟨B,Y,hb,r,q.bind.mono λx b v H1 s1 g=>⟨B,Y,hb.same s1,r.same s1,(b.bind.same s1).mono λxs l vs H2 s2 n=>l _ H2 (s1.trans s2) (.cons (g.same (bL s2)) n)⟩⟩
noncomputable def dZ:Nat:=16777216
def je:dZ=sizeLine:=dW.symm
def Bl(l:Rs (List Tr)):Rs Tr:=l.bind λts=>if ts.length<=dZ then .ok (.tup ts)else .bad
def zB(l:Rs (List Tr)):Rs Tr:=l.bind λts=>if ts.length<=dZ then .ok (.lst ts)else .bad
theorem WH{x1}(h:PA X es (C_ X L)):PE X (.Tuple es x1 pos) (tP X λY=>Bl (L Y)):=
 (RV h).weak λZ H Q ⟨B,Y,hb,r,q⟩=>⟨B,Y,hb,r,q.bind.mono λts b vs H1 s1 g=>by
  by_cases hz:ts.length<=dZ
  ·rw[aY hz]at b;refine⟨by rw[g.length,<-je];exact hz,λp hp=>b (.ref p) _ (s1.Bh (s1.free hp)) (.tup (.of ((hb.same s1).new hp)) (g.same (bL (bo.upd hp))))⟩
  ·rw[bc hz]at b;exact b.elim⟩
theorem WI(h:PA X es (C_ X L)):PE X (.List es pos) (tP X λY=>zB (L Y)):=
 (Kq h).weak λZ H Q ⟨B,Y,hb,r,q⟩=>⟨B,Y,hb,r,q.bind.mono λts b vs H1 s1 g=>by
  by_cases hz:ts.length<=dZ
  ·rw[aY hz]at b;refine⟨by rw[g.length,<-je];exact hz,λp hp=>b (.ref p) _ (s1.Bh (s1.free hp)) (.lst ((hb.same s1).new hp) (g.same (bL (bo.upd hp))))⟩
  ·rw[bc hz]at b;exact b.elim⟩
def dM(h:List Tr->Rs Tr)(l:Rs (List Tr)):Rs Tr:=l.bind h
inductive rC(X:Cx)(h:List Tr->Rs Tr)(xs:List V)(H:Hp)(Q:VK):Prop
 |mk (B:fw) (ts:List Tr):HB B H->bQ X.K (cn B H) xs ts->(Fi X H (h ts) fun t=>∀v H',bo H H'->Rep X.K (cn B H') v t->Q v H')->rC X h xs H Q
abbrev lW(X:Cx)(f:Value)(h:List Tr->Rs Tr):Prop:=gQ X f (rC X h)
def z9{Q:VK}(q:tP X (λY=>dM h (L Y)) Z H Q):tCB (rC X h) (C_ X L) Z H Q:=by
 obtain⟨B,Y,hb,r,q⟩:=q;exact⟨B,Y,hb,r,q.bind.mono λts b vs H1 s1 r1=>⟨B,ts,hb.same s1,r1,(b.same s1).mono λt b v H2 s2 g=>b v H2 (s1.trans s2) g⟩⟩
def N_(hc:lW X (.builtin ay) h)(hm:X.mg x=none)(ha:PA X (e::es) (C_ X L))(hv:bootBuiltins x=some (.builtin ay):=by rfl) (hg:Gl X x:=by rfl) (hn:x≠"__name__":=by decide) (fQ:Db x:=by decide)
  (cJ:bC (e::es)=true:=by rfl):PE X (.Call (.Name x p) (e::es) [] pos) (tP X λY=>dM h (L Y)):=
 (pS hc hg hm hv ha hn fQ (bO _ _ (bt cJ).1) (cS (bt cJ).2)).weak λ_ _ _ q=>z9 q
def KU(hc:lW X (.type ay) h)(hm:X.mg x=none)(ha:PA X (e::es) (C_ X L))(hv:bootBuiltins x=some (.type ay):=by rfl) (hg:Gl X x:=by rfl) (hn:x≠"__name__":=by decide) (fQ:Db x:=by decide)
  (cJ:bC (e::es)=true:=by rfl):PE X (.Call (.Name x p) (e::es) [] pos) (tP X λY=>dM h (L Y)):=
 (vk hc hg hm hv ha hn fQ (bO _ _ (bt cJ).1) (cS (bt cJ).2)).weak λ_ _ _ q=>z9 q
inductive spT(K:Frag)(f:List Tr->Rs Tr)(vs:List V)(H:Hp)(Q:VK)(_w3:XK):Prop
 |mk (B:fw) (ts:List Tr):HB B H->bQ K (cn B H) vs ts->(∃t,f ts=.ok t/\∀v H',bo H H'->Rep K (cn B H') v t->Q v H')->spT K f vs H Q _w3
theorem WJ{fd:FuncData}(D:z5 X.K X.mg x ai ps a fd)(G:eI X.prog X.w X.K X.mg X.base mH i a fd ps (spT X.K h))(hr:dk i X.A)
  (ha:PA X (e::es) (C_ X L)) (hg:Gl X x:=by rfl) (fQ:Db x:=by decide) (cJ:bC (e::es)=true:=by rfl):PE X (.Call (.Name x p) (e::es) [] pos) (tP X λY=>dM h (L Y)):=
 (Sr D G hr ha hg fQ (bO _ _ (bt cJ).1) (cS (bt cJ).2)).weak λZ H Q ⟨B,Y,hb,r,q⟩=>⟨B,Y,hb,r,q.bind.mono λts b vs H1 s1 g=>by
  cases e:h ts with
  |ok t=>rw[e]at b;exact⟨B,ts,hb.same s1,by rw[kj];exact g,t,e,λv H2 s2 l=>b v H2 (s1.trans s2) l⟩
  |exc tg=>rw[e]at b;exact(b _ (bo.refl _)).elim
  |bad=>rw[e]at b;exact b.elim⟩
end
section
variable {a b c:Expr}{G G':bX->Rs Out}{A:bX->Rs Bool}{c9:List Stmt}
def Dc(r:Rs Out)(G:bX->Rs Out):Rs Out:=r.bind λo=>match o with
 |.nx Y=>G Y
 |.ret t=>.ok (.ret t)
 |.bk Y=>.ok (.bk Y)
 |.ct Y=>.ok (.ct Y)
theorem WK:o6 X [] (tS X λY=>.ok (.nx Y)):=Gp.weak λD Z H ⟨C,B0,H0,B,Y,b,r,q⟩=>q Z B H b r
theorem Sx(h1:PS X ai (tS X G))(h2:o6 X c9 (tS X G')):o6 X (ai::c9) (tS X λY=>Dc (G Y) G'):=
 (CN h1 h2).weak λD Z H ⟨C,B0,H0,B,Y,g,r,q⟩=>⟨C,B0,H0,B,Y,g,r,q.bind.mono λo b=>by
  cases o with
  |nx iG=>exact λI B' H' l n=>⟨C,B0,H0,B',iG,l,n,b⟩
  |ret t=>exact b
  |bk iG=>exact b
  |ct iG=>exact b⟩
def WL(q:PS X ai (tS X G)):o6 X [ai] (tS X G):=Gq q
def KW(i:Nat)(r:Rs Tr)(Y:bX):Rs Out:=r.bind λt=>.ok (.nx (Y.set i (.sh t)))
def qX.here {α:Type}{C B0:fw}{H0:Hp}{r:Rs α}{k:α->Prop}(h:qX (xS X C B0 H0) r k)(si:eD C B0 H0 B H):Fi X H r k:=h.imp λ_ q H' s'=>q B H' (si.go s')
def GL{C B0:fw}{Y:bX}(si:eD C B0 ac B H)(r:cK X.K B H Z Y)(q:qX (xS X C B0 ac) (F Y) aB){Q:VK}(hq:∀t v H',aB t->bo H H'->eD C B0 ac B H'->cK X.K B H' Z Y->Rep X.K (cn B H') v t->Q v H'):tP X F Z H Q:=
 ⟨B,Y,si.hb,r,(q.here si).mono λt b v H' s' g=>hq t v H' b s' (si.go s') (r.same s') g⟩
def WM{C B0:fw}{Y:bX}{k:Bool->Prop}(si:eD C B0 ac B H)(r:cK X.K B H Z Y)(q:qX (xS X C B0 ac) (A Y) k){Q:Bool->Hp->Prop}(hq:∀b H',k b->bo H H'->eD C B0 ac B H'->cK X.K B H' Z Y->Q b H'):tQ X A Z H Q:=
 ⟨B,Y,si.hb,r,(q.here si).mono λb g H' s'=>hq b H' g s' (si.go s') (r.same s')⟩
def Rep.out {C B0:fw}{H0:Hp}{v:V}{t:Tr}(r:Rep K (cn B H) v t)(q:eD C B0 H0 B H):Rep K (cn C H) v t:=r.same (yi q.sub)
theorem WN(he:PE X e (tP X F))(hN:X.N.Nodup:=by assumption) (hi:X.N[i]?=some x:=by rfl) (hx:Loc X.env.scope x:=by first|exact Or.inl rfl|exact Or.inr rfl) (hs:sG e=false:=by rfl) (hf:zr X x:=by first|exact .inl rfl|exact .inr rfl|assumption):
  PS X (.Assign [.Name x p] e pos) (tS X λY=>KW i (F Y) Y):=
 (Kg hN hi hx he (yj hs) hf).weak λD Z H ⟨C,B0,H0,B,Y,b,r,q⟩=>GL b r q.bind λt v H1 g s1 l n I=>g _ B H1 l (n.set i I)
def KY(r:Rs Tr):Rs Out:=r.bind λt=>.ok (.ret t)
theorem WO(he:PE X e (tP X F)):PS X (.Return (some e) pos) (tS X λY=>KY (F Y)):=
 (Kd he).weak λD Z H ⟨C,B0,H0,B,Y,g,r,q⟩=>GL g r q.bind λt v H1 l s1 b I n=>l v B H1 b (n.out b)
def Vj(c:Rs Bool)(a b:Rs Out):Rs Out:=c.bind λk=>if k then a else b
theorem aaR(hc:PT X c (tQ X A))(ha:o6 X ah (tS X G))(hb:o6 X aj (tS X G')):PS X (.If c ah aj pos) (tS X λY=>Vj (A Y) (G Y) (G' Y)):=
 (Qj hc ha hb).weak λD Z H ⟨C,B0,H0,B,Y,l,r,q⟩=>WM l r q.bind λk H1 b s1 g r1=>by
  cases k with
  |true=>exact Sk ⟨C,B0,H0,B,Y,g,r1,b⟩
  |false=>exact Sj ⟨C,B0,H0,B,Y,g,r1,b⟩
abbrev o4:=Tr->bX->Rs bX
inductive tG(X:Cx)(T:o4)(v:V)(Z:St)(H:Hp)(Q:St->Hp->Prop):Prop
 |mk (B:fw) (Y:bX) (t:Tr):HB B H->cK X.K B H Z Y->Rep X.K (cn B H) v t->(Fi X H (T t Y) fun iG=>∀dB H',bo H H'->cK X.K B H' dB iG->Q dB H')->tG X T v Z H Q
def gN(i:Nat):o4:=λt Y=>.ok (Y.set i (.sh t))
theorem Sy(i:Nat)(hN:X.N.Nodup:=by assumption) (hi:X.N[i]?=some x:=by rfl) (hx:Loc X.env.scope x:=by first|exact Or.inl rfl|exact Or.inr rfl) (hf:zr X x:=by first|exact .inl rfl|exact .inr rfl|assumption):PG X (.Name x pos) (tG X (gN i)):=by
 intro U s Z H v u Q I r ⟨B,Y,t,hb,rs,rt,q⟩;exact Gr hN hi hx hf U s Z H v u Q I r (q _ H (bo.refl H) (rs.set i rt))
noncomputable def E_:List Nat->List Tr->bX->Rs bX
 |[],[],Y=>.ok Y
 |i::is,t::ts,Y=>E_ is ts (Y.set i (.sh t))
 |_,_,_=>.bad
inductive Vk(X:Cx)(T:List Tr->bX->Rs bX)(vs:List V)(Z:St)(H:Hp)(Q:St->Hp->Prop):Prop
 |mk (B:fw) (Y:bX) (ts:List Tr):HB B H->cK X.K B H Z Y->bQ X.K (cn B H) vs ts->(Fi X H (T ts Y) fun iG=>∀dB H',bo H H'->cK X.K B H' dB iG->Q dB H')->Vk X T vs Z H Q
theorem WQ:NC X [] (Vk X (E_ [])):=by
 intro U s Z H vs us Q I r ⟨B,Y,ts,hb,rs,rt,q⟩
 match ts,rt,q with
 |[],.nil,q=>exact ND U s Z H [] us Q I r ⟨rfl,q Z H (bo.refl H) rs⟩
 |_::_,_,q=>exact q.elim
theorem Sz{is:List Nat}(h2:NC X es (Vk X (E_ is)))(hN:X.N.Nodup:=by assumption) (hi:X.N[i]?=some x:=by rfl) (hx:Loc X.env.scope x:=by first|exact Or.inl rfl|exact Or.inr rfl) (hf:zr X x:=by first|exact .inl rfl|exact .inr rfl|assumption)
  (hs:(assignEach (.Name x pos::es) X.env).map (·.2)=assign (.Name x pos) X.env::(assignEach es X.env).map (·.2):=by rfl):NC X (.Name x pos::es) (Vk X (E_ (i::is))):=by
 intro U s Z H vs us Q I r ⟨B,Y,ts,hb,rs,rt,q⟩
 match ts,rt,q with
 |[],_,q=>exact q.elim
 |t::ts,.cons b r2,q=>
  exact Ke (Gr hN hi hx hf) h2 hs U s Z H _ us Q I r ⟨_,_,rfl,⟨B,_,ts,hb,rs.set i b,r2,q⟩⟩
def gT(is:List Nat):o4:=λt Y=>match t with
 |.tup ts=>E_ is ts Y
 |_=>.bad
theorem GN:∀{is:List Nat} {ts:List Tr} {Y q:bX},E_ is ts Y=.ok q->ts.length=is.length
 |[],[],_,_,_=>rfl
 |[],_::_,_,_,h=>by cases h
 |_::_,[],_,_,h=>by cases h
 |_::is,_::ts,_,_,h=>by rw[dA,dA,GN (is:=is) (ts:=ts) h]
theorem z_:∀{is:List Nat} {ts:List Tr} {Y:bX} {c:Tr},E_ is ts Y≠ .exc c
 |[],[],_,_=>λh=>by cases h
 |[],_::_,_,_=>λh=>by cases h
 |_::_,[],_,_=>λh=>by cases h
 |_::is,_::ts,_,_=>z_ (is:=is) (ts:=ts)
theorem WR{is:List Nat}(h:NC X es (Vk X (E_ is)))(hc:X.calm=true:=by rfl) (hn:(assignEach es X.env).length=is.length:=by rfl) (cJ:(assignEach es X.env).findIdx? (·.1)=none:=by rfl):PG X (.Tuple es i pos) (tG X (gT is)):=by
 intro U s Z H v u Q I r ⟨B,Y,t,hb,rs,rt,q⟩;cases rt with
 |tup g rv=>
  refine RJ hc h hn cJ U s Z H _ u Q I r ⟨_,_,rfl,(bo.tup bJ g),?_,B,Y,_,hb,rs,rv,q⟩;have b:Fi X H (E_ is _ Y) _:=q;cases e:E_ is _ Y with
  |ok l=>rw[rv.length];exact GN e
  |exc c=>exact(z_ e).elim
  |bad=>rw[e]at b;exact b.elim
 |_=>exact q.elim
def ID(T:o4)(r:Rs Tr)(Y:bX):Rs Out:=r.bind λt=>(T t Y).bind λb=>.ok (.nx b)
theorem WS{T:o4}(hg:PG X tg (tG X T))(he:PE X e (tP X F))(hs:swapsWithSole [tg] e pos.line X.env=pure false:=by rfl) (hw:swappedStores [tg] e X.env=pure none:=by rfl)
  (h1:(assignEach [tg] X.env).map (·.2)=[assign tg X.env]:=by rfl):PS X (.Assign [tg] e pos) (tS X λY=>ID T (F Y) Y):=
 (Kf he hg hs hw h1).weak λD Z H ⟨C,B0,H0,B,Y,g,r,q⟩=>GL g r q.bind λt v H1 l s1 b r1 rv=>⟨B,Y,t,b.hb,r1,rv,(l.bind.here b).mono λM n I H2 s2 L=>n I B H2 (b.go s2) L⟩
structure lX(K:Frag)(B:fw)(J:It)(H:Hp)(ts:List Tr):Prop where
 go:∀i B' H',i<ts.length->fj (cn B H) (cn B' H')->HB B' H'->J.go i H'
 Gs:∀i B' H' x Nk,i<ts.length->fj (cn B H) (cn B' H')->HB B' H'->J.Gs i H' x Nk->bo H' Nk/\∃t,ts[i]?=some t/\Rep K (cn B' Nk) x t
 stop:∀B' H',fj (cn B H) (cn B' H')->J.stop ts.length H'
inductive tI(X:Cx)(W:bX->Rs (List Tr))(Z:St)(H:Hp)(R:It->Hp->Prop):Prop
 |mk (B:fw) (Y:bX):HB B H->cK X.K B H Z Y->(Fi X H (W Y) fun ts=>∀J H',bo H H'->lX X.K B J H' ts->R J H')->tI X W Z H R
def zC(T:o4)(G:bX->Rs Out):List Tr->bX->Rs Out
 |[],Y=>.ok (.nx Y)
 |t::ts,Y=>(T t Y).bind λg=>(G g).bind λo=>match o with
  |.nx b=>zC T G ts b
  |.ct b=>zC T G ts b
  |.bk b=>.ok (.nx b)
  |.ret t=>.ok (.ret t)
def GO(T:o4)(G:bX->Rs Out)(l:Rs (List Tr))(Y:bX):Rs Out:=l.bind λts=>zC T G ts Y
noncomputable def IE(z:Str):List Tr:=z.cps.toList.map λc=>Tr.str ⟨#[c]⟩
def KZ(r:Rs Tr):Rs (List Tr):=r.bind λt=>match t with
 |.tup ts=>.ok ts
 |.lst ts=>.ok ts
 |.str z=>.ok (IE z)
 |_=>.bad
def yp(h:cn B H au=some (.lst ar))(r:bQ K (cn B H) ar ts):lX K B (Itl K au) H ts where
 go:=λi B' H' hi s hb=>by
  have b:i<ar.length:=by rw[r.length];exact hi
  exact⟨ar,ar[i],lT.of (bJ _ _ (s.h _ _ h)),by simp[b]⟩
 Gs:=λi B' H' x l hi s hb ⟨e,y⟩=>by
  subst e;have q:=y ar (lT.of (bJ _ _ (s.h _ _ h)));obtain⟨t,g,r1⟩:=r.yh q;exact⟨bo.refl _,t,g,r1.same s⟩
 stop:=λB' H' s=>⟨ar,lT.of (bJ _ _ (s.h _ _ h)),by rw[r.length];exact bA _⟩
def IF(h:ju K (cn B H) au ar)(r:bQ K (cn B H) ar ts):lX K B (Itt K au) H ts where
 go:=λi B' H' hi s hb=>by
  have b:i<ar.length:=by rw[r.length];exact hi
  exact⟨ar,ar[i],bo.tup bJ (s.h.tup h),by simp[b]⟩
 Gs:=λi B' H' x l hi s hb ⟨e,y⟩=>by
  subst e;have q:=y ar (bo.tup bJ (s.h.tup h));obtain⟨t,g,r1⟩:=r.yh q;exact⟨bo.refl _,t,g,r1.same s⟩
 stop:=λB' H' s=>⟨ar,bo.tup bJ (s.h.tup h),by rw[r.length];exact bA _⟩
def IG(z:Str):lX K B (Z0 z) H (IE z) where
 go:=λi B' H' hi _ _=>by
  have h:i<z.cps.size:=by simpa[IE]using hi
  exact h
 Gs:=λi B' H' x l hi s hb ⟨e,c,b,g⟩=>by
  subst e;subst g;refine⟨bo.refl _,.str ⟨#[c]⟩,?_,.str _ (by show 1<=cZ;decide)⟩;unfold IE;rw[cq,nQ,b]
  rfl
 stop:=λB' H' s=>by simp[IE,Z0]
def Ob{s1:Shared}{R:It->Hp->Prop}{t:Tok}(I1:Inv X U Z H s1)(q:R (Z0 x) H):wpAny (model X.prog X.w) X.A (pyIter (.str x t)) (ZQ X U Z tg R) X.xe s1:=by
 have fin:∀b∈[s1.heap.objs.size],kY X U H b:=λb hb=>by
  have e:b=s1.heap.objs.size:=by simpa using hb
  rw[e];exact I1.xW (bA _) (I1.cW.fresh (bA _))
 cases r:x.cps.all (· <128)
 ·exact wpAny_pyIter_wide r ⟨s1.heap.objs.size,[s1.heap.objs.size],_,_,H,rfl,I1.kept (t':=s1.toks) λb o e=>bS _ e,
   C7 (n:="str_iterator") (t:=t) (by decide) (λA' g=>Walks.strWide g _ x t) λ_ _ _ _ _ ai l=>wpAny_pyIter_striter_wide ai l,⟨_,cz _ rfl,rfl,rfl⟩,fin,q⟩
 ·exact wpAny_pyIter_ascii r ⟨s1.heap.objs.size,[s1.heap.objs.size],_,_,H,rfl,I1.kept (t':=s1.toks) λb o e=>bS _ e,
   C7 (n:="str_ascii_iterator") (t:=t) (by decide) (λA' g=>Walks.strAscii g _ x t) λ_ _ _ _ _ ai l=>wpAny_pyIter_striter_ascii ai l,⟨_,cz _ rfl,rfl,rfl⟩,fin,q⟩
theorem WT(hl:PE X am (tP X F)):PI X tg am (tI X λY=>KZ (F Y)):=by
 intro U s Z H R I ⟨B,Y,hb,r,q⟩;refine eN (hl U s Z H (λx H1=>∃t,bo H H1/\Rep X.K (cn B H1) x t/\Fi X H (KZ (.ok t)) λts=>∀J H',bo H H'->lX X.K B J H' ts->R J H') I ⟨B,Y,hb,r,q.bind.mono λt n v H1 s1 r1=>⟨t,s1,r1,n⟩⟩) λv s1 ⟨x,H1,g,r1,t,l,rt,k⟩=>?_
 have k:Fi X H (match t with
  |.tup ts=>.ok ts
  |.lst ts=>.ok ts
  |.str z=>.ok (IE z)
  |_=>.bad) _:=k
 have fin:∀b∈[s1.heap.objs.size],kY X U H1 b:=λb hb=>by
  rw[de.mp hb];exact g.xW (bA _) (g.cW.fresh (bA _))
 split at k
 ·obtain⟨a,vs,rfl,h,rr⟩:=rt.dX;cases r1;obtain⟨cy,rv,p,hz⟩:=g.tuple (bo.tup bJ h);exact wpAny_pyIter_tuple (show s1.heap.IsTuple a cy.toArray from p) ⟨s1.heap.objs.size,[s1.heap.objs.size],_,_,H1,rfl,g.kept (t':=s1.toks) λb o e=>bS _ e,EN a _,⟨_,cz _ rfl,rfl,rfl⟩,fin,k _ H1 l (IF h rr)⟩
 ·obtain⟨a,vs,rfl,h,rr⟩:=rt.lst_inv;cases r1;obtain⟨cy,rv,p,hz⟩:=g.list (lT.of (bJ _ _ h));exact kP p.isList ⟨s1.heap.objs.size,[s1.heap.objs.size],_,_,H1,rfl,g.kept (t':=s1.toks) λb o e=>bS _ e,zS a _,⟨_,cz _ rfl,rfl,rfl⟩,fin,k _ H1 l (yp h rr)⟩
 ·obtain⟨rfl,_⟩:=rt.str_inv;obtain⟨t,rfl⟩:=(show∃t,v=Value.str _ t from r1);exact Ob g (k _ H1 l (IG _))
 ·exact k.elim
noncomputable def De(lo:Int)(n:Nat):List Tr:=(List.range n).map λk=>Tr.int (lo+(k:Nat))
def p4(lo:Int)(n:Nat):(De lo n).length=n:=by simp[De]
theorem Dg(lo:Int)(n:Nat):lX K B (ZU lo n) H (De lo n) where
 go:=λi B' H' hi _ _=>by rw[p4]at hi;exact hi
 Gs:=λi B' H' x b hi s hb ⟨e,y⟩=>by
  subst e;subst y;rw[p4]at hi;refine⟨bo.refl _,.int (lo+i),?_,.int _⟩;unfold De;rw[cq,List.getElem?_range hi]
  rfl
 stop:=λB' H' s=>by rw[p4];exact bA _
def GP(l:Rs (List Tr)):Rs (List Tr):=l.bind λts=>match ts with
 |[.int j]=>if-4611686018427387904<=j/\j<4611686018427387904 then .ok (De 0 j.toNat)else .bad
 |_=>.bad
def PI.weak {c5:Expr}{t t':TI}(h:PI X tg c5 t)(w:∀Z H R,t' Z H R->t Z H R):PI X tg c5 t':=λU s Z H R I q=>h U s Z H R I (w Z H R q)
theorem K0(hm:X.mg "range"=none)(ha:PA X [a] (C_ X L))(hg:Gl X "range":=by rfl) (hs:bC [a]=true:=by rfl):PI X tg (.Call (.Name "range" p) [a] [] pos) (tI X λY=>GP (L Y)):=
 (Ih hg hm ha (by rw[bO _ _ (bt hs).1];rfl)).weak λZ H R ⟨B,Y,hb,r,q⟩=>⟨B,Y,hb,r,q.bind.mono λts b vs H1 s1 g=>by
  split at b
  ·rename_i j;cases g with
   |cons l g=>
    cases l;cases g;split at b
    ·rename_i n;exact⟨j,rfl,by omega,by omega,b _ H1 s1 (Dg 0 _)⟩
    ·exact b.elim
  ·exact b.elim⟩
def Oc{α:Type}(r:Rs α):Rs α:=match r with
 |.ok a=>.ok a
 |_=>.bad
noncomputable def uA(ix:List (Option Nat))(Y:bX):bX:=ix.map λo=>match o with
 |none=>.no
 |some j=>match Y[j]? with
  |some (.sh t)=>.sh t
  |_=>.no
def cK.comp {B':fw}{H':Hp}{Y:bX}(ix:List (Option Nat))(h:cK K B H Z Y)(s:fj (cn B H) (cn B' H')):cK K B' H' (jw ix Z) (uA ix Y):=by
 have no:∀(i:Nat) (c:Cell),(uA ix Y)[i]?=some c->c=.no\/∃j t,ix[i]?=some (some j)/\Y[j]?=some (.sh t)/\c=.sh t:=λi c e=>by
  unfold uA at e;rw[cq]at e;cases q:ix[i]? with
  |none=>rw[q]at e;cases e
  |some o=>
   rw[q]at e;cases o with
   |none=>exact .inl (Option.some.inj e).symm
   |some j=>
    have l:(match Y[j]? with|some (Cell.sh t)=>Cell.sh t|_=>Cell.no)=c:=Option.some.inj e;split at l
    ·rename_i t b;exact .inr ⟨j,t,rfl,b,l.symm⟩
    ·exact .inl l.symm
 refine⟨by unfold uA jw;rw[bu,bu],λi t e=>?_,λi ts e=>?_,λi j ts us D _ e=>?_⟩
 ·rcases no i _ e with q|⟨j,u,n,b,g⟩
  ·cases q
  ·cases g;obtain⟨v,r,r1⟩:=h.sh j t b;refine⟨v,?_,r1.same s⟩;unfold jw;rw[cq,n];show some ((Z[j]?).join)=_;rw[r]
   rfl
 ·rcases no i _ e with q|⟨j,u,n,b,g⟩
  ·cases q
  ·cases g
 ·rcases no i _ e with q|⟨j,u,n,b,g⟩
  ·cases q
  ·cases g
def Fb(T:o4)(A:bX->Rs Bool)(F:bX->Rs Tr):List Tr->bX->Rs (List Tr)
 |[],_=>.ok []
 |t::ts,Y=>(Oc (T t Y)).bind λb=>(Oc (A b)).bind λk=>if k then(Oc (F b)).bind λy=>(Fb T A F ts b).bind λys=>.ok (y::ys)else Fb T A F ts b
def vX(ix:List (Option Nat))(T:o4)(A:bX->Rs Bool)(F:bX->Rs Tr)(l:Rs (List Tr))(Y:bX):Rs Tr:=l.bind λts=>if ts.length<=dZ then(Fb T A F ts (uA ix Y)).bind λys=>.ok (.lst ys)else .bad
def m_(B:fw)(D:Addr):fw:=⟨λb=>B.hd b||b==D,B.ix⟩
def k_{D:Addr}{o:HO}(hD:H D=none):fj (cn B H) (cn (m_ B D) (upd H D o)):=⟨λb u e=>by
 have g:=bJ b u e;have l:b≠D:=bV g hD;have r:B.hd b=false:=by
  cases q:B.hd b with
  |false=>rfl
  |true=>
   have n:(if B.hd b=true then none else H b)=some u:=e;rw[q,aY rfl]at n;cases n
 rw[gv (show(B.hd b||b==D)=false by rw[r,km l];rfl),bq l];exact g,λ_ _ e=>e⟩
def GQ{o:HO}(h:HB B H)(hD:H au=none):HB (m_ B au) (upd H au o):=λb e=>by
 by_cases q:b=au
 ·subst q;exact⟨o,bP⟩
 ·have g:(B.hd b||b==au)=true:=e;rw[km q,kT]at g;rw[bq q];exact h b g
def Aa:(m_ B au).hd au=true:=by show(B.hd au||au==au)=true;rw[bU,pK]
def uB{o:HO}:cn (m_ B au) (upd H au o)=cn (m_ B au) H:=by
 unfold cn;congr 1;funext b;by_cases q:b=au
 ·subst q;rw[aY Aa,aY Aa]
 ·rw[bq q]
theorem GR:vW B (m_ B au):=⟨λb e=>by show(B.hd b||b==au)=true;rw[e,Bool.true_or],λ_ _ e=>e⟩
def Dh:fj (cn (m_ B au) H) (cn B H):=yi GR
def fV(Y:bX):Prop:=∀(i:Nat) (ts:List Tr),Y[i]? ≠some (.ow ts)
def jT(T:o4):Prop:=∀t Y b,fV Y->T t Y=.ok b->fV b
theorem fV.set {Y:bX}(h:fV Y)(i:Nat)(t:Tr):fV (Y.set i (.sh t)):=λj ts e=>by
 rcases fU e with⟨_,_,q⟩|⟨_,q⟩
 ·cases q
 ·exact h j ts q
def fY(i:Nat):jT (gN i):=λt Y b h e=>by cases e;exact h.set i t
theorem GS:∀{is:List Nat} {ts:List Tr} {Y q:bX},fV Y->E_ is ts Y=.ok q->fV q
 |[],[],_,_,h,e=>by cases e;exact h
 |[],_::_,_,_,_,e=>by cases e
 |_::_,[],_,_,_,e=>by cases e
 |i::is,t::ts,_,_,h,e=>GS (is:=is) (ts:=ts) (h.set i t) e
def Fc(is:List Nat):jT (gT is):=λt Y b h e=>by
 cases t with
 |tup ts=>exact GS h e
 |_=>cases e
def wN(ix:List (Option Nat))(Y:bX):fV (uA ix Y):=λi ts e=>by
 unfold uA at e;rw[cq]at e;cases q:ix[i]? with
 |none=>rw[q]at e;cases e
 |some o=>
  rw[q]at e;cases o with
  |none=>cases e
  |some j=>
   have b:(match Y[j]? with|some (Cell.sh t)=>Cell.sh t|_=>Cell.no)=.ow ts:=Option.some.inj e;split at b<;>cases b
def Fd{r:Rs ag}{k:ag->Prop}(h:qX aB (Oc r) k):∃a,r=.ok a/\k a:=by
 cases r with
 |ok a=>exact⟨a,rfl,h⟩
 |_=>exact h.elim
inductive Qx(K:Frag)(F:bX->Rs Tr)(Z:St)(H:Hp)(Q:VK):Prop
 |mk (B:fw) (Y:bX):HB B H->cK K B H Z Y->(∃t,F Y=.ok t/\∀v H',bo H H'->Rep K (cn B H') v t->Q v H')->Qx K F Z H Q
inductive Qy(K:Frag)(F:bX->Rs Bool)(Z:St)(H:Hp)(Q:Bool->Hp->Prop):Prop
 |mk (B:fw) (Y:bX):HB B H->cK K B H Z Y->(∃b,F Y=.ok b/\∀H',bo H H'->Q b H')->Qy K F Z H Q
inductive Qz(K:Frag)(T:o4)(v:V)(Z:St)(H:Hp)(Q:St->Hp->Prop):Prop
 |mk (B:fw) (Y:bX) (t:Tr):HB B H->cK K B H Z Y->Rep K (cn B H) v t->(∃iG,T t Y=.ok iG/\∀dB H',bo H H'->cK K B H' dB iG->Q dB H')->Qz K T v Z H Q
def SA{Q:VK}:Qx X.K F Z H Q->tP X F Z H Q:=λ⟨B,Y,hb,r,t,e,q⟩=>⟨B,Y,hb,r,by rw[e];exact q⟩
def SD{Q:Bool->Hp->Prop}:Qy X.K aF Z H Q->tQ X aF Z H Q:=λ⟨B,Y,hb,r,t,e,q⟩=>⟨B,Y,hb,r,by rw[e];exact q⟩
def SE{T:o4}{v:V}{Q:St->Hp->Prop}:Qz X.K T v Z H Q->tG X T v Z H Q:=λ⟨B,Y,t,hb,r,rt,iG,e,q⟩=>⟨B,Y,t,hb,r,rt,by rw[e];exact q⟩
theorem wO{J:It}{D:Addr}{ZX:St}{Od:bX}{T:o4}{Q:Hp->Prop}(hT:jT T)(h0:fV Od)(hb:HB B H)(gt:lX K B J H ts)(hz:ts.length<=dZ)(r:cK K (m_ B D) (upd H D (.lst [])) ZX Od)(hD:H D=none)
  {k:List Tr->Prop} (q:qX aB (Fb T A F ts Od) k) (hQ:∀ys H',k ys->bo H H'->Rep K (cn B H') (.ref D) (.lst ys)->Q H'):LcW J D ZX (upd H D (.lst [])) (Qz K T) (Qy K A) (Qx K F) Q:=by
 refine⟨λi m Z H'=>m=ts.length - i/\i<=ts.length/\bo H H'/\HB (m_ B D) H'/\fj (cn B H) (cn (m_ B D) H')/\∃Y vs us,fV Y/\cK K (m_ B D) H' Z Y/\H' D=some (.lst vs)/\vs.length<=i/\bQ K (cn (m_ B D) H') vs us/\qX aB (Fb T A F (ts.drop i) Y) (λys=>k (us++ys)),
  ⟨_,rfl,d_ _,bo.upd hD,GQ hb hD,k_ hD,Od,[],[],h0,r,bP,bA _,.nil,q⟩,?_⟩
 rintro i m Z H' ⟨rfl,hi,sm,g,jR,Y,vs,us,no,rs,hd,hl,rv,M⟩
 by_cases S:i<ts.length
 ·rw[o8 S]at M;refine .inr ⟨gt.go i _ H' S jR g,λwL H2=>bo H H2/\HB (m_ B D) H2/\fj (cn B H) (cn (m_ B D) H2)/\∃Y vs us,fV Y/\cK K (m_ B D) H2 wL Y/\H2 D=some (.lst vs)/\vs.length<=i+1/\bQ K (cn (m_ B D) H2) vs us/\qX aB (Fb T A F (ts.drop (i+1)) Y) (λys=>k (us++ys)),
   λwL H2 h=>⟨ts.length - (i+1),by omega,rfl,S,h⟩,λx H2 hx=>?_⟩
  obtain⟨s2,t,et,rt⟩:=gt.Gs i _ H' x H2 S jR g hx;have SF:ts[i]=t:=by rw[bZ S]at et;exact Option.some.inj et
  rw[SF]at M;obtain⟨L,eT,q1⟩:=Fd (qX.bind M);have l:=hT t Y L no eT;refine⟨_,Y,t,g.same s2,rs.same s2,rt,L,eT,λNG H3 s3 r3=>?_⟩;have s23:=s2.trans s3;obtain⟨c,eA,qc⟩:=Fd (qX.bind q1);refine⟨_,L,g.same s23,r3,c,eA,λH4 s4=>?_⟩;have n:=s23.trans s4;have g4:bo H H4:=sm.trans n;cases c with
  |false=>
   exact Sj ⟨g4,g.same n,jR.trans (bL n),L,vs,us,l,r3.same s4,n _ _ hd,by omega,rv.same (bL n),qc⟩
  |true=>
   obtain⟨y,eF,qy⟩:=Fd (qX.bind qc);refine Sk ⟨_,L,g.same n,r3.same s4,y,eF,λv H5 s5 r5=>?_⟩;have WU:=n.trans s5;refine⟨vs,WU _ _ hd,by rw[<-je];omega,(sm.trans WU).Bh hD,?_,?_,L,vs++[v],us++[y],l,?_,bP,by rw[fm];exact Nat.add_le_add_right hl 1,?_,?_⟩
   ·intro b e;by_cases q:b=D
    ·subst q;exact⟨_,bP⟩
    ·rw[bq q];exact(g.same WU) b e
   ·rw[uB];exact jR.trans (bL WU)
   ·have I:=(r3.same s4).same s5;refine⟨I.len,λi t e=>?_,λi ts e=>(l i ts e).elim,I.ap⟩;rw[uB];exact I.sh i t e
   ·rw[uB];exact(rv.same (bL WU)).append (.cons r5 .nil)
   ·exact(qX.bind qy).mono λys q=>by rw[xy];exact q
 ·have e:i=ts.length:=by omega
  subst e;rw[pA]at M;refine .inl ⟨gt.stop _ H' jR,hQ us H' (by have:=(show k (us++[])from M);rw[kj]at this;exact this) sm (.lst ?_ (rv.same Dh))⟩;rw[gv (hb.free hD)];exact hd
variable {scope:Scope}{N':List Str}{ix:List (Option Nat)}{elt c5:Expr}{ifs:List Expr}{T:o4}{W:bX->Rs (List Tr)}
theorem WV:PF X [] (tQ X λ_=>.ok true):=λU s Z H Q I ⟨B,Y,hb,r,q⟩=>Sm U s Z H Q I (q H (bo.refl H))
def WW(h:PT X c (tQ X A)):PF X [c] (tQ X A):=Sn h
def Di{Q:VK}(hT:jT T)(q:tP X (λY=>vX ix T A F (W Y) Y) Z H Q):Vh (tI X W) ix (Qz X.K T) (Qy X.K A) (Qx X.K F) Z H Q:=by
 obtain⟨B,Y,hb,r,q⟩:=q;refine⟨B,Y,hb,r,q.bind.mono λts b J H1 s1 gt D g=>?_⟩;by_cases hz:ts.length<=dZ
 ·rw[aY hz]at b;exact wO hT (wN ix Y) (hb.same s1) gt hz ((r.same s1).comp ix (k_ g)) g (Fi.bind b) λys H' k s' l=>k _ H' (s1.trans s') l
 ·rw[bc hz]at b;exact b.elim
structure Oe(X:Cx)(scope:Scope)(N':List Str)(tg elt:Expr)(ifs:List Expr)(T:o4)(A:bX->Rs Bool)(F:bX->Rs Tr):Prop where
 all:∀s H ex,PG (uy X scope N' s H ex) tg (tG (uy X scope N' s H ex) T)/\PF (uy X scope N' s H ex) ifs (tQ (uy X scope N' s H ex) A)/\PE (uy X scope N' s H ex) elt (tP (uy X scope N' s H ex) F)
theorem Oe.Vl {F:bX->Rs Tr}(h:Oe X scope N' tg elt ifs T A F):∀s H ex,PG (uy X scope N' s H ex) tg (Qz X.K T)/\PF (uy X scope N' s H ex) ifs (Qy X.K A)/\PE (uy X scope N' s H ex) elt (Qx X.K F):=λs H ex=>by
 obtain⟨b,h2,g⟩:=h.all s H ex;exact⟨λU s Z H v u Q I r q=>b U s Z H v u Q I r (SE q),λU s Z H Q I q=>h2 U s Z H Q I (SD q),λU s Z H Q I q=>g U s Z H Q I (SA q)⟩
theorem aaS(Lk:g0 X N' ix scope)(hi:PI X tg c5 (tI X W))(lL:Oe X scope N' tg elt ifs T A F)(hT:jT T)(hc:X.calm=true:=by rfl) (hs:isSet c5=false:=by rfl):
  PE X (.ListComp elt [⟨tg,c5,ifs,0⟩] scope pos) (tP X λY=>vX ix T A F (W Y) Y):=
 (KL Lk hc hi lL.Vl (gK hs)).weak λZ H Q q=>Di hT q
theorem Of(Lk:g0 X N' ix scope)(hit:PI X tg c5 (tI X W))(lL:Oe X scope N' tg elt ifs T A F)(hT:jT T)(hN:X.N.Nodup:=by assumption) (hc:X.calm=true:=by rfl) (hi:X.N[i]?=some x:=by rfl) (hx:Loc X.env.scope x:=by first|exact Or.inl rfl|exact Or.inr rfl)
  (Iu:swapsWith (.ListComp elt [⟨tg,c5,ifs,0⟩] scope pos) (some (.Name x p)) b8.line X.env=pure true:=by rfl) (hs:isSet c5=false:=by rfl) (hf:zr X x:=by first|exact .inl rfl|exact .inr rfl|assumption):
  PS X (.Assign [.Name x p] (.ListComp elt [⟨tg,c5,ifs,0⟩] scope pos) b8) (tS X λY=>KW i (vX ix T A F (W Y) Y) Y):=
 (yg Lk hc hN hi hx hit lL.Vl Iu (gK hs) hf).weak λD Z H ⟨C,B0,H0,B,Y,b,r,q⟩=>Di hT (GL (F:=λY=>vX ix T A F (W Y) Y) b r q.bind λt v H1 g s1 l n I=>g _ B H1 l (n.set i I))
def dC(r:Rs Out):Rs Tr:=r.bind λo=>match o with
 |.nx _=>.ok .cA
 |.ret t=>.ok t
 |_=>.bad
def zt.okT {base:Heap}{qual:Str}{f:Addr}{fd:FuncData}{N:List Str}{k:Nat}(Fn:zt K x qual ai f fd)(S:hX N ps (bI ai))(len:∀ts t,h ts=.ok t->ts.length=ps.length)
  (kZ:∀(gn:Value) (A:Around) (outer:List Env) (s:Shared) (H:Hp) (E:XK),dk k (A.deeper (envOfC qual (bI ai) s.heap.objs.size f gn))->
   ∃G,o6 (oZ mH P w K mg base N qual (bI ai) f gn A outer s H E).JU (gc ai) (tS (oZ mH P w K mg base N qual (bI ai) f gn A outer s H E).JU G)/\∀ts t,h ts=.ok t->dC (G (startT N.length ts))=.ok t):eI P w K mg base mH (k+1) f fd ps (spT K h):=by
 refine Fn.ok S (λvs H Q E q=>?_) (λgn A outer s H vs Q E I q=>?_)
 ·obtain⟨B,ts,hb,r,t,e,_⟩:=q;rw[r.length];exact len ts t e
 ·obtain⟨B,ts,hb,r,t,e,q⟩:=q;obtain⟨G,L,M⟩:=kZ gn A outer s H E I;refine⟨_,L,B,B,H,B,startT N.length ts,eD.refl hb vW.refl,cK.start r,?_⟩;have b:=M ts t e;cases l:G (startT N.length ts)with
  |ok o=>
   rw[l]at b;cases o with
   |nx Y=>cases b;exact λdB B' H' g n=>q .cA H' g.same .cA
   |ret u=>cases b;exact λv B' H' g n=>q v H' g.same n
   |_=>cases b
  |_=>rw[l]at b;cases b
end
theorem Og:vh X (binaryOp .Add) (λx y H Q=>∃(a b:Addr) (xs ys:List V),x=.ref a/\y=.ref b/\ju X.K H a xs/\ju X.K H b ys/\xs.length+ys.length<=sizeLine/\(xs=[]->Q (.ref b) H)/\(ys=[]->Q (.ref a) H)/\∀p,H p=none->Q (.ref p) (upd H p (.tup (xs++ys)))):=by
 intro U s Z H x y v u Q I g l h;obtain⟨a,b,xs,ys,rfl,rfl,ha,hb,hz,L,M,S⟩:=h;by_cases r:xs=[]
 ·subst r;cases(show v=Value.ref a from g);cases(show u=Value.ref b from l);obtain⟨i1,r1,p1,_⟩:=I.tuple ha;obtain⟨i2,r2,p2,_⟩:=I.tuple hb;cases r1;obtain⟨dd,n,sl,h1⟩:=vo p1;obtain⟨q,n2,ZC,h2⟩:=vo p2;exact concat_meets ⟨_,h1,rfl⟩ ⟨_,h2,rfl⟩ noFill_tuple_add seq_tuple_add PySem.F.slot_tuple_add PySem.F.entry_tuple_add (PySem.F.args_tuple_add_2 _ _) (tuple_addW0 a b _ _ n n2 dd q sl ZC rfl) ⟨h1,h2,⟨.ref b,H,I,rfl,L rfl⟩⟩
 ·exact NQ U s Z H _ _ v u Q I g l ⟨a,b,xs,ys,rfl,rfl,ha,hb,r,hz,M,λ_ p hp=>S p hp⟩
def Rep.up {v:V}{t:Tr}(r:Rep K (cn B H) v t):Rep K (raw B H) v t:=r.same fL
def ju.up {xs:List V}(h:ju K (cn B H) a xs):ju K H a xs:=bo.tup bJ h
def eB{o:HO}(h:cn B H a=some o):H a=some o:=bJ _ _ h
def Rep.SH {p:Addr}{vs:List V}(hb:HB B H)(hp:H p=none)(r:bQ K (cn B H) vs ts):Rep K (cn B (upd H p (.tup vs))) (.ref p) (.tup ts):=.tup (.of (hb.new hp)) (r.same (bL (bo.upd hp)))
def Rep.zD {p:Addr}{vs:List V}(hb:HB B H)(hp:H p=none)(r:bQ K (cn B H) vs ts):Rep K (cn B (upd H p (.lst vs))) (.ref p) (.lst ts):=.lst (hb.new hp) (r.same (bL (bo.upd hp)))
def Dj{H:Vw}(h:bQ K H [] ts):ts=[]:=by cases h;rfl
def SI(h:x.length+av.length<=cZ):(x++av).length<=cZ:=by rw[o9];exact h
def vp:Tr->Tr->Rs Tr
 |.int i,.int j=>.ok (.int (i+j))
 |.str a,.str b=>if a.length+b.length<=cZ then .ok (.str (a++b))else .bad
 |.tup a,.tup b=>if a.length+b.length<=dZ then .ok (.tup (a++b))else .bad
 |.lst a,.lst b=>if a.length+b.length<=dZ then .ok (.lst (a++b))else .bad
 |_,_=>.bad
def gR{c:Prop}[Decidable c]{t:ag}{k:ag->Prop}(h:Fi X H (if c then Rs.ok t else .bad) k):c/\k t:=by
 by_cases b:c
 ·rw[aY b]at h;exact⟨b,h⟩
 ·rw[bc b]at h;exact h.elim
theorem iP:Cz X (binaryOp .Add) vp:=by
 intro U s Z H x y v u Q I n r ⟨B,tx,ty,hb,r1,r2,q⟩;unfold vp at q;split at q
 ·exact RN U s Z H _ _ v u Q I n r ⟨_,_,r1.int_inv,r2.int_inv,q _ H (bo.refl H) (.int _)⟩
 ·have f:=gR q;exact EU U s Z H _ _ v u Q I n r ⟨_,_,r1.str_inv.1,r2.str_inv.1,cB f.1 lV,f.2 _ H (bo.refl H) (.str _ (SI f.1))⟩
 ·have f:=gR q;obtain⟨a,as,L,h1,g⟩:=r1.dX;obtain⟨b,bs,M,h2,l⟩:=r2.dX;exact Og U s Z H _ _ v u Q I n r ⟨_,_,_,_,L,M,h1.up,h2.up,by rw[g.length,l.length,<-je];exact f.1,λe=>f.2 _ H (bo.refl H) (by subst e;rw[Dj g,<-M];exact r2),λe=>f.2 _ H (bo.refl H) (by subst e;rw[Dj l,kj,<-L];exact r1),λp hp=>f.2 _ _ (bo.upd hp) (.SH hb hp (g.append l))⟩
 ·have f:=gR q;obtain⟨a,as,L,h1,g⟩:=r1.lst_inv;obtain⟨b,bs,M,h2,l⟩:=r2.lst_inv;exact Kw U s Z H _ _ v u Q I n r ⟨_,_,_,_,L,M,eB h1,eB h2,by rw[g.length,l.length,<-je];exact f.1,λp hp=>f.2 _ _ (bo.upd hp) (.zD hb hp (g.append l))⟩
 ·exact fe q
noncomputable def IH:Tr->Tr->Rs Tr
 |.int i,.int j=>if 0<j then .ok (.int (i % j))else .bad
 |_,_=>.bad
theorem Dk:Cz X (binaryOp .Mod) IH:=by
 intro U s Z H x y v u Q I b g ⟨B,tx,ty,hb,r1,r2,q⟩;unfold IH at q;split at q
 ·have f:=gR q;exact RP U s Z H _ _ v u Q I b g ⟨_,_,r1.int_inv,r2.int_inv,f.1,f.2 _ H (bo.refl H) (.int _)⟩
 ·exact fe q
def yq(i j:Int):Prop:=(-18446744073709551616<i/\i<18446744073709551616)\/(-18446744073709551616<j/\j<18446744073709551616)
def yq.cm {i j:Int}(h:yq i j):Kj i j:=by
 unfold yq at h;unfold Kj;omega
instance (i j:Int):Decidable (yq i j):=by unfold yq;infer_instance
def II:Tr->Tr->Rs Tr
 |.int i,.int j=>if yq i j then .ok (.int (i*j))else .bad
 |.str z,.int n=>if 0<=n/\n<=1000/\z.length<=1000 then .ok (.str (Txt.mul z n))else .bad
 |.lst ts,.int n=>if 0<=n/\n<=1000/\ts.length*n.toNat<=dZ then .ok (.lst (List.replicate n.toNat ts).flatten)else .bad
 |_,_=>.bad
def Oh:vh X (binaryOp .Mult) (λx y H Q=>∃(l:Addr) (k:Int) (xs:List V),x=.ref l/\y=.int k/\H l=some (.lst xs)/\-(2 ^63)<=k/\k<2 ^63/\xs.length*k.toNat<=sizeLine/\∀p,H p=none->Q (.ref p) (upd H p (.lst (List.replicate k.toNat xs).flatten))):=R7
def Oi{n:Int}(h0:0<=n)(q:n<=1000)(hz:x.length<=1000):(Txt.mul x n).length<=cZ:=by
 have e:=PyProof.Rows.len_mul x n;split at e
 ·have:((Txt.mul x n).length:Int)=0:=e;unfold cZ;omega
 ·have h2:(x.length:Int)*n<=1000*1000:=Int.mul_le_mul (by omega) q h0 (by decide);have b:((Txt.mul x n).length:Int)=(x.length:Int)*n:=e;unfold cZ;omega
theorem K1:Cz X (binaryOp .Mult) II:=by
 intro U s Z H x y v u Q I b g ⟨B,tx,ty,hb,r1,r2,q⟩;unfold II at q;split at q
 ·have f:=gR q;exact RO U s Z H _ _ v u Q I b g ⟨_,_,r1.int_inv,r2.int_inv,f.1.cm,f.2 _ H (bo.refl H) (.int _)⟩
 ·have f:=gR q;exact N6 U s Z H _ _ v u Q I b g ⟨_,_,r1.str_inv.1,r2.int_inv,PyProof.Rows.mulOk_of 1000 1000 f.1.2.2 f.1.2.1 (Int.le_trans (by decide) f.1.1) (by decide) (by decide),f.2 _ H (bo.refl H) (.str _ (Oi f.1.1 f.1.2.1 f.1.2.2))⟩
 ·have f:=gR q;obtain⟨a,as,n,h1,l⟩:=r1.lst_inv;exact Oh U s Z H _ _ v u Q I b g ⟨_,_,_,n,r2.int_inv,eB h1,Int.le_trans (by decide) f.1.1,Int.lt_of_le_of_lt f.1.2.1 (by decide),by rw[l.length,<-je];exact f.1.2.2,λp hp=>f.2 _ _ (bo.upd hp) (.zD hb hp (l.rep _))⟩
 ·exact fe q
mutual
noncomputable def eqT:Tr->Tr->Bool
 |.cA,.cA=>true
 |.bl a,.bl b=>a==b
 |.bl a,.int b=>(if a then 1 else 0)==b
 |.int a,.bl b=>a==(if b then 1 else 0)
 |.int a,.int b=>a==b
 |.str a,.str b=>a==b
 |.tup a,.tup b=>Fe a b
 |.lst a,.lst b=>Fe a b
 |_,_=>false
noncomputable def Fe:List Tr->List Tr->Bool
 |[],[]=>true
 |x::xs,y::ys=>eqT x y&&Fe xs ys
 |_,_=>false
end
mutual
noncomputable def sH:Tr->Bool
 |.cA=>true
 |.bl _=>true
 |.int _=>true
 |.str _=>true
 |.tup ts=>yr ts
 |.lst ts=>yr ts
 |_=>false
noncomputable def yr:List Tr->Bool
 |[]=>true
 |t::ts=>sH t&&yr ts
end
mutual
noncomputable def dT:Tr->Nat
 |.tup ts=>SJ ts+1
 |.lst ts=>SJ ts+1
 |_=>0
noncomputable def SJ:List Tr->Nat
 |[]=>0
 |t::ts=>max (dT t) (SJ ts)
end
theorem p5:∀{ts:List Tr},yr ts=true->∀t∈ts,sH t=true
 |[],_,t,h=>nomatch h
 |u::us,h,t,m=>by
  rw[yr,bY]at h;rcases bH.mp m with rfl|m
  ·exact h.1
  ·exact p5 h.2 t m
theorem Bm:∀{ts:List Tr},∀t∈ts,dT t<=SJ ts
 |[],t,h=>nomatch h
 |u::us,t,m=>by
  rw[SJ];rcases bH.mp m with rfl|m
  ·exact Nat.le_max_left _ _
  ·exact cB (Bm t m) (Nat.le_max_right _ _)
theorem Dl:∀(xs ys:List Tr),((List.range (min xs.length ys.length)).all (λj=>eqT (xs.getD j .cA) (ys.getD j .cA))&&xs.length==ys.length)=Fe xs ys
 |[],[]=>rfl
 |[],y::ys=>rfl
 |x::xs,[]=>rfl
 |x::xs,y::ys=>by
  have b:=Dl xs ys;rw[Fe,<-b,dA,dA,Nat.succ_min_succ,List.range_succ_eq_map,iN,pL,Bool.and_assoc];congr 1;have g:(xs.length+1==ys.length+1)=(xs.length==ys.length):=by rw[tX,fu,fu];omega
  rw[g]
  rfl
def Oj{u:Value}{k:Bool}(q:∀b t,af≠Value.float b t)(hs:af=u->k=true)(h:SeqAt.RcAt A s af u k):SeqAt.EqAt A s af u k:=λprog w E Q g=>by
 unfold eqBool;refine fK ?_
 refine mV (λl=>?_) (λ_=>?_)
 ·rw[hs (eq_of_beq l)]at g;exact aU (fP (bg g))
 ·cases af with
  |float b t=>exact absurd rfl (q b t)
  |_=>exact aU (h prog w E _ (pB g))
section
variable {rS:Addr->Option Nat}
theorem vY(I:Inv X U Z H s){ws:List V}(q:ju X.K H a ar)(h2:H a=some (.lst ws)):False:=by
 obtain⟨_,_,⟨o,e,c,_⟩,_⟩:=I.tuple q;obtain⟨_,cy,n,_,b⟩:=I.cW a _ h2;rw[e]at b;cases b;exact absurd c (by show¬(Value.type "list"=.type "tuple");decide+kernel)
noncomputable def vT:V->Tr
 |.cA=>.cA
 |.bl b=>.bl b
 |.int i=>.int i
 |.str z=>.str z
 |_=>.at 0
def p7{W:Vw}{x:V}{t:Tr}(r:Rep K W x t)(p:sH t=true):(∃ts,t=.tup ts)\/(∃ts,t=.lst ts)\/t=vT x:=by
 cases r<;>first|(cases p;done)|exact .inr (.inr rfl)|exact .inl ⟨_,rfl⟩|exact .inr (.inl ⟨_,rfl⟩)
def uC{W:Vw}{x:V}{t':Tr}(e:aC=vT x)(p:sH aC=true)(p':sH t'=true)(q:Rep K W x t'):aC=t':=by
 rcases p7 q p' with⟨ts,rfl⟩|⟨ts,rfl⟩|b
 ·obtain⟨a,_,rfl,_⟩:=q.dX;rw[e]at p;cases p
 ·obtain⟨a,_,rfl,_⟩:=q.lst_inv;rw[e]at p;cases p
 ·rw[e,b]
theorem Ol(I:Inv X U Z H s):∀(n:Nat) {x:V} {t t':Tr},dT t<=n->sH t=true->sH t'=true->Rep X.K (⟨H,rS⟩:Vw) x t->Rep X.K (⟨H,rS⟩:Vw) x t'->t=t':=by
 intro n
 induction n with
 |zero=>
  intro x t t' hd p p' r b;rcases p7 r p with⟨ts,rfl⟩|⟨ts,rfl⟩|e
  ·exact absurd hd (Nat.not_succ_le_zero _)
  ·exact absurd hd (Nat.not_succ_le_zero _)
  ·exact uC e p p' b
 |succ n ih=>
  intro x t t' hd p p' r b;have go:∀{vs:List V} {ts Ac:List Tr},SJ ts<=n->yr ts=true->yr Ac=true->bQ X.K (⟨H,rS⟩:Vw) vs ts->bQ X.K (⟨H,rS⟩:Vw) vs Ac->ts=Ac:=by
   intro vs ts Ac k1 k2 k3;have l:=λt m=>cB (Bm (ts:=ts) t m) k1;have h2:=p5 k2;have L:=p5 k3
   clear hd p p' r b k1 k2 k3
   induction vs generalizing ts Ac with
   |nil=>intro q q';cases q;cases q';rfl
   |cons v vs M=>
    intro(.cons qh qr) (.cons S qr');rw[List.forall_mem_cons]at l h2 L;rw[ih l.1 h2.1 L.1 qh S,M l.2 h2.2 L.2 qr qr']
  rcases p7 r p with⟨ts,rfl⟩|⟨ts,rfl⟩|e
  ·rcases p7 b p' with⟨Ac,rfl⟩|⟨Ac,rfl⟩|e
   ·obtain⟨a,vs,rfl,h,rr⟩:=r.dX;obtain⟨_,Om,e,h',g⟩:=b.dX;cases e;cases I.qW h h';rw[go (xm hd) p p' rr g]
   ·obtain⟨a,vs,rfl,h,rr⟩:=r.dX;obtain⟨_,Om,e,h',g⟩:=b.lst_inv;cases e;exact(vY I h h').elim
   ·exact(uC e p' p r).symm
  ·rcases p7 b p' with⟨Ac,rfl⟩|⟨Ac,rfl⟩|e
   ·obtain⟨a,vs,rfl,h,rr⟩:=r.lst_inv;obtain⟨_,Om,e,h',g⟩:=b.dX;cases e;exact(vY I h' h).elim
   ·obtain⟨a,vs,rfl,h,rr⟩:=r.lst_inv;obtain⟨_,Om,e,h',g⟩:=b.lst_inv;cases e;cases h.symm.trans h';rw[go (xm hd) p p' rr g]
   ·exact(uC e p' p r).symm
  ·exact uC e p p' b
mutual
theorem Dn:∀{t:Tr},sH t=true->eqT t t=true
 |.cA,_=>rfl
 |.bl b,_=>by rw[eqT];exact bU b
 |.int i,_=>by rw[eqT];exact bU i
 |.str z,_=>by rw[eqT];exact bU z
 |.tup ts,h=>by rw[eqT];rw[sH]at h;exact vq h
 |.lst ts,h=>by rw[eqT];rw[sH]at h;exact vq h
 |.ty _,h=>by cases h
 |.vU _,h=>by cases h
 |.bW _,h=>by cases h
 |.at _,h=>by cases h
 |.vV _,h=>by cases h
 |.ob _ _,h=>by cases h
 |.z6 _,h=>by cases h
theorem vq:∀{ts:List Tr},yr ts=true->Fe ts ts=true
 |[],_=>rfl
 |t::ts,h=>by
  rw[yr,bY]at h;rw[Fe,Dn h.1,vq h.2]
  rfl
end
def GV{l:List ag}{x d:ag}(h:l[i]?=some x):l.getD i d=x:=by rw[eQ,h];rfl
inductive Sh(K:Frag)(G:Vw)(h:Heap):Tr->Value->Prop
 |cA:Sh K G h .cA .none
 |bl (b:Bool):Sh K G h (.bl b) (.bool b)
 |int (b:Int) (w:Tok):Sh K G h (.int b) (.int b w)
 |str (b:Str) (w:Tok):Sh K G h (.str b) (.str b w)
 |tup {a:Addr} {vs:List V} {ts:List Tr} {us:List Value} (q:h.IsTuple a us.toArray) (rr:bQ K G vs ts) (rv:Vals vs us):Sh K G h (.tup ts) (.ref a)
 |lst {a:Addr} {vs:List V} {ts:List Tr} {us:List Value} (q:h.IsList a us.toArray) (rr:bQ K G vs ts) (rv:Vals vs us):Sh K G h (.lst ts) (.ref a)
def Bo(I:Inv X U Z H s){x:V}{v:Value}{t:Tr}(p:sH t=true)(r:Rep X.K (⟨H,rS⟩:Vw) x t)(rx:RelV x v):Sh X.K ⟨H,rS⟩ s.heap t v:=by
 cases r with
 |cA=>cases(show v=Value.none from rx);exact .cA
 |bl b=>cases(show v=Value.bool b from rx);exact .bl b
 |int b=>obtain⟨w,rfl⟩:=(show∃t,v=Value.int b t from rx);exact .int b w
 |str b _=>obtain⟨w,rfl⟩:=(show∃t,v=Value.str b t from rx);exact .str b w
 |@tup a _ _ h g=>cases(show v=Value.ref a from rx);obtain⟨_,rv,q,_⟩:=I.tuple h;exact .tup q g rv
 |@lst a _ _ h g=>cases(show v=Value.ref a from rx);obtain⟨_,rv,q,_⟩:=I.list (.of h);exact .lst q.isList g rv
 |_=>cases p
def GW(I:Inv X U Z H s)(n:Nat){x y:V}{u:Value}{t:Tr}(hd:dT t<=n)(p:sH t=true)(p':sH aC=true)(r:Rep X.K (⟨H,rS⟩:Vw) x t)(r':Rep X.K (⟨H,rS⟩:Vw) y aC)(rx:RelV x af)(ry:RelV y u)(q:SeqAt.RcAt A s af u (eqT t aC)):SeqAt.EqAt A s af u (eqT t aC):=by
 refine Oj (λb t e=>?_) (λe=>?_) q
 ·subst e;cases r<;>first|(obtain⟨_,z⟩:=rx;cases z;done)|(cases rx;done)
 subst e;rw[rx.inj ry]at r;rw[<-Ol I n hd p p' r r'];exact Dn p
def GX{G:Vw}{A:Around}{u:Value}{t:Tr}(S:Sh K G s.heap t af)(S':Sh K G s.heap aC u)(q:A.units<cLine):(SeqAt.RcAt A s af u (eqT t aC)/\SeqAt.RcNeAt A s af u (!eqT t aC))\/∃ts Ac,(t=.tup ts/\aC=.tup Ac)\/(t=.lst ts/\aC=.lst Ac):=by
 cases S<;>cases S'<;>first|exact .inr ⟨_,_,.inl ⟨rfl,rfl⟩⟩|exact .inr ⟨_,_,.inr ⟨rfl,rfl⟩⟩|(refine .inl ⟨?_,?_⟩<;>simp only[eqT,d9,dg]<;>with_reducible first|exact .none_none|exact .none_bool _|exact .none_int _ _|exact .none_str _ _|exact .none_tuple ‹_› q|exact .none_list ‹_› q|exact .bool_none _|exact .bool_bool _ _|exact .bool_int _ _ _|exact .bool_str _ _ _|exact .bool_tuple _ ‹_› q|exact .bool_list _ ‹_› q|exact .int_none _ _|exact .int_bool _ _ _|exact .int_int _ _ _ _|exact .int_str _ _ _ _|exact .int_tuple _ _ ‹_› q|exact .int_list _ _ ‹_› q|exact .str_none _ _|exact .str_bool _ _ _|exact .str_int _ _ _ _|exact .str_str _ _ _ _|exact .str_tuple _ _ ‹_› q|exact .str_list _ _ ‹_› q|exact .tuple_none ‹_› q|exact .tuple_bool _ ‹_› q|exact .tuple_int _ _ ‹_› q|exact .tuple_str _ _ ‹_› q|exact .tuple_list ‹_› ‹_› q|exact .list_none ‹_› q|exact .list_bool _ ‹_› q|exact .list_int _ _ ‹_› q|exact .list_str _ _ ‹_› q|exact .list_tuple ‹_› ‹_› q)
theorem SK(I:Inv X U Z H s):∀(n:Nat) {A:Around} {x y:V} {v u:Value} {t t':Tr},dT t<=n->sH t=true->sH t'=true->Rep X.K (⟨H,rS⟩:Vw) x t->Rep X.K (⟨H,rS⟩:Vw) y t'->RelV x v->RelV y u->A.units+n<cLine->SeqAt.RcAt A s v u (eqT t t')/\SeqAt.RcNeAt A s v u (!eqT t t'):=by
 intro n
 induction n with
 |zero=>
  intro A x y v u t t' hd p p' r r' rx ry hu;rcases GX (Bo I p r rx) (Bo I p' r' ry) (A:=A) (by omega)with h|⟨_,_,⟨rfl,_⟩|⟨rfl,_⟩⟩
  ·exact h
  all_goals exact absurd hd (by rw[dT];omega)
 |succ n ih=>
  intro A x y v u t t' hd p p' r r' rx ry hu;have M:A.units<cLine:=by omega
  have a8:∀{vs Om:List V} {us Fg:List Value} {ts Ac:List Tr},SJ ts<=n->yr ts=true->yr Ac=true->bQ X.K (⟨H,rS⟩:Vw) vs ts->bQ X.K (⟨H,rS⟩:Vw) Om Ac->Vals vs us->Vals Om Fg->∀(j:Nat) (h1:j<us.toArray.size) (h2:j<Fg.toArray.size),
    SeqAt.EqAt A.in1 s us.toArray[j] Fg.toArray[j] (eqT (ts.getD j .cA) (Ac.getD j .cA)):=by
   intro vs Om us Fg ts Ac d1 q1 q2 g L rv b j h1 h2;replace h1:j<us.length:=h1;replace h2:j<Fg.length:=h2;have k1:=bZ (Nat.lt_of_lt_of_eq h1 rv.length.symm);have k2:=bZ (Nat.lt_of_lt_of_eq h2 b.length.symm);obtain⟨t1,e1,p1⟩:=g.yh k1;obtain⟨t2,e2,p2⟩:=L.yh k2;obtain⟨w1,f1,g1⟩:=rv.get k1;obtain⟨w2,f2,g2⟩:=b.get k2;rw[bZ h1]at f1;rw[bZ h2]at f2;rw[List.getElem_toArray,List.getElem_toArray,Option.some.inj f1,Option.some.inj f2,GV e1,GV e2];have m1:=d8 e1;have q2:=p5 q2 _ (d8 e2);have q1:=p5 q1 _ m1;have d:=cB (Bm _ m1) d1;exact GW I n d q1 q2 p1 p2 g1 g2 (ih d q1 q2 p1 p2 g1 g2 (by show A.units+1+n<cLine;omega)).1
  have S:=Bo I p r rx;have S':=Bo I p' r' ry;rcases GX S S' M with h|⟨ts,Ac,⟨rfl,rfl⟩|⟨rfl,rfl⟩⟩
  ·exact h
  all_goals
   rw[dT]at hd;have it:=λ{vs Om us Fg}=>@a8 vs Om us Fg _ _ (Nat.le_of_add_le_add_right hd) p p';have e:=Dl ts Ac;rw[eqT]
  ·cases S with|tup q g rv=>
   cases S' with|tup q' L b=>
   rw[<-e,<-g.length,<-L.length,rv.length,b.length];exact⟨.tuples q q' M (it g L rv b),.tuples q q' M (it g L rv b)⟩
  cases S with|lst q g rv=>
  cases S' with|lst q' L b=>
  have l:=g.length;have l':=L.length;rw[rv.length]at l;rw[b.length]at l';by_cases hz:ts.length=Ac.length
  ·rw[hz,Nat.min_self,bU,Bool.and_true,<-hz,<-l]at e;rw[<-e];exact⟨.lists q q' (by simp;omega) M (it g L rv b),.lists q q' (by simp;omega) M (it g L rv b)⟩
  ·rw[km hz,xM]at e;rw[<-e];exact⟨.lists_lengths q q' (by simp;omega) M,.lists_lengths q q' (by simp;omega) M⟩
end
def eqC(a b:Tr):Rs Tr:=if sH a=true/\sH b=true/\dT a<=40 then .ok (.bl (eqT a b))else .bad
theorem d5(hu:X.A.units+40<cLine):Cz X (compareOp .Eq) eqC:=by
 intro U s Z H x y v u Q I b g ⟨B,tx,ty,hb,r1,r2,q⟩;obtain⟨⟨p1,p2,hd⟩,k⟩:=gR q;exact(SK I 40 hd p1 p2 r1.up r2.up b g hu).1 _ _ _ _ ⟨.bl _,H,I,rfl,k _ H (bo.refl H) (.bl _)⟩
section
variable {rS:Addr->Option Nat}
def K2(I:Inv X U Z H s)(n:Nat){x y:V}{u:Value}{t:Tr}(hd:dT t<=n)(p:sH t=true)(p':sH aC=true)(r:Rep X.K (⟨H,rS⟩:Vw) x t)(q:Rep X.K (⟨H,rS⟩:Vw) y aC)(rx:RelV x af)(ry:RelV y u)(hu:A.units+n<cLine):SeqAt.EqAt A s af u (eqT t aC):=
 GW I n hd p p' r q rx ry (SK I n hd p p' r q rx ry hu).1
end
def Ny(a b:Tr):Rs Tr:=if sH a=true/\sH b=true/\dT a<=40 then .ok (.bl (!eqT a b))else .bad
theorem IK(hu:X.A.units+40<cLine):Cz X (compareOp .NotEq) Ny:=by
 intro U s Z H x y v u Q I b g ⟨B,tx,ty,hb,r1,r2,q⟩;obtain⟨⟨p1,p2,hd⟩,k⟩:=gR q;exact(SK I 40 hd p1 p2 r1.up r2.up b g hu).2 _ _ _ _ ⟨.bl _,H,I,rfl,k _ H (bo.refl H) (.bl _)⟩
noncomputable def ltC:Tr->Tr->Rs Tr
 |.int i,.int j=>.ok (.bl (decide (i<j)))
 |.str a,.str b=>.ok (.bl (decide (a.cps.toList<b.cps.toList)))
 |_,_=>.bad
noncomputable def leC:Tr->Tr->Rs Tr
 |.int i,.int j=>.ok (.bl (decide (i<=j)))
 |.str a,.str b=>.ok (.bl (!(decide (b.cps.toList<a.cps.toList))))
 |_,_=>.bad
def gtC:Tr->Tr->Rs Tr
 |.int i,.int j=>.ok (.bl (decide (j<i)))
 |_,_=>.bad
def geC:Tr->Tr->Rs Tr
 |.int i,.int j=>.ok (.bl (decide (j<=i)))
 |_,_=>.bad
theorem K3:Cz X (compareOp .Lt) ltC:=by
 intro U s Z H x y v u Q I b g ⟨B,tx,ty,hb,r1,r2,q⟩;unfold ltC at q;split at q
 ·exact VY U s Z H _ _ v u Q I b g ⟨_,_,r1.int_inv,r2.int_inv,q _ H (bo.refl H) (.bl _)⟩
 ·exact Ij U s Z H _ _ v u Q I b g ⟨_,_,r1.str_inv.1,r2.str_inv.1,q _ H (bo.refl H) (.bl _)⟩
 ·exact fe q
theorem aaT:Cz X (compareOp .LtE) leC:=by
 intro U s Z H x y v u Q I b g ⟨B,tx,ty,hb,r1,r2,q⟩;unfold leC at q;split at q
 ·exact VZ U s Z H _ _ v u Q I b g ⟨_,_,r1.int_inv,r2.int_inv,q _ H (bo.refl H) (.bl _)⟩
 ·exact Iw U s Z H _ _ v u Q I b g ⟨_,_,r1.str_inv.1,r2.str_inv.1,q _ H (bo.refl H) (.bl _)⟩
 ·exact fe q
theorem SM:Cz X (compareOp .Gt) gtC:=by
 intro U s Z H x y v u Q I b g ⟨B,tx,ty,hb,r1,r2,q⟩;unfold gtC at q;split at q
 ·exact V0 U s Z H _ _ v u Q I b g ⟨_,_,r1.int_inv,r2.int_inv,q _ H (bo.refl H) (.bl _)⟩
 ·exact fe q
theorem SN:Cz X (compareOp .GtE) geC:=by
 intro U s Z H x y v u Q I b g ⟨B,tx,ty,hb,r1,r2,q⟩;unfold geC at q;split at q
 ·exact V1 U s Z H _ _ v u Q I b g ⟨_,_,r1.int_inv,r2.int_inv,q _ H (bo.refl H) (.bl _)⟩
 ·exact fe q
noncomputable def Z2:Tr->Bool
 |.cA=>true
 |_=>false
def GY{H:Vw}{x:V}{t:Tr}(r:Rep K H x t):decide (x=.cA)=Z2 t:=by
 cases r<;>rfl
def GZ:Tr->Tr->Rs Tr
 |a,.cA=>.ok (.bl (Z2 a))
 |.bl a,.bl b=>.ok (.bl (a==b))
 |_,_=>.bad
theorem Dp:Cz X (compareOp .Is) GZ:=by
 intro U s Z H x y v u Q I b g ⟨B,tx,ty,hb,r1,r2,q⟩;unfold GZ at q;split at q
 ·exact RR U s Z H _ _ v u Q I b g ⟨r2.N7,by rw[GY r1];exact q _ H (bo.refl H) (.bl _)⟩
 ·exact Sq U s Z H _ _ v u Q I b g ⟨_,_,r1.ym,r2.ym,q _ H (bo.refl H) (.bl _)⟩
 ·exact fe q
noncomputable def e_(bE:List (Key×Tr))(k:Key):Option Tr:=(bE.find? λb=>decide (b.1=k)).map (·.2)
noncomputable def ko:Tr->Option Key
 |.int i=>some (.inl i)
 |.str z=>some (.inr z)
 |_=>none
def nY{H:Vw}{x:V}{k:Key}(r:Rep K H x aC)(e:ko aC=some k):x=kV k:=by
 cases r with
 |int i=>cases e;rfl
 |str z h=>cases e;rfl
 |_=>cases e
theorem qZ{H:Vw}(k:Key):∀{kvs:List (Key×V)} {bE:List (Key×Tr)},kvs.map (·.1)=bE.map (·.1)->bQ K H (kvs.map (·.2)) (bE.map (·.2))->(e_ bE k=none/\m7 kvs k=none)\/∃t v,e_ bE k=some t/\m7 kvs k=some v/\Rep K H v t
 |[],[],_,_=>.inl ⟨rfl,rfl⟩
 |[],_::_,e,_=>by cases e
 |_::_,[],e,_=>by cases e
 |(k1,v1)::kvs,(k2,b)::bE,e,r=>by
  rw[bB,bB]at e;injection e with g l
  have n:k1=k2:=g;subst n;cases r with
  |cons h r=>
   by_cases q:k1=k
   ·refine .inr ⟨b,v1,?_,uq q,h⟩;unfold e_;rw[kl,hU (show(k1,b).1=k from q)]
    rfl
   ·rw[ur q];have I:e_ ((k1,b)::bE) k=e_ bE k:=by
     unfold e_;rw[kl,fo (show¬(k1,b).1=k from q)]
    rw[I];exact qZ k l r
def yt{H:Vw}{y:V}{t:Tr}{k:Key}(h:Rd H.H a (.dK kvs))(e:kvs.map (·.1)=aG.map (·.1))(r:bQ K H (kvs.map (·.2)) (aG.map (·.2)))(q:Rep K H y t)(hk:ko t=some k):
  ∃o,pX H a y o/\((e_ aG k=none/\o=none)\/∃t v,e_ aG k=some t/\o=some v/\Rep K H v t):=by
 have b:=nY q hk;subst b;refine⟨_,.inl ⟨kvs,k,h,rfl,rfl⟩,?_⟩;rcases qZ k e r with⟨h1,h2⟩|⟨t,v,h1,h2,g⟩
 ·exact .inl ⟨h1,h2⟩
 ·exact .inr ⟨t,v,h1,h2,g⟩
def yu:Tr->Bool
 |.cA=>true
 |.bl _=>true
 |.int _=>true
 |.str _=>true
 |_=>false
def eU(x:Tr)(u:Value):Bool:=match u with
 |.none=>eqT .cA x
 |.bool b=>eqT (.bl b) x
 |.int i _=>eqT (.int i) x
 |.str z _=>eqT (.str z) x
 |_=>false
theorem Fh{H:Vw}{y:V}{t x:Tr}(r:Rep K H y t)(f:yu t=true)(q:RelV y af):eU x af=eqT t x:=by
 cases r with
 |cA=>cases(show af=Value.none from q);rfl
 |bl b=>cases(show af=Value.bool b from q);rfl
 |int i=>obtain⟨w,rfl⟩:=(show∃t,af=Value.int i t from q);rfl
 |str z _=>obtain⟨w,rfl⟩:=(show∃t,af=Value.str z t from q);rfl
 |_=>cases f
theorem yv{H:Vw}{x:Tr}:∀{vs:List V} {ts:List Tr} {us:List Value},bQ K H vs ts->ts.all yu=true->Vals vs us->us.any (eU x)=ts.any λy=>eqT y x
 |[],_,_,r,_,rv=>by cases r;cases rv;rfl
 |_::_,_,_,r,f,rv=>by
  cases r with
  |cons h r=>
   cases rv with
   |cons b rv=>
    rw[iN,bY]at f;rw[jt,jt,Fh h f.1 b,yv r f.2 rv]
def Oq{t:Tr}(f:yu t=true):dT t<=0/\sH t=true:=by cases t<;>first|exact⟨bA _,rfl⟩|cases f
theorem p8{rS:Addr->Option Nat}{A:Around}{x:V}{t:Tr}{v:Value}(I:Inv X U Z H s)(hu:A.units<cLine)(rx:Rep X.K (⟨H,rS⟩:Vw) x t)(p:sH t=true)(rv:RelV x v):∀{vs:List V} {ts:List Tr} {us:List Value},bQ X.K (⟨H,rS⟩:Vw) vs ts->ts.all yu=true->Vals vs us->∀u∈us,SeqAt.EqAt A s u v (eU t u)
 |[],_,_,r,_,q=>λu m=>by cases q;cases m
 |_::_,_,_,r,f,q=>λu m=>by
  cases r with
  |cons h r=>
   cases q with
   |cons b q=>
    rw[iN,bY]at f;rcases bH.mp m with rfl|m
    ·rw[Fh h f.1 b];obtain⟨g,l⟩:=Oq f.1;exact K2 I 0 g l p h rx b rv hu
    ·exact p8 I hu rx p rv r f.2 q u m
def K4(x:Tr)(ts:List Tr):Rs Bool:=if sH x=true/\ts.all yu=true then .ok (ts.any λy=>eqT y x)else .bad
def zu:Tr->Tr->Rs Tr
 |x,.tup ts=>Sw (K4 x ts)
 |x,.lst ts=>Sw (K4 x ts)
 |x,.bW bE=>match ko x with
  |some k=>.ok (.bl (e_ bE k).isSome)
  |none=>.bad
 |.str i,.str j=>.ok (.bl (!(Builtin.Str.occurrences j i 0 j.length 1).isEmpty))
 |_,_=>.bad
def Ot:Tr->Tr->Rs Tr
 |x,.tup ts=>Sw (IA (K4 x ts))
 |x,.lst ts=>Sw (IA (K4 x ts))
 |x,.bW bE=>match ko x with
  |some k=>.ok (.bl (!(e_ bE k).isSome))
  |none=>.bad
 |.str i,.str j=>.ok (.bl (!(!(Builtin.Str.occurrences j i 0 j.length 1).isEmpty)))
 |_,_=>.bad
def wQ{k:Bool->Prop}(q:Fi X H (K4 aC ts) k):sH aC=true/\ts.all yu=true/\k (ts.any λy=>eqT y aC):=by
 unfold K4 at q;split at q
 ·rename_i h;exact⟨h.1,h.2,q⟩
 ·exact q.elim
def G0{x y:V}{k:Key}(r:Rep K (cn B H) y (.bW aG))(q:Rep K (cn B H) x aC)(ek:ko aC=some k):∃a,y=.ref a/\∃o,pX H a x o/\o.isSome=(e_ aG k).isSome:=by
 cases r with
 |bW h e b=>
  obtain⟨o,g,l⟩:=yt (H:=raw _ _) (h.same bJ) e (b.same fL) q.up ek;refine⟨_,rfl,o,g,?_⟩;rcases l with⟨h1,rfl⟩|⟨_,_,h1,rfl,_⟩
  ·rw[h1];rfl
  ·rw[h1];rfl
theorem mq(hu:X.A.units+1<cLine):Cz X (compareOp .In) zu:=by
 intro U s Z H x y v u Q I b l ⟨B,tx,ty,hb,r1,r2,q⟩;unfold zu at q;split at q
 ·have f:=wQ (Fi.bind q);obtain⟨a,vs,rfl,h,rr⟩:=r2.dX;cases(show u=Value.ref a from l);obtain⟨cy,rv,pl,_⟩:=I.tuple h.up;refine SeqAt.in_tupleAt (eU tx) pl (λw hw=>p8 I hu r1.up f.1 b (rr.same fL) f.2.1 rv w (by simpa using hw)) ⟨.bl _,H,I,rfl,?_⟩;rw[show cy.toArray.any (eU tx)=cy.any (eU tx) by simp,yv rr f.2.1 rv];exact f.2.2 _ H (bo.refl H) (.bl _)
 ·have f:=wQ (Fi.bind q);obtain⟨a,vs,rfl,h,rr⟩:=r2.lst_inv;cases(show u=Value.ref a from l);obtain⟨cy,rv,pl,_⟩:=I.list (.of (eB h));refine SeqAt.in_listAt (eU tx) pl.isList (λw hw=>p8 I hu r1.up f.1 b (rr.same fL) f.2.1 rv w (by simpa using hw)) ⟨.bl _,H,I,rfl,?_⟩;rw[show cy.toArray.any (eU tx)=cy.any (eU tx) by simp,yv rr f.2.1 rv];exact f.2.2 _ H (bo.refl H) (.bl _)
 ·split at q
  ·rename_i n;obtain⟨a,rfl,g⟩:=G0 r2 r1 n;cases(show u=Value.ref a from l);obtain⟨o,g,r⟩:=g;refine aaH hu I g b λs' L=>⟨.bl _,H,L,rfl,?_⟩;rw[r];exact q _ H (bo.refl H) (.bl _)
  ·exact fe q
 ·exact Ik U s Z H _ _ v u Q I b l ⟨_,_,r1.str_inv.1,r2.str_inv.1,q _ H (bo.refl H) (.bl _)⟩
 ·exact fe q
theorem rV(hu:X.A.units+1<cLine):Cz X (compareOp .NotIn) Ot:=by
 intro U s Z H x y v u Q I b l ⟨B,tx,ty,hb,r1,r2,q⟩;unfold Ot at q;split at q
 ·have f:=wQ (Fi.bind (Fi.bind q));obtain⟨a,vs,rfl,h,rr⟩:=r2.dX;cases(show u=Value.ref a from l);obtain⟨cy,rv,pl,_⟩:=I.tuple h.up;refine SeqAt.notIn_tupleAt (eU tx) pl (λw hw=>p8 I hu r1.up f.1 b (rr.same fL) f.2.1 rv w (by simpa using hw)) ⟨.bl _,H,I,rfl,?_⟩;rw[show cy.toArray.any (eU tx)=cy.any (eU tx) by simp,yv rr f.2.1 rv];exact f.2.2 _ H (bo.refl H) (.bl _)
 ·have f:=wQ (Fi.bind (Fi.bind q));obtain⟨a,vs,rfl,h,rr⟩:=r2.lst_inv;cases(show u=Value.ref a from l);obtain⟨cy,rv,pl,_⟩:=I.list (.of (eB h));refine SeqAt.notIn_listAt (eU tx) pl.isList (λw hw=>p8 I hu r1.up f.1 b (rr.same fL) f.2.1 rv w (by simpa using hw)) ⟨.bl _,H,I,rfl,?_⟩;rw[show cy.toArray.any (eU tx)=cy.any (eU tx) by simp,yv rr f.2.1 rv];exact f.2.2 _ H (bo.refl H) (.bl _)
 ·split at q
  ·rename_i n;obtain⟨a,rfl,g⟩:=G0 r2 r1 n;cases(show u=Value.ref a from l);obtain⟨o,g,r⟩:=g;refine NX hu I g b λs' L=>⟨.bl _,H,L,rfl,?_⟩;rw[r];exact q _ H (bo.refl H) (.bl _)
  ·exact fe q
 ·exact A8 U s Z H _ _ v u Q I b l ⟨_,_,r1.str_inv.1,r2.str_inv.1,q _ H (bo.refl H) (.bl _)⟩
 ·exact fe q
noncomputable def lh{α:Type}:Option α->Rs α
 |some a=>.ok a
 |none=>.bad
def lj:Tr->Tr->Rs Tr
 |.tup ts,.int i=>lh (vm ts i)
 |.lst ts,.int i=>lh (vm ts i)
 |.str z,.int i=>(lh (vm z.cps.toList i)).bind λc=>.ok (.str ⟨#[c]⟩)
 |.vU ns,.int i=>(lh (vm ns i)).bind λn=>.ok (.int n)
 |.bW bE,t=>(lh (ko t)).bind λk=>lh (e_ bE k)
 |_,_=>.bad
theorem bQ.vm {H:Vw}{vs:List V}{i:Int}{t:Tr}(r:bQ K H vs ts)(e:L2.vm ts i=some t):∃v,L2.vm vs i=some v/\Rep K H v t:=by
 unfold L2.vm at e⊢;rw[r.length];cases q:Nj ts.length i with
 |none=>rw[q]at e;cases e
 |some j=>
  rw[q]at e;obtain⟨v,b,r1⟩:=r.get (show ts[j]?=some t from e);exact⟨v,b,r1⟩
def gM{X:Cx}{H:Hp}{o:Option ag}{k:ag->Prop}(h:Fi X H (lh o) k):∃a,o=some a/\k a:=by
 cases o with
 |none=>exact h.elim
 |some a=>exact⟨a,rfl,h⟩
section
variable {b:Expr}
def Ou{β:Type}(f:ag->β)(xs:List ag)(i:Int):L2.vm (xs.map f) i=(L2.vm xs i).map f:=by
 unfold L2.vm;rw[bu];cases Nj xs.length i with
 |none=>rfl
 |some j=>show(xs.map f)[j]?=_;rw[cq];rfl
def Ov(c:Nat):(⟨#[c]⟩:Str).length<=cZ:=by show 1<=cZ;decide
def Ow{x y:V}{t:Tr}{k:Key}(r:Rep K (cn B H) x (.bW aG))(r2:Rep K (cn B H) y aC)(ek:ko aC=some k)(q:e_ aG k=some t):∃tg w,x=.ref tg/\pX H tg y (some w)/\Rep K (cn B H) w t:=by
 obtain⟨tg,kvs,b,h,e,rr⟩:=r.nW;refine⟨tg,?_⟩;rcases qZ k e rr with⟨h1,_⟩|⟨t',w,h1,h2,g⟩
 ·cases q.symm.trans h1
 ·cases q.symm.trans h1;exact⟨w,b,.inl ⟨kvs,k,h.same bJ,nY r2 ek,h2.symm⟩,g⟩
theorem WX(hu:X.A.units+1<cLine):Wa X (rT X lj):=by
 intro value slice U s Z H x y v u Q I l r ⟨B,tx,ty,hb,r1,r2,q⟩ hs;unfold lj at q;split at q
 ·obtain⟨tg,vs,e,h,rr⟩:=r1.dX;obtain⟨t,b,k⟩:=gM q;obtain⟨w,M,L⟩:=rr.vm b;exact R3 value slice U s Z H _ _ v u Q I l r ⟨_,_,_,w,e,r2.int_inv,h.up,M,k w H (bo.refl H) L⟩ hs
 ·obtain⟨tg,vs,e,h,rr⟩:=r1.lst_inv;obtain⟨t,b,k⟩:=gM q;obtain⟨w,M,L⟩:=rr.vm b;exact Gx value slice U s Z H _ _ v u Q I l r ⟨_,_,_,w,e,r2.int_inv,.of (eB h),M,k w H (bo.refl H) L⟩ hs
 ·obtain⟨c,b,k⟩:=gM (Fi.bind q);exact R4 value slice U s Z H _ _ v u Q I l r ⟨_,_,c,r1.str_inv.1,r2.int_inv,cB r1.str_inv.2 lV,b,k _ H (bo.refl H) (.str _ (Ov c))⟩ hs
 ·obtain⟨n,b,k⟩:=gM (Fi.bind q);obtain⟨tg,e,h⟩:=r1.GJ;exact Gx value slice U s Z H _ _ v u Q I l r ⟨_,_,_,.int n,e,r2.int_inv,bo.seq bJ h,by rw[Ou,b];rfl,k _ H (bo.refl H) (.int n)⟩ hs
 ·obtain⟨k,S,qk⟩:=gM (Fi.bind q);obtain⟨t,b,qt⟩:=gM qk;obtain⟨tg,w,rfl,g,L⟩:=Ow r1 r2 S b;cases(show v=Value.ref tg from l);exact tail_any (C1 I g) PySem.F.slot_dict_getitem.lookup (Iq hu I g r λw' s' I' rv=>⟨w,H,I',rv,qt w H (bo.refl H) L⟩) hs
 ·exact fe q
def aaU(hu:X.A.units+1<cLine)(ha:PE X tg (tP X F))(hb:PE X b (tP X G))(hs:um b:=by exact λ_ _=>rfl):PE X (.Subscript tg b pos) (tP X λY=>Iz lj (F Y) (G Y)):=
 (Qq (WX hu) ha hb hs).weak λ_ _ _ q=>uz q
inductive tO(X:Cx)(P:bX->Rs (Option Int))(Z:St)(H:Hp)(Q:Option Int->Hp->Prop):Prop
 |mk (B:fw) (Y:bX):HB B H->cK X.K B H Z Y->(Fi X H (P Y) fun o=>∀H',bo H H'->Q o H')->tO X P Z H Q
def Dq(r:Rs Tr):Rs (Option Int):=r.bind λt=>match t with
 |.int i=>.ok (some i)
 |_=>.bad
theorem SO:PO X none (tO X λ_=>.ok none):=λU s Z H Q I ⟨B,Y,hb,r,q⟩=>NO U s Z H Q I (q H (bo.refl H))
theorem SQ(h:PE X e (tP X F)):PO X (some e) (tO X λY=>Dq (F Y)):=λU s Z H Q I ⟨B,Y,hb,r,q⟩=>
 NP h U s Z H Q I ⟨B,Y,hb,r,q.bind.mono λt b v H' s' g=>by
  split at b
  ·exact⟨_,g.int_inv,b H' s'⟩
  ·exact b.elim⟩
def Bp{α:Type}(xs:List α)(lo hi:Option Int):List α:=(xs.drop (HT.iF xs.length 0 lo)).take (HT.iF xs.length xs.length hi - HT.iF xs.length 0 lo)
def bQ.cut {H:Vw}{vs:List V}(r:bQ K H vs ts)(lo hi:Option Int):bQ K H (CW vs lo hi) (Bp ts lo hi):=by
 unfold CW Bp;rw[r.length];exact(r.drop _).take _
def nZ(n:Nat)(lo hi:Option Int):Bool:=HT.iF n 0 lo==0&&HT.iF n n hi==n
def slT:Tr->Option Int->Option Int->Rs Tr
 |.tup ts,lo,hi=>if nZ ts.length lo hi=true then .bad else .ok (.tup (Bp ts lo hi))
 |.lst ts,lo,hi=>.ok (.lst (Bp ts lo hi))
 |.str z,lo,hi=>if(Txt.slice z lo hi).length<=cZ then .ok (.str (Txt.slice z lo hi))else .bad
 |_,_,_=>.bad
inductive rSl(X:Cx)(x:V)(lo:Option Int)(hi:Option Int)(H:Hp)(Q:VK):Prop
 |mk (B:fw) (t:Tr):HB B H->Rep X.K (cn B H) x t->(Fi X H (slT t lo hi) fun t=>∀v H',bo H H'->Rep X.K (cn B H') v t->Q v H')->rSl X x lo hi H Q
theorem aaV:Ve X (rSl X):=by
 intro U s Z H x v l n lo hi sl Q I L hs pl pu ⟨B,t,hb,r,q⟩;cases r with
 |tup h b=>
  rename_i tg vs ts;have g:Fi X H (if nZ ts.length lo hi=true then Rs.bad else .ok (Tr.tup (Bp ts lo hi))) _:=q;by_cases hw:nZ ts.length lo hi=true
  ·rw[aY hw]at g;exact fe g
  ·rw[bc hw]at g;refine RZ U s Z H _ v l n lo hi sl Q I L hs pl pu ⟨_,_,rfl,h.up,λz=>hw ?_,λp hp=>g _ _ (bo.upd hp) (.SH hb hp (b.cut lo hi))⟩;rw[b.length]at z;unfold nZ;rw[z.1,z.2,bU,bU];rfl
 |lst h b=>exact NS U s Z H _ v l n lo hi sl Q I L hs pl pu ⟨_,_,rfl,.of (eB h),λp hp=>q _ _ (bo.upd hp) (.zD hb hp (b.cut lo hi))⟩
 |str z hz=>
  obtain⟨M,k⟩:=gR q;exact Ss U s Z H _ v l n lo hi sl Q I L hs pl pu ⟨z,rfl,cB hz lV,k _ H (bo.refl H) (.str _ M)⟩
 |_=>exact fe q
variable {P1 P2:bX->Rs (Option Int)}{lo hi:Option Expr}{p2:Pos}
noncomputable def Ox:List Tr->Rs Tr
 |[.str z]=>.ok (.int (z.length:Int))
 |[.tup ts]=>.ok (.int (ts.length:Int))
 |[.lst ts]=>.ok (.int (ts.length:Int))
 |[.vU ns]=>.ok (.int (ns.length:Int))
 |_=>.bad
theorem WY:lW X (.builtin "len") Ox:=by
 intro U s Z H xs us Q I b ⟨B,ts,hb,r,q⟩;unfold Ox at q;split at q
 ·obtain⟨x,e,r⟩:=gw r;exact ui U s Z H _ us Q I b ⟨_,_,e,by rw[r.str_inv.1];exact⟨cB r.str_inv.2 lV,rfl⟩,q _ H (bo.refl H) (.int _)⟩
 ·obtain⟨x,e,r⟩:=gw r;obtain⟨tg,vs,rfl,h,rr⟩:=r.dX;exact ui U s Z H _ us Q I b ⟨_,_,e,.inr ⟨_,h.up,rfl⟩,q _ H (bo.refl H) (by rw[rr.length];exact .int _)⟩
 ·obtain⟨x,e,r⟩:=gw r;obtain⟨tg,vs,rfl,h,rr⟩:=r.lst_inv;exact ui U s Z H _ us Q I b ⟨_,_,e,.inl ⟨_,.of (eB h),rfl⟩,q _ H (bo.refl H) (by rw[rr.length];exact .int _)⟩
 ·obtain⟨x,e,r⟩:=gw r;obtain⟨tg,rfl,h⟩:=r.GJ;exact ui U s Z H _ us Q I b ⟨_,_,e,.inl ⟨_,bo.seq bJ h,rfl⟩,q _ H (bo.refl H) (by rw[bu];exact .int _)⟩
 ·exact fe q
noncomputable def QC:List Tr->Rs Tr
 |[.tup ts]=>.ok (.lst ts)
 |[.lst ts]=>.ok (.lst ts)
 |_=>.bad
noncomputable def Fj:List Tr->Rs Tr
 |[.tup ts]=>.ok (.tup ts)
 |[.lst ts]=>.ok (.tup ts)
 |_=>.bad
theorem hZ:lW X (.type "tuple") Fj:=by
 intro U s Z H xs us Q I b ⟨B,ts,hb,r,q⟩;unfold Fj at q;split at q
 ·obtain⟨x,e,r⟩:=gw r;obtain⟨tg,vs,rfl,h,rr⟩:=r.dX;exact rP U s Z H _ us Q I b ⟨_,_,e,.inr ⟨h.up,q _ H (bo.refl H) (.tup h rr)⟩⟩
 ·obtain⟨x,e,r⟩:=gw r;obtain⟨tg,vs,rfl,h,rr⟩:=r.lst_inv;exact rP U s Z H _ us Q I b ⟨_,_,e,.inl ⟨.of (eB h),λp hp=>q _ _ (bo.upd hp) (.SH hb hp rr)⟩⟩
 ·exact q.elim
noncomputable def yw:Tr->String
 |.cA=>"NoneType"
 |.bl _=>"bool"
 |.int _=>"int"
 |.str _=>"str"
 |.ty _=>"type"
 |.tup _=>"tuple"
 |.lst _=>"list"
 |.vU _=>"list"
 |.bW _=>"dict"
 |.at _=>"object"
 |.vV _=>"dict"
 |.ob _ _=>"object"
 |.z6 _=>"object"
def Z3(t:Tr)(c:String):Bool:=yw t==c||(yw t=="bool"&&c=="int")
noncomputable def kinds:List String:=["int","str","bool","tuple","list","dict"]
def G1(K:Frag):∀tg∈["NoneType","bool","int","str","tuple","list","dict"],∀c∈kinds,PySem.W.kitOne K (.type tg) (.type c)=some (tg==c||(tg=="bool"&&c=="int")):=by
 intro tg b c g;simp only[kinds,bH,cM,cN]at b g;rcases b with rfl|rfl|rfl|rfl|rfl|rfl|rfl<;>rcases g with rfl|rfl|rfl|rfl|rfl|rfl<;>first|rfl|(unfold PySem.W.kitOne;exact aY (by decide))
def WZ:Tr->Bool
 |.ty _|.at _|.ob _ _|.z6 _=>true
 |_=>false
def SR:List Tr->Rs Tr
 |[t,.ty c]=>if WZ t=false/\kinds.contains c=true then .ok (.bl (Z3 t c))else .bad
 |_=>.bad
theorem Oy{rS:Addr->Option Nat}{x:V}(I:Inv X U Z H s)(r:Rep X.K (⟨H,rS⟩:Vw) x aC)(h0:WZ aC=false)(q:RelV x af)(hc:ay∈kinds)(h:∀tk,Q (.bool (Z3 aC ay)) {s with toks:=tk}):
  wpAny (model X.prog X.w) A (call (.builtin "isinstance") [af,.type ay]) Q E s:=by
 have g:=λtg M=>G1 X.K tg M ay hc;cases r with
 |cA=>exact m6 I q .cA (g _ (by decide)) h
 |bl b=>exact m6 I q (.bl b) (g _ (by decide)) h
 |int i=>exact m6 I q (.int i) (g _ (by decide)) h
 |str z hz=>exact m6 I q (.str z) (g _ (by decide)) h
 |ty n=>cases h0
 |«at» h=>cases h0
 |ob h e L=>cases h0
 |z6 h ay=>cases h0
 |@vV tg kvs bE l e L=>
  cases(show af=Value.ref tg from q);obtain⟨_,_,xs,_,o,es,ep,h1,h2,_⟩:=(show cX X.prog X.w H s.heap tg (.dT kvs)from I.cW tg _ l);exact fq tM I.ml ⟨o,h1,h2.1⟩ (g "dict" (by decide)) (λz=>nomatch z) h
 |@tup tg vs ts l L=>
  cases(show af=Value.ref tg from q);obtain⟨cy,rv,⟨o,h1,h2,_⟩,_⟩:=I.tuple l;exact fq PySem.W.kitx_tuple I.ml ⟨o,h1,h2⟩ (g "tuple" (by decide)) (λz=>nomatch z) h
 |lst l L=>exact m6 I q (.lst l) (g _ (by decide)) h
 |@vU tg ns l=>
  cases(show af=Value.ref tg from q);obtain⟨cy,rv,⟨o,n,h1,h2,_⟩,_⟩:=I.list l;exact fq xx I.ml ⟨o,h1,h2⟩ (g "list" (by decide)) (λz=>nomatch z) h
 |@bW tg kvs bE l e L=>
  cases(show af=Value.ref tg from q);obtain⟨_,_,vs,_,p⟩:=(show cX X.prog X.w H s.heap tg (.dK kvs)from l.ok I.cW);obtain⟨o,es,ep,h1,h2,_⟩:=p;exact fq tM I.ml ⟨o,h1,h2.1⟩ (g "dict" (by decide)) (λz=>nomatch z) h
theorem Ad:lW X (.builtin "isinstance") SR:=by
 intro U s Z H xs us Q I b ⟨B,ts,hb,r,q⟩;unfold SR at q;split at q
 ·obtain⟨⟨h0,h1⟩,k⟩:=gR q;obtain⟨x,y,rfl,r1,r2⟩:=z8 r;obtain⟨v,u,rfl,v1,v2⟩:=vals2 b;cases r2;cases v2;exact Oy I r1.up h0 v1 (by simpa using h1) λg=>⟨.bl _,H,I.tok _,rfl,k _ H (bo.refl H) (.bl _)⟩
 ·exact q.elim
variable {name:Str}{dI:Pos}{id:String}{h:Str->List Tr->Rs Tr}
end
def SS:Tr->Rs Tr
 |.int i=>.ok (.int (-i))
 |_=>.bad
theorem W0(ha:PE X e (tP X F)):PE X (.UnaryOp .USub e pos) (tP X λY=>(F Y).bind SS):=
 (VX RQ ha).weak λZ H Q ⟨B,Y,hb,r,q⟩=>⟨B,Y,hb,r,q.bind.mono λt b v H' s' g=>by
  cases g with
  |int i=>exact⟨i,rfl,b _ H' s' (.int _)⟩
  |_=>exact fe b⟩
def dH(q:dk i A):A.units+40<cLine:=by have:=q.units;omega
def rW(n m:Nat)(G:bX->Rs Out)(ts:List Tr):Rs Tr:=if ts.length=n then dC (G (startT m ts))else .bad
def OA{n:Nat}{G:bX->Rs Out}(h:rW n i G ts=.ok aC):ts.length=n:=by
 unfold rW at h;split at h
 ·assumption
 ·cases h
def SU{G:bX->Rs Out}{t:Tr}(h:rW i az G ts=.ok t):dC (G (startT az ts))=.ok t:=by
 unfold rW at h;split at h
 ·exact h
 ·cases h
noncomputable def ll(bE:List (Key×Tr))(k:Key)(t:Tr):List (Key×Tr):=
 if(bE.any λb=>decide (b.1=k))=true then bE.map (λb=>if b.1=k then(b.1,t)else b)else bE++[(k,t)]
def mr(bE more:List (Key×Tr)):List (Key×Tr):=more.foldl (λacc b=>ll acc b.1 b.2) bE
structure d6(K:Frag)(H:Vw)(kvs:List (Key×V))(bE:List (Key×Tr)):Prop where
 keys:kvs.map (·.1)=bE.map (·.1)
 vals:bQ K H (kvs.map (·.2)) (bE.map (·.2))
section
variable {H H':Vw}
theorem d6.nil:d6 K H [] []:=⟨rfl,.nil⟩
theorem d6.same {bE:List (Key×Tr)}(s:fj H H')(h:d6 K H kvs bE):d6 K H' kvs bE:=⟨h.keys,h.vals.same s⟩
theorem d6.cons {k:Key}{v:V}{t:Tr}{bE:List (Key×Tr)}(r:Rep K H v t)(h:d6 K H kvs bE):d6 K H ((k,v)::kvs) ((k,t)::bE):=⟨by rw[bB,bB,h.keys],.cons r h.vals⟩
def d6.inv {k:Key}{v:V}{bE:List (Key×Tr)}(h:d6 K H ((k,v)::kvs) bE):∃t r,bE=(k,t)::r/\Rep K H v t/\d6 K H kvs r:=by
 obtain⟨e,r⟩:=h
 match bE,e,r with
 |(k2,t)::c9,e,r=>
  rw[bB,bB]at e;injection e with b g
  have l:k=k2:=b;subst l;cases r with
  |cons h1 h2=>exact⟨t,c9,rfl,h1,g,h2⟩
theorem d6.any (k:Key):∀{kvs:List (Key×V)} {bE:List (Key×Tr)},d6 K H kvs bE->(kvs.any λq=>decide (q.1=k))=bE.any λq=>decide (q.1=k)
 |[],bE,h=>by
  have e:=h.keys;cases bE with
  |nil=>rfl
  |cons a b=>cases e
 |(j,v)::kvs,bE,h=>by
  obtain⟨t,r,rfl,_,h2⟩:=h.inv;rw[jt,jt,d6.any k h2]
theorem d6.map (k:Key){y:V}{u:Tr}(ry:Rep K H y u):∀{kvs:List (Key×V)} {bE:List (Key×Tr)},d6 K H kvs bE->d6 K H (kvs.map λq=>if q.1=k then(q.1,y)else q) (bE.map λq=>if q.1=k then(q.1,u)else q)
 |[],bE,h=>by
  have e:=h.keys;cases bE with
  |nil=>exact .nil
  |cons a b=>cases e
 |(j,v)::kvs,bE,h=>by
  obtain⟨t,r,rfl,h1,h2⟩:=h.inv;rw[bB,bB];by_cases e:j=k
  ·rw[aY (show(j,v).1=k from e),aY (show(j,t).1=k from e)];exact .cons ry (d6.map k ry h2)
  ·rw[bc (show¬(j,v).1=k from e),bc (show¬(j,t).1=k from e)];exact .cons h1 (d6.map k ry h2)
theorem d6.snoc (k:Key){y:V}{u:Tr}(q:Rep K H y u):∀{kvs:List (Key×V)} {bE:List (Key×Tr)},d6 K H kvs bE->d6 K H (kvs++[(k,y)]) (bE++[(k,u)])
 |[],bE,h=>by
  have e:=h.keys;cases bE with
  |nil=>exact .cons q .nil
  |cons a b=>cases e
 |(j,v)::kvs,bE,h=>by
  obtain⟨t,r,rfl,h1,h2⟩:=h.inv;exact .cons h1 (d6.snoc k q h2)
def d6.put (k:Key){y:V}{u:Tr}(q:Rep K H y u){bE:List (Key×Tr)}(h:d6 K H kvs bE):d6 K H (putK kvs k y) (ll bE k u):=by
 unfold putK ll;rw[h.any k];by_cases e:(bE.any λb=>decide (b.1=k))=true
 ·rw[aY e,aY e];exact h.map k q
 ·rw[bc e,bc e];exact h.snoc k q
theorem d6.merge:∀{more:List (Key×V)} {Fl:List (Key×Tr)} {kvs:List (Key×V)} {bE:List (Key×Tr)},d6 K H more Fl->d6 K H kvs bE->d6 K H (jd kvs more) (mr bE Fl)
 |[],Fl,kvs,bE,h,q=>by
  have e:=h.keys;cases Fl with
  |nil=>exact q
  |cons a b=>cases e
 |(k,v)::more,Fl,kvs,bE,h,q=>by
  obtain⟨t,r,rfl,h1,h2⟩:=h.inv;exact d6.merge (more:=more) (Fl:=r) h2 (q.put k h1)
end
def cK.bar {Y:bX}{p:Addr}{o:HO}(h:cK K B H Z Y)(hp:H p=none):cK K (m_ B p) (upd H p o) Z Y:=by
 refine⟨h.len,λi t e=>?_,λi ts e=>?_,h.ap⟩
 ·obtain⟨v,b,r⟩:=h.sh i t e;exact⟨v,b,r.same (k_ hp)⟩
 ·obtain⟨D,ys,b,l,g,r⟩:=h.ow i ts e;exact⟨D,ys,b,GR.hd _ l,by rw[bq (bV g hp)];exact g,r.same (k_ hp)⟩
def QH(k v:Rs Tr)(r:Rs (List (Tr×Tr))):Rs (List (Tr×Tr)):=k.bind λx=>v.bind λy=>r.bind λps=>.ok ((x,y)::ps)
def yx:List (Tr×Tr)->Rs (List (Key×Tr))
 |[]=>.ok []
 |(k,t)::r=>(lh (ko k)).bind λk=>(yx r).bind λl=>.ok ((k,t)::l)
def W3(r:Rs (List (Tr×Tr))):Rs Tr:=r.bind λps=>if ps.length<=15 then(yx ps).bind λbE=>.ok (.bW (mr [] bE))else .bad
inductive yy(K:Frag)(H:Vw):List (V×V)->List (Tr×Tr)->Prop where
 |nil:yy K H [] []
 |cons {x y:V} {t u:Tr} {ps:List (V×V)} {qs:List (Tr×Tr)} (h1:Rep K H x t) (h2:Rep K H y u) (r:yy K H ps qs):yy K H ((x,y)::ps) ((t,u)::qs)
theorem yy.length {H:Vw}{ps:List (V×V)}{qs:List (Tr×Tr)}(h:yy K H ps qs):ps.length=qs.length:=by
 induction h with
 |nil=>rfl
 |cons _ _ _ b=>rw[dA,dA,b]
def Ae{X:Cx}{H:Vw}{H0:Hp}{k:List (Key×Tr)->Prop}{ps:List (V×V)}{qs:List (Tr×Tr)}(h:yy K H ps qs):Fi X H0 (yx qs) k->∃kvs bE,k bE/\ps=kvs.map (λkv=>(kV kv.1,kv.2))/\d6 K H kvs bE:=by
 induction h generalizing k with
 |nil=>exact λq=>⟨[],[],q,rfl,.nil⟩
 |cons b h2 r g=>
  intro q;obtain⟨key,l,n⟩:=gM (Fi.bind q);obtain⟨kvs,bE,k1,I,L⟩:=g (Fi.bind n);have e:=nY b l;subst e;exact⟨(key,_)::kvs,_,k1,by rw[bB,I],.cons h2 L⟩
section
variable {a f:Expr}{dI:Pos}{E:bX->Rs Tr}{keys:List (Option Expr)}{P:bX->Rs (List (Tr×Tr))}
structure QP(X:Cx)(pos:Pos)(keys:List (Option Expr))(es:List Expr)(P:bX->Rs (List (Tr×Tr))):Prop where
 h:∃Bf,Vf X pos keys es Bf/\∀Z H Q,(∃B Y,HB B H/\cK X.K B H Z Y/\Fi X H (P Y) fun SV=>∀OB H',bo H H'->yy X.K (cn B H') OB SV->Q OB H')->ya Bf Z H Q
theorem QK:QP X pos [] [] λ_=>.ok []:=⟨[],GC,λZ H Q ⟨B,Y,hb,r,q⟩=>q [] H (bo.refl H) .nil⟩
theorem yy.same {H H':Vw}(s:fj H H'){ps:List (V×V)}{qs:List (Tr×Tr)}(h:yy K H ps qs):yy K H' ps qs:=by
 induction h with
 |nil=>exact .nil
 |cons b h2 r g=>exact .cons (b.same s) (h2.same s) g
theorem OC(hk:PE X e (tP X F))(hv:PE X o (tP X G))(hr:QP X pos keys es P):QP X pos (some e::keys) (o::es) λY=>QH (F Y) (G Y) (P Y):=by
 obtain⟨S,h1,h2⟩:=hr.h;refine⟨_,C6 hk hv h1,λZ H Q ⟨B,Y,hb,r,q⟩=>?_⟩;refine⟨B,Y,hb,r,q.bind.mono λx b u H1 s1 g=>⟨B,Y,hb.same s1,r.same s1,(b.bind.same s1).mono λy l w H2 s2 n=>h2 _ _ _ ⟨B,Y,hb.same (s1.trans s2),r.same (s1.trans s2),(l.bind.same (s1.trans s2)).mono λps I OB L s3 M=>?_⟩⟩⟩;exact I _ L ((s1.trans s2).trans s3) (.cons (g.same (bL (s2.trans s3))) (n.same (bL s3)) M)
theorem SW(h:QP X pos keys es P)(vf:keys.all (·.isSome)=true:=by rfl) (hl:keys.length=es.length:=by rfl) (h0:keys.isEmpty=false:=by rfl) (N1:keys.length<=15:=by decide):PE X (.Dict keys es pos) (tP X λY=>W3 (P Y)):=by
 obtain⟨Bf,h1,h2⟩:=h.h;refine(GD h1 vf hl (λz=>by rw[z]at h0;cases h0) N1).weak λZ H Q ⟨B,Y,hb,r,q⟩ p hp=>?_
 refine h2 Z _ _ ⟨m_ B p,Y,GQ hb hp,r.bar hp,(q.bind.same (bo.upd hp)).mono λL b OB H2 s2 r2=>?_⟩;by_cases hz:L.length<=15
 ·rw[aY hz]at b;obtain⟨kvs,bE,k1,l,M⟩:=Ae r2 (Fi.bind b);refine⟨s2 _ _ bP,kvs,l,?_,?_⟩
  ·have n:=cV List.length l;rw[bu,r2.length]at n;rw[<-n];exact hz
  ·have g:=hb.free hp;have I:=(d6.merge M d6.nil);refine k1 _ _ (((bo.upd hp).trans s2).Bh hp) (.bW (.inl (by rw[gv g];exact bP)) I.keys (I.vals.same ?_));have S:cn (m_ B p) (upd H2 p (.dK (jd [] kvs)))=cn (m_ B p) H2:=uB;rw[<-S];exact Dh
 ·rw[bc hz]at b;exact fe b
def K5(a b:Rs Tr):Rs Tr:=a.bind λx=>match x with
 |.bW bE=>b.bind λy=>(lh (ko y)).bind λk=>.ok ((e_ bE k).getD .cA)
 |_=>.bad
def Af(a b c:Rs Tr):Rs Tr:=a.bind λx=>match x with
 |.bW bE=>b.bind λy=>c.bind λz=>(lh (ko y)).bind λk=>.ok ((e_ bE k).getD z)
 |_=>.bad
def QL(hb:isCall o=false)(cJ:bC [e]=true)(q:(b8.endLine==dI.line)=true):M1 X o x b8 e dI:=
 ⟨gL hb,by rw[jI cJ];rfl,q,by rw[bO _ _ (bt cJ).1,starEach];rfl⟩
def QM(hb:isCall o=false)(cJ:bC [e,f]=true)(q:(b8.endLine==dI.line)=true):M2 X o x b8 e f dI:=
 ⟨gL hb,by rw[jI cJ];rfl,q,by rw[bO _ _ (bt cJ).1,bO _ _ (bt (bt cJ).2).1,starEach];rfl⟩
def G3{y:V}{ov:Option V}(g:pX (cn B H) au y ov):pX H au y ov:=by
 rcases g with⟨kvs,k,l,n,r⟩|⟨kvs,k,b,l,n,r,I⟩
 ·exact .inl ⟨kvs,k,l.same bJ,n,r⟩
 ·exact .inr ⟨kvs,k,b,l.same bJ,n,bJ _ _ r,I⟩
theorem SX(hu:X.A.units+1<cLine)(ho:PE X o (tP X F))(he:PE X e (tP X G))(hb:isCall o=false:=by rfl) (cJ:bC [e]=true:=by rfl) (hl:(b8.endLine==dI.line)=true:=by rfl):PE X (.Call (.Attribute o "get" b8) [e] [] dI) (tP X λY=>K5 (F Y) (G Y)):=
 (KA hu ho he (QL hb cJ hl)).weak λZ H Q ⟨B,Y,hb,r,q⟩=>⟨B,Y,hb,r,q.bind.mono λx b v H1 s1 l=>by
  split at b
  ·obtain⟨_,_,rfl,h,e,rr⟩:=l.nW;refine⟨_,rfl,.inl ⟨_,h.same bJ⟩,B,Y,hb.same s1,r.same s1,(Fi.bind b|>.same s1).mono λy n w H2 s2 I=>?_⟩;obtain⟨k,L,M⟩:=gM (Fi.bind n);obtain⟨S,g,ho⟩:=yt (Rd.same (bL s2).h h) e (rr.same (bL s2)) I L;refine⟨S,G3 g,M _ H2 (s1.trans s2) ?_⟩;rcases ho with⟨h1,rfl⟩|⟨t,w',h1,rfl,h3⟩
   ·rw[h1];exact .cA
   ·rw[h1];exact h3
  ·exact b.elim⟩
theorem SY(hu:X.A.units+1<cLine)(ho:PE X o (tP X F))(he:PE X e (tP X G))(hf:PE X f (tP X E))(hb:isCall o=false:=by rfl) (cJ:bC [e,f]=true:=by rfl) (hl:(b8.endLine==dI.line)=true:=by rfl):PE X (.Call (.Attribute o "get" b8) [e,f] [] dI) (tP X λY=>Af (F Y) (G Y) (E Y)):=
 (KC hu ho he hf (QM hb cJ hl)).weak λZ H Q ⟨B,Y,hb,r,q⟩=>⟨B,Y,hb,r,q.bind.mono λx b v H1 s1 l=>by
  split at b
  ·obtain⟨_,_,rfl,h,e,rr⟩:=l.nW;refine⟨_,rfl,.inl ⟨_,h.same bJ⟩,B,Y,hb.same s1,r.same s1,(Fi.bind b|>.same s1).mono λy n w H2 s2 I=>⟨B,Y,hb.same (s1.trans s2),r.same (s1.trans s2),(Fi.bind n|>.same (s1.trans s2)).mono λz L w3 M s3 S=>?_⟩⟩;obtain⟨k,ek,qk⟩:=gM (Fi.bind L);obtain⟨ov,g,ho⟩:=yt (Rd.same (bL (s2.trans s3)).h h) e (rr.same (bL (s2.trans s3))) (I.same (bL s3)) ek;refine⟨ov,G3 g,qk _ M ((s1.trans s2).trans s3) ?_⟩;rcases ho with⟨h1,rfl⟩|⟨t,w',h1,rfl,h3⟩
   ·rw[h1];exact S
   ·rw[h1];exact h3
  ·exact b.elim⟩
def Bq(K:Frag)(w:World)(mg:Str->Option Value)(x:Str)(bE:List (Str×Tr)):Prop:=
 ∃a kvs,mg x=some (.ref a)/\C9 K w a kvs/\∀z,(valueAt kvs z=none/\bE.lookup z=none)\/∃u v t,valueAt kvs z=some u/\RelV v u/\bE.lookup z=some t/\∀H,Rep K H v t
def S0(bE:List (Str×Tr)):Tr->Rs Tr
 |.str z=>lh (bE.lookup z)
 |_=>.bad
variable {bE:List (Str×Tr)}
theorem W4(g:Bq X.K X.w X.mg x bE)(ha:PE X a (tP X F))(hg:Gl X x:=by rfl) (hd:Db x:=by decide) (hs:NY a:=by exact λ_ _=>rfl):PE X (.Subscript (.Name x p) a pos) (tP X λY=>(F Y).bind (S0 bE)):=by
 obtain⟨ad,kvs,hm,D,hz⟩:=g;refine(KO (A7 (v:=.ref ad) hg hm rfl hd) ha hs).weak λZ H Q ⟨B,Y,hb,r,q⟩=>?_
 refine⟨B,Y,hb,r,q.bind.mono λt b v H1 s1 r1=>?_⟩;unfold S0 at b;split at b
 ·rename_i z;obtain⟨t,l,k⟩:=gM b;rcases hz z with⟨h1,h2⟩|⟨u,v,t',h1,n,h2,I⟩
  ·cases l.symm.trans h2
  ·cases l.symm.trans h2;exact⟨ad,z,kvs,u,v,rfl,r1.str_inv.1,D,h1,n,k v H1 s1 (I _)⟩
 ·exact b.elim
def IL:List Tr->Rs (List Bool)
 |[]=>.ok []
 |.bl b::ts=>(IL ts).bind λzs=>.ok (b::zs)
 |_=>.bad
theorem G4{H:Vw}{H0:Hp}{k:List Bool->Prop}:∀{ts:List Tr} {vs:List V},bQ K H vs ts->Fi X H0 (IL ts) k->∃bs,k bs/\vs=bs.map V.bl
 |[],_,r,q=>by cases r;exact⟨[],q,rfl⟩
 |t::ts,_,r,q=>by
  cases r with
  |cons h r=>
   cases h with
   |bl b=>
    obtain⟨bs,k1,e⟩:=G4 (k:=λzs=>k (b::zs)) r (Fi.bind q);exact⟨b::bs,k1,by rw[e];rfl⟩
   |_=>exact fe q
def OD:List Tr->Rs Tr
 |[.lst ts]=>(IL ts).bind λbs=>.ok (.bl (bs.all id))
 |_=>.bad
theorem W5(hc:X.calm=true):lW X (.builtin "all") OD:=by
 intro U s Z H xs us Q I b ⟨B,ts,hb,r,q⟩;unfold OD at q;split at q
 ·obtain⟨x,rfl,h⟩:=gw r;obtain⟨a,vs,rfl,g,rr⟩:=h.lst_inv;obtain⟨bs,k,rfl⟩:=G4 rr (Fi.bind q);exact KN hc U s Z H _ us Q I b ⟨_,bs,rfl,.of (eB g),k _ H (bo.refl H) (.bl _)⟩
 ·exact fe q
end
inductive Fm(K:Frag)(w:World):List DictEntry->List (Str×Value)->List (Str×Tr)->Prop
 |nil:Fm K w [] [] []
 |cons {z:Str} {t:Tok} {v:V} {u:Value} {tr:Tr} {es:List DictEntry} {kvs:List (Str×Value)} {bE:List (Str×Tr)}:RelV v u->(∀H,Rep K H v tr)->Fm K w es kvs bE->
   Fm K w (⟨PyData.keyHash w.params z,.str z t,u⟩::es) ((z,u)::kvs) ((z,tr)::bE)
variable {es:List DictEntry}{kvs:List (Str×Value)}{bE:List (Str×Tr)}
theorem Fm.keys (prog:Program)(h:Fm K w es kvs bE):∀e∈es,∃k,(PySem.strKind prog w).is k e.key=true/\e.hash=(PySem.strKind prog w).hash k:=by
 induction h with
 |nil=>intro e he;cases he
 |@cons z t v u g es kvs bE _ _ _ b=>
  intro e he;rcases bH.mp he with rfl|he
  ·exact⟨z,by simp[PySem.strKind,Value.isStrOf],rfl⟩
  ·exact b e he
theorem Fm.pairs (prog:Program)(h:Fm K w es kvs bE):Pairs (PySem.strKind prog w) es kvs:=by
 induction h with
 |nil=>exact .nil
 |cons _ _ _ b=>exact .cons (by simp[PySem.strKind,Value.isStrOf]) rfl b
theorem Fm.at (h:Fm K w es kvs bE)(y:Str):(valueAt kvs y=none/\bE.lookup y=none)\/∃u v t,valueAt kvs y=some u/\RelV v u/\bE.lookup y=some t/\∀H,Rep K H v t:=by
 induction h with
 |nil=>exact .inl ⟨rfl,rfl⟩
 |@cons z t v u tr es kvs bE b hp _ g=>
  by_cases e:z=y
  ·subst e;exact .inr ⟨u,v,tr,by simp[valueAt],b,by simp[List.lookup],hp⟩
  ·have l:valueAt ((z,u)::kvs) y=valueAt kvs y:=by simp[valueAt,e]
   have n:List.lookup y ((z,tr)::bE)=bE.lookup y:=by
    have:(y==z)=false:=jr.mpr λk=>e k.symm;simp[List.lookup,this]
   rw[l,n];exact g
def Fm.gd {ep:Nat}(h:Fm K w es kvs bE)(hm:mg x=some (.ref a))(q:K.lookup a=some ⟨.type "dict",none,.dict es.toArray ep,#[]⟩) (hs:(a==sysModules)=false) (hn:(kvs.map (·.1)).Nodup):Bq K w mg x bE:=
 ⟨a,kvs,hm,⟨hs,_,_,_,q,⟨rfl,rfl,rfl⟩,rfl,λprog=>⟨λe he=>h.keys prog e (by simpa using he),h.pairs prog,hn⟩⟩,h.at⟩
inductive Ao where
 |lst (ts:List Tr)|bW (bE:List (Key×Tr))|ins (x:Str) (fs:List (Str×Tr))|vV (bE:List (List Key×Tr))|EH (x:Str)
abbrev Ab:=List Ao
def sI(K:Frag)(B:fw)(H:Hp)(a:Addr):Ao->Prop
 |.lst ts=>B.hd a=true/\∃vs,H a=some (.lst vs)/\bQ K (cn B H) vs ts
 |.bW bE=>B.hd a=true/\∃kvs,H a=some (.dK kvs)/\d6 K (cn B H) kvs bE
 |.vV bE=>B.hd a=true/\∃kvs,H a=some (.dT kvs)/\kvs.map (·.1)=bE.map (·.1)/\bQ K (cn B H) (kvs.map (·.2)) (bE.map (·.2))
 |.ins x fs=>B.hd a=true/\∃dx b,H a=some (.ins (clsAt K x) dx b)/\H dx=some (.own a)/\B.ix dx=none/\b.map (·.1)=fs.map (·.1)/\bQ K (cn B H) (b.map (·.2)) (fs.map (·.2))
 |.EH x=>B.hd a=true/\∃g:Obj,H a=some (.ext λh=>h.get? a=some g)/\g.cls=.ref (clsAt K x)
structure HA(K:Frag)(B:fw)(A:Ab)(H:Hp):Prop where
 hb:HB B H
 ob:∀i o,A[i]?=some o->∃a,B.ix a=some i/\sI K B H a o
 inj:∀a b i,B.ix a=some i->B.ix b=some i->a=b
 lt:∀a i,B.ix a=some i->i<A.length
structure Grows(B:fw)(H:Hp)(B':fw)(H':Hp):Prop where
 jR:fj (cn B H) (cn B' H')
 kp:∀b o,B.ix b=none->H b=some o->H' b=some o
 hd:∀b,B.ix b=none->B.hd b=true->B'.hd b=true
 nw:∀b i,B'.ix b=some i->B.ix b=none->H b=none
section
variable {B' B1 B2:fw}{H' H2:Hp}{A:Ab}
theorem sI.same {o:Ao}(h:sI K B H a o)(s:bo H H'):sI K B H' a o:=by
 cases o with
 |lst ts=>obtain⟨h0,vs,h1,h2⟩:=h;exact⟨h0,vs,s _ _ h1,h2.same (bL s)⟩
 |bW bE=>obtain⟨h0,vs,h1,h2⟩:=h;exact⟨h0,vs,s _ _ h1,h2.same (bL s)⟩
 |vV bE=>obtain⟨h0,vs,h1,h2,b⟩:=h;exact⟨h0,vs,s _ _ h1,h2,b.same (bL s)⟩
 |EH x=>obtain⟨h0,oe,h1,h2⟩:=h;exact⟨h0,oe,s _ _ h1,h2⟩
 |ins c fs=>obtain⟨h0,dx,iy,h1,h2,b,g,l⟩:=h;exact⟨h0,dx,iy,s _ _ h1,s _ _ h2,b,g,l.same (bL s)⟩
theorem sI.hd {o:Ao}(h:sI K B H a o):B.hd a=true:=by cases o<;>exact h.1
def sI.mem {o:Ao}(h:sI K B H a o):∃x,H a=some x/\(∀vs,x≠ .tup vs)/\∀q u,x≠ .lJ q u:=by
 cases o with
 |lst ts=>obtain⟨h0,vs,h1,h2⟩:=h;exact⟨_,h1,(λ_ e=>by cases e),(λ_ _ e=>by cases e)⟩
 |bW bE=>obtain⟨h0,vs,h1,h2⟩:=h;exact⟨_,h1,(λ_ e=>by cases e),(λ_ _ e=>by cases e)⟩
 |vV bE=>obtain⟨h0,vs,h1,h2⟩:=h;exact⟨_,h1,(λ_ e=>by cases e),(λ_ _ e=>by cases e)⟩
 |EH x=>obtain⟨h0,oe,h1,h2⟩:=h;exact⟨_,h1,(λ_ e=>by cases e),(λ_ _ e=>by cases e)⟩
 |ins c fs=>obtain⟨h0,dx,iy,h1,h2⟩:=h;exact⟨_,h1,(λ_ e=>by cases e),(λ_ _ e=>by cases e)⟩
theorem HA.same (h:HA K B A H)(s:bo H H'):HA K B A H':=
 ⟨h.hb.same s,λi o e=>by obtain⟨a,h1,h2⟩:=h.ob i o e;exact⟨a,h1,h2.same s⟩,h.inj,h.lt⟩
def HA.get (h:HA K B A H){i:Nat}{o:Ao}(e:B.ix a=some i)(q:A[i]?=some o):sI K B H a o:=by
 obtain⟨b,h1,h2⟩:=h.ob i o q;rw[h.inj a b i e h1];exact h2
def HA.ex (h:HA K B A H){i:Nat}(e:B.ix a=some i):∃o,A[i]?=some o/\sI K B H a o:=by
 have l:=h.lt a i e;exact⟨A[i],bZ l,h.get e (bZ l)⟩
def HA.free (h:HA K B A H){p:Addr}(hp:H p=none):B.ix p=none:=by
 cases e:B.ix p with
 |none=>rfl
 |some i=>
  obtain⟨o,_,q⟩:=h.ex e;obtain⟨x,b,_⟩:=q.mem;rw[hp]at b;cases b
def Grows.of (s:bo H H'):Grows B H B H':=⟨bL s,λb o _ e=>s b o e,λ_ _ e=>e,λb i e n=>by rw[n]at e;cases e⟩
theorem Grows.refl:Grows B H B H:=.of (bo.refl H)
theorem Grows.trans (hb:HB B H)(a:Grows B H B1 ac)(b:Grows B1 ac B2 H2):Grows B H B2 H2:=by
 have key:∀c,B.ix c=none->(∃o,H c=some o)->B1.ix c=none:=λc n ⟨o,e⟩=>by
  cases q:B1.ix c with
  |none=>rfl
  |some i=>have:=a.nw c i q n;rw[e]at this;cases this
 refine⟨a.jR.trans b.jR,λc o n e=>b.kp c o (key c n ⟨o,e⟩) (a.kp c o n e),λc n e=>?_,λc i e n=>?_⟩
 ·exact b.hd c (key c n (hb c e)) (a.hd c n e)
 ·cases q:B1.ix c with
  |none=>
   have:=b.nw c i e q;cases g:H c with
   |none=>rfl
   |some o=>rw[a.kp c o n g]at this;cases this
  |some j=>exact a.nw c j q n
noncomputable def p9(B:fw)(p:Addr)(i:Nat):fw:=⟨λb=>B.hd b||b==p,λb=>if b=p then some i else B.ix b⟩
def q_:(p9 B a i).hd a=true:=by show(B.hd a||a==a)=true;rw[bU,pK]
def iQ{p:Addr}:(p9 B p i).ix p=some i:=aY rfl
def iR{b:Addr}(h:b≠a):(p9 B a i).ix b=B.ix b:=bc h
def uD{b:Addr}(h:b≠a):(p9 B a i).hd b=B.hd b:=by show(B.hd b||b==a)=_;rw[km h,kT]
def K6{p:Addr}(hp:H p=none)(hx:B.ix p=none)(s:bo H H'):fj (cn B H) (cn (p9 B p i) H'):=⟨λb u e=>by
 have l:=bJ b u e;have g:b≠p:=bV l hp;have r:B.hd b=false:=by
  cases q:B.hd b with
  |false=>rfl
  |true=>
   have n:(if B.hd b=true then none else H b)=some u:=e;rw[q,aY rfl]at n;cases n
 rw[gv (by rw[uD g];exact r)];exact s b u l,λb j e=>by
 have g:b≠p:=λz=>by rw[z]at e;rw[show(cn B H).ix p=B.ix p from rfl,hx]at e;cases e
 show(p9 B p i).ix b=some j;rw[iR g];exact e⟩
theorem HA.push {p:Addr}{o:Ao}(h:HA K B A H)(hp:H p=none)(s:bo H H')(ho:sI K (p9 B p A.length) H' p o):Grows B H (p9 B p A.length) H'/\HA K (p9 B p A.length) (A++[o]) H':=by
 have hx:=h.free hp;have r:fj (cn B H) (cn (p9 B p A.length) H'):=K6 hp hx s;have up:∀{a:Addr} {u:Ao},a≠p->sI K B H a u->sI K (p9 B p A.length) H' a u:=λ{a u} M q=>by
  have I:(p9 B p A.length).hd a=true:=by rw[uD M];exact q.hd
  cases u with
  |lst ts=>obtain⟨h0,vs,h1,h2⟩:=q;exact⟨I,vs,s _ _ h1,h2.same r⟩
  |bW bE=>obtain⟨h0,vs,h1,h2⟩:=q;exact⟨I,vs,s _ _ h1,h2.same r⟩
  |vV bE=>obtain⟨h0,vs,h1,h2,h3⟩:=q;exact⟨I,vs,s _ _ h1,h2,h3.same r⟩
  |EH x=>obtain⟨h0,oe,h1,h2⟩:=q;exact⟨I,oe,s _ _ h1,h2⟩
  |ins c fs=>
   obtain⟨h0,dx,iy,h1,h2,h3,h4,h5⟩:=q;exact⟨I,dx,iy,s _ _ h1,s _ _ h2,by rw[iR (bV h2 hp)];exact h3,h4,h5.same r⟩
 refine⟨⟨r,λb u _ e=>s b u e,λb _ e=>?_,λb i e n=>?_⟩,⟨λb e=>?_,λi u e=>?_,λa b i l g=>?_,λa i e=>?_⟩⟩
 ·show(B.hd b||b==p)=true;rw[e,Bool.true_or]
 ·by_cases q:b=p
  ·rw[q];exact hp
  ·rw[iR q,n]at e;cases e
 ·by_cases q:b=p
  ·rw[q];obtain⟨x,g,_⟩:=ho.mem;exact⟨x,g⟩
  ·rw[uD q]at e;obtain⟨x,g⟩:=h.hb b e;exact⟨x,s _ _ g⟩
 ·by_cases q:i<A.length
  ·rw[o7 q]at e;obtain⟨a,l,g⟩:=h.ob i u e;have M:a≠p:=λz=>by rw[z,hx]at l;cases l
   exact⟨a,by rw[iR M];exact l,up M g⟩
  ·rw[xh (Nat.le_of_not_lt q)]at e;have hi:i - A.length=0:=by
    cases z:i - A.length with
    |zero=>rfl
    |succ k=>rw[z]at e;cases e
   rw[hi]at e;cases e;have:i=A.length:=by omega
   subst this;exact⟨p,iQ,ho⟩
 ·by_cases S:a=p
  ·by_cases L:b=p
   ·rw[S,L]
   ·rw[S,iQ]at l;cases l;rw[iR L]at g;exact absurd (h.lt b _ g) (eZ _)
  ·by_cases L:b=p
   ·rw[L,iQ]at g;cases g;rw[iR S]at l;exact absurd (h.lt a _ l) (eZ _)
   ·rw[iR S]at l;rw[iR L]at g;exact h.inj a b i l g
 ·rw[fm,List.length_singleton];by_cases q:a=p
  ·rw[q,iQ]at e;cases e;exact pw _
  ·rw[iR q]at e;exact lR (h.lt a i e)
def jx{u:HO}(h:B.hd a=true):cn B (upd H a u)=cn B H:=by
 unfold cn;congr 1;funext b;by_cases q:b=a
 ·subst q;rw[aY h,aY h]
 ·rw[bq q]
def HA.write {o:Ao}{u:HO}(h:HA K B A H)(e:B.ix a=some i)(ho:sI K B (upd H a u) a o):Grows B H B (upd H a u)/\HA K B (A.set i o) (upd H a u):=by
 have hd:B.hd a=true:=ho.hd;have l:cn B (upd H a u)=cn B H:=jx hd;refine⟨⟨by rw[l];exact fj.refl _,λb x n q=>?_,λ_ _ q=>q,λb j q n=>by rw[n]at q;cases q⟩,⟨λb q=>?_,λj x q=>?_,h.inj,λb j q=>by rw[kS];exact h.lt b j q⟩⟩
 ·have g:b≠a:=λz=>by rw[z,e]at n;cases n
  rw[bq g];exact q
 ·by_cases z:b=a
  ·subst z;exact⟨u,bP⟩
  ·rw[bq z];exact h.hb b q
 ·rcases fU q with⟨rfl,_,rfl⟩|⟨S,q⟩
  ·exact⟨a,e,ho⟩
  ·obtain⟨b,L,r⟩:=h.ob j x q;have g:b≠a:=λz=>by rw[z,e]at L;cases L;exact S rfl
   refine⟨b,L,?_⟩;cases x with
   |lst ts=>obtain⟨h0,vs,h1,h2⟩:=r;exact⟨h0,vs,by rw[bq g];exact h1,by rw[l];exact h2⟩
   |bW bE=>obtain⟨h0,vs,h1,h2⟩:=r;exact⟨h0,vs,by rw[bq g];exact h1,by rw[l];exact h2⟩
   |vV bE=>obtain⟨h0,vs,h1,h2,I⟩:=r;exact⟨h0,vs,by rw[bq g];exact h1,h2,by rw[l];exact I⟩
   |EH x=>obtain⟨h0,oe,h1,h2⟩:=r;exact⟨h0,oe,by rw[bq g];exact h1,h2⟩
   |ins c fs=>
    obtain⟨h0,dx,iy,h1,h2,I,h4,h5⟩:=r;have M:dx≠a:=λz=>by rw[z,e]at I;cases I
    exact⟨h0,dx,iy,by rw[bq g];exact h1,by rw[bq M];exact h2,I,h4,by rw[l];exact h5⟩
end
mutual
def wu:Tr->Bool
 |.at _=>false
 |.tup ts=>jJ ts
 |.lst ts=>jJ ts
 |.bW bE=>G5 bE
 |.vV bE=>G6 bE
 |.ob _ fs=>G7 fs
 |_=>true
def jJ:List Tr->Bool
 |[]=>true
 |t::ts=>wu t&&jJ ts
def G5:List (Key×Tr)->Bool
 |[]=>true
 |p::r=>QN p&&G5 r
def QN:Key×Tr->Bool
 |(_,t)=>wu t
def G6:List (List Key×Tr)->Bool
 |[]=>true
 |p::r=>QQ p&&G6 r
def QQ:List Key×Tr->Bool
 |(_,t)=>wu t
def G7:List (Str×Tr)->Bool
 |[]=>true
 |p::r=>QR p&&G7 r
def QR:Str×Tr->Bool
 |(_,t)=>wu t
end
theorem Ag:∀(bE:List (Key×Tr)),G5 bE=jJ (bE.map (·.2))
 |[]=>rfl
 |(k,t)::r=>by rw[G5,QN,bB,jJ,Ag r]
theorem Ah:∀(bE:List (List Key×Tr)),G6 bE=jJ (bE.map (·.2))
 |[]=>rfl
 |(k,t)::r=>by rw[G6,QQ,bB,jJ,Ah r]
theorem Ai:∀(bE:List (Str×Tr)),G7 bE=jJ (bE.map (·.2))
 |[]=>rfl
 |(k,t)::r=>by rw[G7,QR,bB,jJ,Ai r]
mutual
noncomputable def JX:Tr->Bool
 |.cA=>true
 |.bl _=>true
 |.int _=>true
 |.str _=>true
 |.ty _=>true
 |.at _=>true
 |.tup ts=>nc ts
 |_=>false
noncomputable def nc:List Tr->Bool
 |[]=>true
 |t::ts=>JX t&&nc ts
end
def aZ:Nat->Ab->Tr->Tr
 |0,_,t=>t
 |n+1,A,.at i=>match A[i]? with
  |some (.lst ts)=>.lst (ts.map (aZ n A))
  |some (.bW bE)=>.bW (bE.map λp=>(p.1,aZ n A p.2))
  |some (.vV bE)=>.vV (bE.map λp=>(p.1,aZ n A p.2))
  |some (.ins c fs)=>.ob c (fs.map λp=>(p.1,aZ n A p.2))
  |some (.EH x)=>.z6 x
  |none=>.at i
 |_+1,_,t=>t
def fw.un (B:fw):fw:=⟨λb=>B.hd b&&(B.ix b).isNone,B.ix⟩
section
variable {B':fw}{A:Ab}
def QU:vW B.un B:=⟨λb e=>by
 have g:(B.hd b&&(B.ix b).isNone)=true:=e;rw[bY]at g;exact g.1,λ_ _ e=>e⟩
def jf:fj (cn B H) (cn B.un H):=yi QU
def Ds(h:HB B H):HB B.un H:=λb e=>h b (QU.hd b e)
def Dt(e:B.ix a=some i):(cn B.un H).H a=H a:=gv (by show(B.hd a&&(B.ix a).isNone)=false;rw[e];exact xM _)
theorem p_{W W':Vw}{f:Tr->Tr}(h:∀{v t},Rep K W v t->Rep K W' v (f t)):∀{vs:List V} {ts:List Tr},bQ K W vs ts->bQ K W' vs (ts.map f)
 |[],_,r=>by cases r;exact .nil
 |_::_,_,r=>by cases r with|cons b r=>exact .cons (h b) (p_ h r)
theorem jK(ha:HA K B A H):∀(n:Nat) {v:V} {t:Tr},Rep K (cn B H) v t->Rep K (cn B.un H) v (aZ n A t)
 |0,v,t,r=>by rw[aZ];exact r.same jf
 |n+1,v,t,r=>by
  cases r with
  |@«at» a i h=>
   have e:B.ix a=some i:=h;obtain⟨o,q,g⟩:=ha.ex e;rw[aZ,q];cases o with
   |lst ts=>
    obtain⟨h0,vs,h1,h2⟩:=g;exact .lst (by rw[Dt e];exact h1) (p_ (λr=>jK ha n r) h2)
   |bW bE=>
    obtain⟨h0,kvs,h1,h2⟩:=g;refine .bW (.inl (by rw[Dt e];exact h1)) (by rw[h2.keys,cO];rfl) ?_
    have:=p_ (λr=>jK ha n r) h2.vals;rw[cO]at this⊢;exact this
   |EH x=>obtain⟨h0,oe,h1,h2⟩:=g;exact .z6 (by rw[Dt e];exact h1) h2
   |vV bE=>
    obtain⟨h0,kvs,h1,h2,l⟩:=g;refine .vV (by rw[Dt e];exact h1) (by rw[h2,cO];rfl) ?_
    have:=p_ (λr=>jK ha n r) l;rw[cO]at this⊢;exact this
   |ins c fs=>
    obtain⟨h0,dx,iy,h1,h2,l,I,L⟩:=g;refine .ob (by rw[Dt e];exact h1) (by rw[I,cO];rfl) ?_
    have:=p_ (λr=>jK ha n r) L;rw[cO]at this⊢;exact this
  |cA=>exact .cA
  |bl b=>exact .bl b
  |int i=>exact .int i
  |str z h=>exact .str z h
  |ty m=>exact .ty m
  |vU h=>exact .vU (jf.h.seq h)
  |tup h r=>exact .tup (jf.h.tup h) (r.same jf)
  |lst h r=>exact .lst (jf.h _ _ h) (r.same jf)
  |bW h e r=>exact .bW (h.same jf.h) e (r.same jf)
  |vV h e r=>exact .vV (jf.h _ _ h) e (r.same jf)
  |ob h e r=>exact .ob (jf.h _ _ h) e (r.same jf)
  |z6 h c=>exact .z6 (jf.h _ _ h) c
def S1(ha:HA K B A H){x:HO}(e:(cn B.un H).H a=some x)(hx:(∃vs,x=.tup vs)\/∃o u,x=.lJ o u):(cn B H).H a=some x:=by
 have b:=bJ a x e;cases q:B.hd a with
 |false=>rw[gv q];exact b
 |true=>
  cases z:B.ix a with
  |none=>
   have g:(if B.un.hd a=true then none else H a)=some x:=e;rw[show B.un.hd a=(B.hd a&&(B.ix a).isNone)from rfl,q,z]at g;cases g
  |some i=>
   obtain⟨o,_,n⟩:=ha.ex z;obtain⟨y,l,r,I⟩:=n.mem;rw[b]at l;cases l;rcases hx with⟨vs,rfl⟩|⟨o,u,rfl⟩
   ·exact absurd rfl (r vs)
   ·exact absurd rfl (I o u)
structure lY(W W':Vw):Prop where
 h:∀a x,W.H a=some x->((∃vs,x=.tup vs)\/∃o u,x=.lJ o u)->W'.H a=some x
 x:∀a i,W.ix a=some i->W'.ix a=some i
theorem lY.un (q:HA K B A H):lY (cn B.un H) (cn B H):=⟨λa x e b=>S1 q e b,λ_ _ e=>e⟩
def lY.trans {W W1 W2:Vw}(a:lY W W1)(b:lY W1 W2):lY W W2:=⟨λc x e g=>b.h c x (a.h c x e g) g,λc i e=>b.x c i (a.x c i e)⟩
def lY.new {p:Addr}{x:HO}(hx:B.ix p=none)(hp:H p=some x)(n1:∀vs,x≠ .tup vs)(n2:∀o u,x≠ .lJ o u):lY (cn B H) (cn (p9 B p i) H):=⟨λa y e n=>by
 have b:=bJ a y e;have g:a≠p:=λz=>by
  rw[z,hp]at b;cases b;rcases n with⟨vs,z⟩|⟨o,u,z⟩
  ·exact n1 vs z
  ·exact n2 o u z
 have r:B.hd a=false:=by
  cases q:B.hd a with
  |false=>rfl
  |true=>
   have l:(if B.hd a=true then none else H a)=some y:=e;rw[q,aY rfl]at l;cases l
 rw[gv (by rw[uD g];exact r)];exact b,λa j e=>by
 have g:a≠p:=λz=>by rw[z]at e;rw[show(cn B H).ix p=B.ix p from rfl,hx]at e;cases e
 show(p9 B p i).ix a=some j;rw[iR g];exact e⟩
def G8{W W':Vw}(s:lY W W'){v:V}{t:Tr}(h:Rep K W v t):JX t=true->Rep K W' v t:=by
 refine Rep.rec (motive_1:=λv t _=>JX t=true->Rep K W' v t) (motive_2:=λvs ts _=>nc ts=true->bQ K W' vs ts) ?_ ?_ ?_ ?_ ?_ ?_ ?_ ?_ ?_ ?_ ?_ ?_ ?_ ?_ ?_ h
 ·exact λ_=>.cA
 ·exact λb _=>.bl b
 ·exact λi _=>.int i
 ·exact λz h _=>.str z h
 ·exact λn _=>.ty n
 ·exact λh f=>nomatch f
 ·intro a vs ts h _ r f;refine .tup ?_ (r f)
  rcases h with(h|⟨o,h⟩)|h
  ·exact .inl (.inl (s.h _ _ h (.inl ⟨_,rfl⟩)))
  ·exact .inl (.inr ⟨o,s.h _ _ h (.inr ⟨_,_,rfl⟩)⟩)
  ·exact .inr h
 ·exact λh _ _ f=>nomatch f
 ·exact λh _ _ _ f=>nomatch f
 ·exact λh _=>.at (s.x _ _ h)
 ·exact λh _ _ _ f=>nomatch f
 ·exact λh _ _ _ f=>nomatch f
 ·exact λh c f=>nomatch f
 ·exact λ_=>.nil
 ·intro v t vs ts _ _ g l f;rw[nc,bY]at f;exact .cons (g f.1) (l f.2)
theorem qa{W W':Vw}(s:lY W W'):∀{vs:List V} {ts:List Tr},bQ K W vs ts->nc ts=true->bQ K W' vs ts
 |[],_,r,_=>by cases r;exact .nil
 |_::_,_,r,f=>by
  cases r with
  |cons h r=>
   rw[nc,bY]at f;exact .cons (G8 s h f.1) (qa s r f.2)
def Aj(q:HA K B A H){v:V}{t:Tr}(h:Rep K (cn B.un H) v t)(f:JX t=true):Rep K (cn B H) v t:=G8 (.un q) h f
def Rep.K7 {W W':Vw}(s:bo W.H W'.H){v:V}{t:Tr}(h:Rep K W v t):wu t=true->Rep K W' v t:=by
 refine Rep.rec (motive_1:=λv t _=>wu t=true->Rep K W' v t) (motive_2:=λvs ts _=>jJ ts=true->bQ K W' vs ts) ?_ ?_ ?_ ?_ ?_ ?_ ?_ ?_ ?_ ?_ ?_ ?_ ?_ ?_ ?_ h
 ·exact λ_=>.cA
 ·exact λb _=>.bl b
 ·exact λi _=>.int i
 ·exact λz h _=>.str z h
 ·exact λn _=>.ty n
 ·exact λh _=>.vU (s.seq h)
 ·exact λh _ g f=>.tup (s.tup h) (g f)
 ·exact λh _ g f=>.lst (s _ _ h) (g f)
 ·intro a kvs bE h e _ g f;refine .bW (Rd.same s h) e (g ?_);rw[wu,Ag]at f;exact f
 ·exact λh f=>nomatch f
 ·intro a kvs bE h e _ g f;refine .vV (s _ _ h) e (g ?_);rw[wu,Ah]at f;exact f
 ·intro a c dx I fs h e _ g f;refine .ob (s _ _ h) e (g ?_);rw[wu,Ai]at f;exact f
 ·exact λh c _=>.z6 (s _ _ h) c
 ·exact λ_=>.nil
 ·intro v t vs ts _ _ l r f;rw[jJ,bY]at f;exact .cons (l f.1) (r f.2)
theorem bQ.K7 {W W':Vw}(s:bo W.H W'.H):∀{vs:List V} {ts:List Tr},bQ K W vs ts->jJ ts=true->bQ K W' vs ts
 |[],_,r,_=>by cases r;exact .nil
 |_::_,_,r,f=>by
  cases r with
  |cons h r=>
   rw[jJ,bY]at f;exact .cons (h.K7 s f.1) (bQ.K7 s r f.2)
end
def W6(A:Ab):Cell->Cell
 |.sh t=>.sh (aZ 5 A t)
 |c=>c
def dw(A:Ab)(Y:bX):bX:=Y.map (W6 A)
theorem cK.OE {A:Ab}{Y:bX}(ha:HA K B A H)(n:fV Y)(h:cK K B H Z Y):cK K B.un H Z (dw A Y):=by
 have no:∀i ts,(dw A Y)[i]? ≠some (Cell.ow ts):=λi ts e=>by
  unfold dw at e;rw[cq]at e;cases q:Y[i]? with
  |none=>rw[q]at e;cases e
  |some c=>
   rw[q]at e;cases c with
   |no=>cases e
   |sh t=>cases e
   |ow us=>exact n i us q
 refine⟨by unfold dw;rw[bu];exact h.len,λi t e=>?_,λi ts e=>absurd e (no i ts),λi j ts us D _ e=>absurd e (no i ts)⟩;unfold dw at e;rw[cq]at e;cases q:Y[i]? with
 |none=>rw[q]at e;cases e
 |some c=>
  rw[q]at e;cases c with
  |no=>cases e
  |ow us=>exact absurd q (n i us)
  |sh u=>
   obtain⟨v,b,r⟩:=h.sh i u q;have g:aZ 5 A u=t:=by
    have l:=Option.some.inj e;exact(Cell.sh.inj l)
   rw[<-g];exact⟨v,b,jK ha 5 r⟩
def cK.grow {B':fw}{H':Hp}{Y:bX}(h:cK K B H Z Y)(n:fV Y)(g:Grows B H B' H'):cK K B' H' Z Y:=
 ⟨h.len,λi t e=>by obtain⟨v,b,r⟩:=h.sh i t e;exact⟨v,b,r.same g.jR⟩,λi ts e=>absurd e (n i ts),λi j ts us D _ e=>absurd e (n i ts)⟩
theorem cX.get {h:Heap}{o:HO}(x:cX P w H h a o):∃u,h.get? a=some u:=by
 cases o with
 |lst xs=>obtain⟨_,_,_,_,e⟩:=x;exact⟨_,e⟩
 |tup xs=>obtain⟨_,_,_,o,e,_⟩:=x;exact⟨o,e⟩
 |dK kvs=>obtain⟨_,_,_,_,o,_,_,e,_⟩:=x;exact⟨o,e⟩
 |dT kvs=>obtain⟨_,_,_,_,o,_,_,e,_⟩:=x;exact⟨o,e⟩
 |set S n=>obtain⟨o,_,_,_,e,_⟩:=x;exact⟨o,e⟩
 |ins C dx fs=>obtain⟨_,_,_,e,_⟩:=x;exact⟨_,e⟩
 |own y=>exact x
 |xd fs=>obtain⟨_,⟨_,_,_,e,_⟩,_⟩:=x;exact⟨_,e⟩
 |ZK lo hi=>obtain⟨_,_,_,e⟩:=x;exact⟨_,e⟩
 |lJ b u=>obtain⟨e,_⟩:=x;exact⟨_,e⟩
 |Qe ps=>exact⟨_,(show h.get? a=some _ from x)⟩
 |met f y=>exact⟨_,(show h.get? a=some _ from x)⟩
 |ext g=>obtain⟨_,e,_⟩:=x;exact e
structure QV(h0:Heap)(H:Hp)(h:Heap)(a:Addr)(cls:Value):Prop where
 ob:∃oe vs a0,h.get? a=some oe/\oe.cls=cls/\oe.data=.fields vs/\vs[0]?=some a0/\
  (vs[1]?=some .none\/∃T oT ts,vs[1]?=some (.ref T)/\T≠a/\h0.get? T=none/\H T=none/\h.get? T=some oT/\oT.data=.fields ts/\ts[3]?=some .none)
 fr:H a=none
 nw:h0.get? a=none
def XS(X:Cx)(H:Hp)(cls e:Value)(s:Shared):Prop:=∃a U Z h0,e=.ref a/\Inv X U Z H s/\QV h0 H s.heap a cls/\(∀b,h0.get? b=none->X.gH.heap.get? b=none)/\(∀p∈X.pn,∃o,h0.get? p.1=some o)/\∀b,s.heap.get? b=none->h0.get? b=none
def EX(X:Cx):XK:=λcls _ H=>∀e s,XS X H cls e s->X.xe e s
def vt(P:Program)(w:World):CQ:=λouter H s E e s'=>∃a cls H',e=.ref a/\s'.os=s.os/\AllBare s'.gens/\Un (j8 outer) [] H H' s.heap s'.heap/\sA P w H' s'.heap/\QV s.heap H' s'.heap a cls/\E cls none H'
def QV.W7 {h0 h1 h:Heap}{cls:Value}(u:QV h1 H h a cls)(k:∀b,h1.get? b=none->h0.get? b=none):QV h0 H h a cls:=by
 obtain⟨⟨l,vs,a0,r,I,L,M,g⟩,f,n⟩:=u;refine⟨⟨l,vs,a0,r,I,L,M,?_⟩,f,k a n⟩;rcases g with g|⟨T,oT,ts,S,q,q3,q4⟩
 ·exact .inl g
 ·exact .inr ⟨T,oT,ts,S,q,k T q3,q4⟩
def Inv.Du (I:Inv X U Z H s)(hx:X.ex=[]){b:Addr}(n:s.heap.get? b=none):X.gH.heap.get? b=none:=by
 cases q:X.gH.heap.get? b with
 |none=>rfl
 |some o=>
  obtain⟨o',e⟩:=I.base.there b o q (by rw[hx];simp);rw[n]at e;cases e
theorem ng(hx:X.ex=[]):Passes (vt X.prog X.w) X (EX X):=by
 intro U Z H s e s' I z;obtain⟨a,cls,H',rfl,os,bare,un,cW,G9,q⟩:=z;have ce:CE X.stack X.prog X.w H s (λ_ H2=>H2=H') .none s':=⟨.cA,H',os,bare,un,cW,rfl,rfl⟩;obtain⟨v,H2,g,_,rfl⟩:=I.after ce;exact q (.ref a) s' ⟨a,U,Z,s.heap,rfl,g,G9,λb n=>I.Du hx n,λp hp=>⟨_,(I.pin p (kg _ hp)).1⟩,λb n=>by
  cases z:s.heap.get? b with
  |none=>rfl
  |some o=>obtain⟨o',e⟩:=un.there b o z (by simp);rw[n]at e;cases e⟩
section
variable {base:Heap}{outer:List Env}{E:XK}
theorem K8{cls e:Value}{s':Shared}(x:XS (oZ (vt P w) P w K mg base ps av ax au af A outer s H E) ac cls e s')(q:E cls none ac):(oZ (vt P w) P w K mg base ps av ax au af A outer s H E).xe e s':=by
 obtain⟨a,U,Z,h00,rfl,I,aaW,old,_,_⟩:=x;have G9:=aaW.W7 (h0:=s.heap) old;obtain⟨⟨oe,vs,a0,he,A6,hd,h0,h1⟩,fr,nw⟩:=G9
 let env:=envOfC av ax s.heap.objs.size au af
 have Vm:(A.deeper env).frames=some (env::outer):=I.ok.frames;have hk:s'.heap.FunFrames base (env::outer):=I.stack;have Vn:∀L∈j8 (env::outer),ac L=none/\∃o,s'.heap.get? L=some o/\∀ws,o.data≠ .fields ws:=λL r=>⟨I.wK L r,(hk.mem r).2⟩;have haf:a∉j8 (env::outer):=λm=>by
  obtain⟨_,o,g,l⟩:=Vn a m;rw[he]at g;cases g;exact l vs hd
 have fin:∀(hs:List Addr) (h':Heap),(∀b∈hs,ac b=none/\(b∈j8 (env::outer)\/s.heap.get? b=none))->(∀b∈j8 (env::outer),b∈hs)->a∈hs->(∀b∈hs,b∈j8 (env::outer)\/b=a\/ac b=none)->
   Heap.LeftW (PySem.W.hideAll s'.heap hs) (env::outer) a cls a0 s'.heap h'->vt P w outer H s E (.ref a) {s' with heap:=h'}:=by
  intro hs h' hh Rt abS _ ⟨k1,k2,k3,k4⟩;have kp:∀b o,b∉hs->s'.heap.get? b=some o->h'.get? b=some o:=λb o nb e=>k1 b o (mL _ e nb);have old:∀b o,s.heap.get? b=some o->b∉j8 outer->b∉hs:=λb o e M m=>by
   rcases(hh b m).2 with z|z
   ·unfold j8 at z;rw[pf]at z;have S:b∈s.heap.objs.size::j8 outer:=z;rcases bH.mp S with S|S
    ·exact absurd (bz e) (by rw[S];exact eZ _)
    ·exact M S
   ·rw[e]at z;cases z
  have sl:∀b o,s'.heap.get? b=some o->b∈j8 outer->∃sl,h'.get? b=some {o with slots:=sl}:=λb o e m=>by
   obtain⟨_,o2,l,M⟩:=Vn b (by unfold j8 at m⊢;rw[pf];exact cw _ m);rw[e]at l;cases l;exact k4 b o e M
  have pins:Un (j8 outer) [] H ac s.heap s'.heap:=I.base;refine⟨a,cls,ac,rfl,I.os,I.bare,⟨λb o e n M nx=>?_,λb o e n m nx=>?_,pins.free,λb o e nx=>?_,pins.m4,pins.lK,pins.nU⟩,λb o e=>?_,⟨?_,fr,nw⟩,q⟩
  ·exact kp b o (old b o e M) (pins.keep b o e n M nx)
  ·obtain⟨s1,g⟩:=pins.slot b o e n m nx;obtain⟨s2,l⟩:=sl b _ g m;exact⟨s2,l⟩
  ·obtain⟨o1,g⟩:=pins.there b o e nx;by_cases m:b∈j8 outer
   ·obtain⟨s2,l⟩:=sl b o1 g m;exact⟨_,l⟩
   ·exact⟨o1,kp b o1 (old b o e m) g⟩
  ·refine(I.cW b o e).pQ (λc u hc z=>kp c u (λm=>?_) z) (λ_ z=>z) λ_ _ z=>z;have n:=(hh c m).1;rcases hc with rfl|hc
   ·rw[n]at e;cases e
   ·rw[n]at hc;cases hc
  ·obtain⟨oe2,vs2,T,oT,ts,q1,⟨q2,q3⟩,q4,q5,q6,q7,q8,q9,q10⟩:=k3;refine⟨oe2,vs2,a0,q1,q2,q4,q3,.inr ⟨T,oT,ts,q5,q7,?_,?_,q8,q9,q10⟩⟩
   ·by_cases m:T∈hs
    ·rcases(hh T m).2 with z|z
     ·obtain⟨o3,e3,n3⟩:=(k2.mem z).2;rw[q8]at e3;cases e3;exact absurd q9 (n3 ts)
     ·exact z
    ·cases z:s.heap.get? T with
     |none=>rfl
     |some o=>
      obtain⟨o1,g⟩:=pins.there T o z (by simp);rw[mL _ g m]at q6;cases q6
   ·by_cases m:T∈hs
    ·exact(hh T m).1
    ·cases z:ac T with
     |none=>rfl
     |some o=>
      obtain⟨u,g⟩:∃u,s'.heap.get? T=some u:=(I.cW T o z).get;rw[mL _ g m]at q6;cases q6
 have lL:∀e∈(env::outer),∀b,e.frame=some b->b∈j8 (env::outer):=λe he b hb=>lQ.mpr ⟨e,he,hb⟩;show wpAny (model P w) (A.deeper env) (leaving env (.ref a)) (λ_ RY=>vt P w outer H s E (.ref a) RY) _ s';rcases h1 with h1|⟨T,oT,ts,h1,hTa,hT0,Nl,hT,Z4,h3⟩
 ·let hs:=a::j8 (env::outer)
  refine wpAny_leaving_firstW (base:=PySem.W.hideAll s'.heap hs) Vm (pd hk λe he b hb=>cw _ (lL e he b hb)) rfl he (λb o z=>mO _ z) (lO _ (cG ..)) hd h1 h0 λh' r=>?_
  rw[A6]at r;refine fin hs h' (λb m=>?_) (λb m=>cw _ m) (cG ..) (λb m=>?_) r
  ·rcases bH.mp m with rfl|m
   ·exact⟨fr,.inr nw⟩
   ·exact⟨(Vn b m).1,.inl m⟩
  ·rcases bH.mp m with rfl|m
   ·exact .inr (.inl rfl)
   ·exact .inl m
 ·let hs:=a::T::j8 (env::outer)
  refine wpAny_leaving_nextW (base:=PySem.W.hideAll s'.heap hs) (cls:=cls) (a0:=a0) Vm (pd hk λe he b hb=>cw _ (cw _ (lL e he b hb))) rfl
   ⟨oe,vs,T,oT,ts,he,⟨A6,h0⟩,hd,h1,lO _ (cw _ (cG ..)),hTa,hT,Z4,h3⟩ (λb o z=>mO _ z) (lO _ (cG ..)) λh' r=>?_
  refine fin hs h' (λb m=>?_) (λb m=>cw _ (cw _ m)) (cG ..) (λb m=>?_) r
  ·rcases bH.mp m with rfl|m
   ·exact⟨fr,.inr nw⟩
   ·rcases bH.mp m with rfl|m
    ·exact⟨Nl,.inr hT0⟩
    ·exact⟨(Vn b m).1,.inl m⟩
  ·rcases bH.mp m with rfl|m
   ·exact .inr (.inl rfl)
   ·rcases bH.mp m with rfl|m
    ·exact .inr (.inr Nl)
    ·exact .inl m
end
inductive Rz(α:Type) where
 |bad|ok (a:α) (A:Ab)|exc (c:Tr) (A:Ab)
variable {aH:bX->Ab->Rz (List Tr)}{aI aJ:bX->Ab->Rz Tr}{aK:bX->Ab->Rz Out}
noncomputable def Rz.bind {α β:Type}(r:Rz α)(f:α->Ab->Rz β):Rz β:=match r with
 |.ok a A=>f a A
 |.exc c A=>.exc c A
 |.bad=>.bad
def g6(xc:Tr->Ab->Prop){α:Type}(r:Rz α)(k:α->Ab->Prop):Prop:=match r with
 |.ok a A=>k a A
 |.exc c A=>xc c A
 |.bad=>False
section
variable {β:Type}{r:Rz ag}{k k':ag->Ab->Prop}{xc Vi:Tr->Ab->Prop}
def g6.mono (h:g6 xc r k)(w:∀a A,k a A->k' a A):g6 xc r k':=by
 cases r with
 |ok a A=>exact w a A h
 |_=>exact h
def g6.imp (h:g6 xc r k)(w:∀c A,xc c A->Vi c A):g6 Vi r k:=by
 cases r with
 |ok a A=>exact h
 |exc c A=>exact w c A h
 |bad=>exact h
theorem g6.bind {f:ag->Ab->Rz β}{k:β->Ab->Prop}(h:g6 xc (r.bind f) k):g6 xc r λa A=>g6 xc (f a A) k:=by
 cases r with
 |_=>exact h
end
def gS{α:Type}(r:Rs α)(A:Ab):Rz α:=match r with
 |.ok a=>.ok a A
 |_=>.bad
def nh{X:Cx}{H:Hp}{xc:Tr->Ab->Prop}{r:Rs ag}{A:Ab}{k:ag->Ab->Prop}(q:g6 xc (gS r A) k):Fi X H r λa=>k a A:=by
 cases r with
 |ok a=>exact q
 |exc c=>exact fe q
 |bad=>exact q
def W8(K:Frag):Tr->Value
 |.str x=>.ref (clsAt K x)
 |_=>.none
def XE(X:Cx)(B:fw)(H:Hp):Tr->Ab->Prop:=λc A=>∀B' H',Grows B H B' H'->HA X.K B' A H'->EX X (W8 X.K c) none H'
def XE.grow {B':fw}{H':Hp}{c:Tr}{A:Ab}(hb:HB B H)(h:XE X B H c A)(g:Grows B H B' H'):XE X B' H' c A:=λB2 H2 g2 b=>h B2 H2 (g.trans hb g2) b
inductive tE(X:Cx)(F:bX->Ab->Rz Tr)(Z:St)(H:Hp)(Q:VK):Prop
 |mk (B:fw) (A:Ab) (Y:bX):HA X.K B A H->cK X.K B H Z Y->fV Y->(g6 (XE X B H) (F Y A) fun t A'=>∀v B' H',Grows B H B' H'->HA X.K B' A' H'->Rep X.K (cn B' H') v t->Q v H')->tE X F Z H Q
inductive QX(X:Cx)(F:bX->Ab->Rz Bool)(Z:St)(H:Hp)(Q:Bool->Hp->Prop):Prop
 |mk (B:fw) (A:Ab) (Y:bX):HA X.K B A H->cK X.K B H Z Y->fV Y->(g6 (XE X B H) (F Y A) fun b A'=>∀B' H',Grows B H B' H'->HA X.K B' A' H'->Q b H')->QX X F Z H Q
inductive Nm(X:Cx)(F:bX->Ab->Rz (List Tr))(Z:St)(H:Hp)(Q:List V->Hp->Prop):Prop
 |mk (B:fw) (A:Ab) (Y:bX):HA X.K B A H->cK X.K B H Z Y->fV Y->(g6 (XE X B H) (F Y A) fun ts A'=>∀vs B' H',Grows B H B' H'->HA X.K B' A' H'->bQ X.K (cn B' H') vs ts->Q vs H')->Nm X F Z H Q
def S2(H H':Hp)(p:Addr):Prop:=H p=none/\∀o u,H' p≠some (.lJ o u)
theorem S2.lst {H':Hp}{p:Addr}(h:H p=none)(r:Rep K (cn B H') (.ref p) (.lst ts)):S2 H H' p:=by
 cases r with
 |lst e _=>exact⟨h,λo u z=>by rw[bJ _ _ e]at z;cases z⟩
theorem S2.upd {H1:Hp}{p:Addr}{x:HO}(h:H p=none)(q:∀o u,x≠ .lJ o u):S2 H (L2.upd H1 p x) p:=⟨h,λo u z=>by rw[bP]at z;cases z;exact q _ _ rfl⟩
inductive tF(X:Cx)(F:bX->Rs Tr)(Z:St)(H:Hp)(Q:VK):Prop
 |mk (B:fw) (Y:bX):HB B H->cK X.K B H Z Y->(Fi X H (F Y) fun t=>∀v H',bo H H'->Rep X.K (cn B H') v t->(∀p,v=.ref p->S2 H H' p)->Q v H')->tF X F Z H Q
def vZ(r:Rs Tr)(A:Ab):Rz Tr:=match r with
 |.ok t=>if JX t=true then .ok t A else .bad
 |_=>.bad
def vv(r:Rs Tr)(A:Ab):Rz Tr:=match r with
 |.ok (.lst ts)=>if nc ts=true then .ok (.at A.length) (A++[.lst ts])else .bad
 |.ok (.bW bE)=>if nc (bE.map (·.2))=true then .ok (.at A.length) (A++[.bW bE])else .bad
 |.ok (.vV bE)=>if nc (bE.map (·.2))=true then .ok (.at A.length) (A++[.vV bE])else .bad
 |_=>.bad
def Dv{Q:VK}(q:tE X (λY A=>gS (F Y) A) Z H Q):tP X F Z H Q:=by
 obtain⟨B,A,Y,ha,r,_,q⟩:=q;exact⟨B,Y,ha.hb,r,(nh q).mono λt b v H' s g=>b v B H' (.of s) (ha.same s) g⟩
theorem S3(h:PE X e (tP X F)):PE X e (tE X λY A=>gS (F Y) A):=h.weak λZ H Q q=>Dv q
theorem S4(h:PE X e (tP X F)):PE X e (tE X λY A=>vZ (F (dw A Y)) A):=
 h.weak λZ H Q ⟨B,A,Y,ha,r,n,q⟩=>⟨B.un,dw A Y,Ds ha.hb,r.OE ha n,by
   have q:g6 (XE X B H) (vZ (F (dw A Y)) A) _:=q;cases e:F (dw A Y)with
   |bad=>rw[e]at q;exact q
   |exc c=>rw[e]at q;exact fe q
   |ok t=>
    rw[e]at q;intro v H' s g;by_cases f:JX t=true
    ·have b:g6 _ (if JX t=true then Rz.ok t A else .bad) _:=q;rw[aY f]at b;exact b v B H' (.of s) (ha.same s) (Aj (ha.same s) g f)
    ·have b:g6 _ (if JX t=true then Rz.ok t A else .bad) _:=q;rw[bc f]at b;exact fe b⟩
theorem OF(h:PT X e (tQ X aF)):PT X e (QX X λY A=>gS (aF (dw A Y)) A):=
 h.weak λZ H Q ⟨B,A,Y,ha,r,n,q⟩=>⟨B.un,dw A Y,Ds ha.hb,r.OE ha n,(nh q).mono λt b H' s=>b B H' (.of s) (ha.same s)⟩
def iz{c:Prop}[Decidable c]{xc:Tr->Ab->Prop}{r:Rz ag}{k:ag->Ab->Prop}(h:g6 xc (if c then r else .bad) k):c/\g6 xc r k:=by
 by_cases q:c
 ·rw[aY q]at h;exact⟨q,h⟩
 ·rw[bc q]at h;exact fe h
def sJ{Q:VK}(q:tE X (λY A=>vv (F (dw A Y)) A) Z H Q):tF X F Z H Q:=by
  obtain⟨B,A,Y,ha,r,n,q⟩:=q;refine⟨B.un,dw A Y,Ds ha.hb,r.OE ha n,?_⟩;have q:g6 (XE X B H) (vv (F (dw A Y)) A) _:=q;cases e:F (dw A Y)with
  |bad=>rw[e]at q;exact q
  |exc c=>rw[e]at q;exact fe q
  |ok t=>
   rw[e]at q;intro v H' s M fr;have I:=ha.same s;cases M with
   |@lst p vs ts h b=>
    have hp:=(fr p rfl).1;obtain⟨f,l⟩:=iz q;have h1:H' p=some (.lst vs):=bJ _ _ h;obtain⟨g,h2⟩:=ha.push (o:=.lst ts) hp s ⟨q_,vs,h1,qa ((lY.un I).trans (.new (ha.free hp) h1 (λ_ z=>by cases z) λ_ _ z=>by cases z)) b f⟩;exact l _ _ H' g h2 (.at iQ)
   |@bW p kvs bE h L b=>
    have hp:=(fr p rfl).1;obtain⟨f,l⟩:=iz q;have h1:H' p=some (.dK kvs):=by
     rcases h.same bJ with h|⟨o,h⟩
     ·exact h
     ·exact((fr p rfl).2 _ _ h).elim
    obtain⟨g,h2⟩:=ha.push (o:=.bW bE) hp s ⟨q_,kvs,h1,L,qa ((lY.un I).trans (.new (ha.free hp) h1 (λ_ z=>by cases z) λ_ _ z=>by cases z)) b f⟩;exact l _ _ H' g h2 (.at iQ)
   |@vV p kvs bE h L b=>
    have hp:=(fr p rfl).1;obtain⟨f,l⟩:=iz q;have h1:H' p=some (.dT kvs):=bJ _ _ h;obtain⟨g,h2⟩:=ha.push (o:=.vV bE) hp s ⟨q_,kvs,h1,L,qa ((lY.un I).trans (.new (ha.free hp) h1 (λ_ z=>by cases z) λ_ _ z=>by cases z)) b f⟩;exact l _ _ H' g h2 (.at iQ)
   |_=>exact fe q
theorem W9(h:PE X e (tF X F)):PE X e (tE X λY A=>vv (F (dw A Y)) A):=h.weak λZ H Q q=>sJ q
def v5(X:Cx)(D:Ends)(B0:fw)(H0:Hp):Out->Ab->Prop
 |.nx Y,A=>∀b B' H',Grows B0 H0 B' H'->HA X.K B' A H'->cK X.K B' H' b Y->fV Y->D.nx b H'
 |.ret t,A=>∀v B' H',Grows B0 H0 B' H'->HA X.K B' A H'->Rep X.K (cn B' H') v t->D.rt v H'
 |.bk Y,A=>∀b B' H',Grows B0 H0 B' H'->HA X.K B' A H'->cK X.K B' H' b Y->fV Y->D.bk b H'
 |.ct Y,A=>∀b B' H',Grows B0 H0 B' H'->HA X.K B' A H'->cK X.K B' H' b Y->fV Y->D.ct b H'
inductive tZ(X:Cx)(G:bX->Ab->Rz Out)(D:Ends)(Z:St)(H:Hp):Prop
 |mk (B0:fw) (H0:Hp) (B:fw) (A:Ab) (Y:bX):HB B0 H0->Grows B0 H0 B H->HA X.K B A H->cK X.K B H Z Y->fV Y->g6 (XE X B0 H0) (G Y A) (v5 X D B0 H0)->tZ X G D Z H
section
variable {b c:Expr}{F:bX->Ab->Rz Tr}{G':bX->Ab->Rz Out}{P:bX->Ab->Rz Bool}
def Fo(r:Rz Out)(aK:bX->Ab->Rz Out):Rz Out:=r.bind λo A=>match o with
 |.nx Y=>aK Y A
 |.ret t=>.ok (.ret t) A
 |.bk Y=>.ok (.bk Y) A
 |.ct Y=>.ok (.ct Y) A
theorem W_:o6 X [] (tZ X λY A=>.ok (.nx Y) A):=Gp.weak λD Z H ⟨B0,H0,B,A,Y,hb,g,ha,r,n,q⟩=>q Z B H g ha r n
theorem S5(h1:PS X ai (tZ X aK))(h2:o6 X ah (tZ X G')):o6 X (ai::ah) (tZ X λY A=>Fo (aK Y A) G'):=
 (CN h1 h2).weak λD Z H ⟨B0,H0,B,A,Y,hb,g,ha,r,n,q⟩=>⟨B0,H0,B,A,Y,hb,g,ha,r,n,q.bind.mono λo A1 b=>by
  cases o with
  |nx iG=>exact λM B' H' g' l I L=>⟨B0,H0,B',A1,iG,hb,g',l,I,L,b⟩
  |ret t=>exact b
  |bk iG=>exact b
  |ct iG=>exact b⟩
def Xa(q:PS X ai (tZ X aK)):o6 X [ai] (tZ X aK):=Gq q
def Xb:PE X e (tE X λ_ _=>.bad):=λ_ _ _ _ _ _ ⟨_,_,_,_,_,_,q⟩=>(show False from q).elim
def qd{B0:fw}{A:Ab}{Y:bX}{k:Tr->Ab->Prop}(hb:HB B0 ac)(g:Grows B0 ac B H)(ha:HA X.K B A H)(r:cK X.K B H Z Y)(n:fV Y)(q:g6 (XE X B0 ac) (F Y A) k){Q:VK}
  (hq:∀t A' v B' H',k t A'->Grows B0 ac B' H'->HA X.K B' A' H'->cK X.K B' H' Z Y->Rep X.K (cn B' H') v t->Grows B H B' H'->Q v H'):tE X F Z H Q:=
 ⟨B,A,Y,ha,r,n,(q.imp λc A' x=>x.grow hb g).mono λt A' b v B' H' g' l I=>hq t A' v B' H' b (g.trans hb g') l (r.grow n g') I g'⟩
def S6{B0:fw}{A:Ab}{Y:bX}{k:Bool->Ab->Prop}(hb:HB B0 ac)(g:Grows B0 ac B H)(ha:HA X.K B A H)(r:cK X.K B H Z Y)(n:fV Y)(q:g6 (XE X B0 ac) (P Y A) k){Q:Bool->Hp->Prop}
  (hq:∀t A' B' H',k t A'->Grows B0 ac B' H'->HA X.K B' A' H'->cK X.K B' H' Z Y->Q t H'):QX X P Z H Q:=
 ⟨B,A,Y,ha,r,n,(q.imp λc A' x=>x.grow hb g).mono λt A' b B' H' g' l=>hq t A' B' H' b (g.trans hb g') l (r.grow n g')⟩
def Br(i:Nat)(r:Rz Tr)(Y:bX):Rz Out:=r.bind λt A=>.ok (.nx (Y.set i (.sh t))) A
theorem Xc(he:PE X e (tE X F))(hN:X.N.Nodup:=by assumption) (hi:X.N[i]?=some x:=by rfl) (hx:Loc X.env.scope x:=by first|exact Or.inl rfl|exact Or.inr rfl) (hs:sG e=false:=by rfl) (hf:zr X x:=by first|exact .inl rfl|exact .inr rfl|assumption):
  PS X (.Assign [.Name x p] e pos) (tZ X λY A=>Br i (F Y A) Y):=
 (Kg hN hi hx he (yj hs) hf).weak λD Z H ⟨B0,H0,B,A,Y,hb,g,ha,r,n,q⟩=>qd hb g ha r n q.bind λt A' v B' H' b g' l I L _=>b _ B' H' g' l (I.set i L) (n.set i t)
def K9(r:Rz Tr):Rz Out:=r.bind λt A=>.ok (.ret t) A
theorem Xd(he:PE X e (tE X F)):PS X (.Return (some e) pos) (tZ X λY A=>K9 (F Y A)):=
 (Kd he).weak λD Z H ⟨B0,H0,B,A,Y,hb,g,ha,r,n,q⟩=>qd hb g ha r n q.bind λt A' v B' H' b g' l L I _=>b v B' H' g' l I
theorem S7:PS X (.Return none pos) (tZ X λ_ A=>.ok (.ret .cA) A):=
 NB.weak λD Z H ⟨B0,H0,B,A,Y,hb,g,ha,r,n,q⟩=>q .cA B H g ha .cA
def rX(r:Rz Tr)(Y:bX):Rz Out:=r.bind λ_ A=>.ok (.nx Y) A
theorem S8(he:PE X e (tE X F))(hs:sG e=false:=by rfl):PS X (.Expr e pos) (tZ X λY A=>rX (F Y A) Y):=
 (NA he (yj hs)).weak λD Z H ⟨B0,H0,B,A,Y,hb,g,ha,r,n,q⟩=>qd hb g ha r n q.bind λt A' v B' H' b g' l I L _=>b _ B' H' g' l I n
def Z5(c:Rz Bool)(am b:Ab->Rz Out):Rz Out:=c.bind λk A=>if k then am A else b A
theorem aaX(hc:PT X c (QX X P))(h1:o6 X ah (tZ X aK))(h2:o6 X aj (tZ X G')):PS X (.If c ah aj pos) (tZ X λY A=>Z5 (P Y A) (aK Y) (G' Y)):=
 (Qj hc h1 h2).weak λD Z H ⟨B0,H0,B,A,Y,hb,g,ha,r,n,q⟩=>S6 hb g ha r n q.bind λk A' B' H' b g' l I=>by
  cases k with
  |true=>exact Sk ⟨B0,H0,B',A',Y,hb,g',l,I,n,b⟩
  |false=>exact Sj ⟨B0,H0,B',A',Y,hb,g',l,I,n,b⟩
def OG(T:o4)(r:Rz Tr)(Y:bX):Rz Out:=r.bind λt A=>(gS (T t Y) A).bind λb A=>.ok (.nx b) A
def K_{T:o4}{B0:fw}{A:Ab}{Y:bX}{v:V}{t:Tr}{k:bX->Ab->Prop}(hT:jT T)(hb:HB B0 ac)(g:Grows B0 ac B H)(ha:HA X.K B A H)(r:cK X.K B H Z Y)(n:fV Y)(rv:Rep X.K (cn B H) v t){xc:Tr->Ab->Prop}(q:g6 xc (gS (T t Y) A) k){Q:St->Hp->Prop}
  (hq:∀iG dB H',k iG A->Grows B0 ac B H'->HA X.K B A H'->cK X.K B H' dB iG->fV iG->bo H H'->Q dB H'):tG X T v Z H Q:=by
 refine⟨B,Y,t,ha.hb,r,rv,?_⟩;cases e:T t Y with
 |ok iG=>rw[e]at q;exact λdB H' s b=>hq iG dB H' q (g.trans hb (.of s)) (ha.same s) b (hT t Y iG n e) s
 |exc c=>rw[e]at q;exact fe q
 |bad=>rw[e]at q;exact q
theorem Xe{T:o4}(hg:PG X tg (tG X T))(hT:jT T)(he:PE X e (tE X F))(hs:swapsWithSole [tg] e pos.line X.env=pure false:=by rfl) (hw:swappedStores [tg] e X.env=pure none:=by rfl)
  (h1:(assignEach [tg] X.env).map (·.2)=[assign tg X.env]:=by rfl):PS X (.Assign [tg] e pos) (tZ X λY A=>OG T (F Y A) Y):=
 (Kf he hg hs hw h1).weak λD Z H ⟨B0,H0,B,A,Y,hb,g,ha,r,n,q⟩=>qd hb g ha r n q.bind λt A' v B' H' b g' l I L _=>
  K_ hT hb g' l I n L (g6.bind b) λiH M H2 S g2 qe r2 n2 _=>S M B' H2 g2 qe r2 n2
def sL(T:o4)(aK:bX->Ab->Rz Out):List Tr->bX->Ab->Rz Out
 |[],Y,A=>.ok (.nx Y) A
 |t::ts,Y,A=>(gS (T t Y) A).bind λg A=>(aK g A).bind λo A=>match o with
  |.nx b=>sL T aK ts b A
  |.ct b=>sL T aK ts b A
  |.bk b=>.ok (.nx b) A
  |.ret t=>.ok (.ret t) A
def G_(T:o4)(aK:bX->Ab->Rz Out)(l:Rz (List Tr))(Y:bX):Rz Out:=l.bind λts A=>sL T aK ts Y A
theorem Xf{T:o4}(hi:PI X tg am (tI X L))(hg:PG X tg (tG X T))(hT:jT T)(hb:o6 X ah (tZ X aK))(hp:PassesOwn (model X.prog X.w) X.A X.env X.xe:=by first|exact pH|exact xN) (hc:X.calm=true:=by rfl)
  (hs:isSet am=false:=by rfl):PS X (.For tg am ah [] pos) (tZ X λY A=>G_ T aK (gS (L Y) A) Y):=
 (ER hp hc hi hg hb (gK hs)).weak λD Z H ⟨B0,H0,B,A,Y,CA,g,ha,r,n,q⟩=>⟨B,Y,ha.hb,r,(nh (g6.bind q)).mono λts qt J H1 s1 gt=>by
  have g1:Grows B0 H0 B H1:=g.trans CA (.of s1);have Bs:HB B H1:=ha.hb.same s1;refine⟨λi m dB H'=>m=ts.length - i/\i<=ts.length/\∃B' A' iG,Grows B H1 B' H'/\HA X.K B' A' H'/\cK X.K B' H' dB iG/\fV iG/\g6 (XE X B0 H0) (sL T aK (ts.drop i) iG A') (v5 X D B0 H0),⟨_,rfl,d_ _,B,A,Y,.refl,ha.same s1,r.same s1,n,qt⟩,?_⟩
  rintro i m dB H' ⟨rfl,hi,B',A',iG,g',j9,r',n',q'⟩
  by_cases gJ:i<ts.length
  ·rw[o8 gJ]at q';refine .inr ⟨gt.go i B' H' gJ g'.jR j9.hb,λwL H2=>∃B2 A2 b,Grows B H1 B2 H2/\HA X.K B2 A2 H2/\cK X.K B2 H2 wL b/\fV b/\g6 (XE X B0 H0) (sL T aK (ts.drop (i+1)) b A2) (v5 X D B0 H0),
    λwL H2 x=>⟨ts.length - (i+1),by omega,rfl,gJ,x⟩,λx H2 hx=>?_⟩
   obtain⟨s2,t,et,rt⟩:=gt.Gs i B' H' x H2 gJ g'.jR j9.hb hx;have SF:ts[i]=t:=by rw[bZ gJ]at et;exact Option.some.inj et
   rw[SF]at q';have g2:Grows B H1 B' H2:=g'.trans Bs (.of s2);refine K_ hT Bs g2 (j9.same s2) (r'.same s2) n' rt (g6.bind q') λrR NG H3 q1 g3 Ha r3 n3 _=>?_
   refine⟨B,H1,B',A',rR,Bs,g3,Ha,r3,n3,((g6.bind q1).imp λc A'' x=>x.grow CA g1).mono λo A4 qo=>?_⟩;cases o with
   |nx b=>exact λK' l H4 I M S n4=>⟨l,A4,b,I,M,S,n4,qo⟩
   |ct b=>exact λK' l H4 I M S n4=>⟨l,A4,b,I,M,S,n4,qo⟩
   |bk b=>exact λK' l H4 I M S n4=>qo K' l H4 (g1.trans CA I) M S n4
   |ret t=>exact λv l H4 I M S=>qo v l H4 (g1.trans CA I) M S
  ·have e:i=ts.length:=by omega
   subst e;rw[pA]at q';exact .inl ⟨gt.stop B' H' g'.jR,q' dB B' H' (g1.trans CA g') j9 r' n'⟩⟩
end
section
variable {a:Expr}
def Hb(r:Rz Tr)(l:Ab->Rz (List Tr)):Rz (List Tr):=r.bind λx A=>(l A).bind λxs A=>.ok (x::xs) A
theorem La:PA X [] (Nm X λ_ A=>.ok [] A):=sD.weak λZ H Q ⟨B,A,Y,ha,r,n,q⟩=>q [] B H .refl ha .nil
theorem Hc(h1:PE X a (tE X aI))(hr:PA X aA (Nm X aH))(hs:isStar a=false:=by rfl):PA X (a::aA) (Nm X λY A=>Hb (aI Y A) (aH Y)):=
 (lU h1 hr (bO _ _ hs)).weak λZ H Q ⟨B,A,Y,ha,r,n,q⟩=>⟨B,A,Y,ha,r,n,q.bind.mono λx A1 b v B1 H1 g1 g l=>⟨B1,A1,Y,g,r.grow n g1,n,((g6.bind b).imp λc A' x=>x.grow ha.hb g1).mono λxs A2 I vs B2 H2 g2 L M=>I _ B2 H2 (g1.trans ha.hb g2) L (.cons (l.same g2.jR) M)⟩⟩
def WrZ(X:Cx)(r:V->List V->Hp->VK->Prop)(h:Nat->List Tr->Ab->Rz Tr):Prop:=
 ∀(B:fw) (A:Ab) (H:Hp) (a:Addr) (i:Nat) (xs:List V) (ts:List Tr) (Q:VK),HA X.K B A H->B.ix a=some i->bQ X.K (cn B H) xs ts->
  g6 (XE X B H) (h i ts A) (λt A'=>∀v B' H',Grows B H B' H'->HA X.K B' A' H'->Rep X.K (cn B' H') v t->Q v H')->r (.ref a) xs H Q
def Xg(A:Ab)(i:Nat):Bool:=match A[i]? with
 |some (.lst _)=>true
 |_=>false
def S9{A:Ab}(q:HA K B A H)(e:B.ix au=some i)(h:Xg A i=true):∃xs,H au=some (.lst xs):=by
 obtain⟨o,b,g⟩:=q.ex e;unfold Xg at h;rw[b]at h;cases o with
 |lst ts=>obtain⟨_,vs,h1,_⟩:=g;exact⟨vs,h1⟩
 |_=>cases h
def mtL(h:Nat->List Tr->Ab->Rz Tr)(r:Rz Tr)(l:Ab->Rz (List Tr)):Rz Tr:=r.bind λt A=>match t with
 |.at i=>if Xg A i=true then(l A).bind λts A=>h i ts A else .bad
 |_=>.bad
variable {r:V->List V->Hp->VK->Prop}{h:Nat->List Tr->Ab->Rz Tr}
theorem Xh(slot:Slot "list" av ay)(NT:typeOf (.builtin ay)=pure (.type "method_descriptor"))(hm:MtM X ay r)(hz:WrZ X r h)(ho:PE X o (tE X aI))(ha:PA X (e::aA) (Nm X aH))(pa:PlainAttrs "list":=by exact sZ)
  (pU:isCall o=false:=by rfl) (cJ:bC (e::aA)=true:=by rfl) (hn:(e::aA).length<30:=by decide) (gs:(b8.endLine==p.line)=true:=by rfl):
  PE X (.Call (.Attribute o av b8) (e::aA) [] p) (tE X λY A=>mtL h (aI Y A) (aH Y)):=
 (Gy pa slot NT hm ho ha (gL pU) (by rw[jI cJ,hU (show(e::aA).length+([]:List Keyword).length+(if([]:List Keyword).isEmpty then 0 else 1)<30 from hn)];rfl) gs (bO _ _ (bt cJ).1) (cS (bt cJ).2)).weak λZ H Q ⟨B,A,Y,ha,r,n,q⟩=>⟨B,A,Y,ha,r,n,q.bind.mono λt A1 b v B1 H1 g1 l L=>by
  split at b
  ·rename_i i;obtain⟨a,rfl,I⟩:=L.nX;obtain⟨M,S⟩:=iz b;obtain⟨xs,g⟩:=S9 l I M;exact⟨.inl ⟨rfl,xs,lT.of g⟩,B1,A1,Y,l,r.grow n g1,n,((g6.bind S).imp λc A' x=>x.grow ha.hb g1).mono λts A2 qs vs B2 H2 g2 qe rs=>hz B2 A2 H2 a i vs ts Q qe (g2.jR.x _ _ I) rs ((qs.imp λc A' x=>x.grow ha.hb (g1.trans ha.hb g2)).mono λt A3 b v B3 H3 g3 Ha r3=>b v B3 H3 ((g1.trans ha.hb g2).trans ha.hb g3) Ha r3)⟩
  ·exact b.elim⟩
def S_(i:Nat):List Tr->Ab->Rz Tr
 |[t],A=>match A[i]? with
  |some (.lst ts)=>if ts.length<dZ then .ok .cA (A.set i (.lst (ts++[t])))else .bad
  |_=>.bad
 |_,_=>.bad
def vx:WrZ X Gz S_:=by
 intro B A H a i xs ts Q b l rs q;unfold S_ at q;split at q
 ·obtain⟨y,rfl,r1⟩:=gw rs;split at q
  ·rename_i n;obtain⟨hz,q⟩:=iz q;obtain⟨hd,vs,h1,h2⟩:=b.get l n;obtain⟨g,r⟩:=b.write (o:=.lst (_++[_])) (u:=.lst (vs++[y])) l ⟨hd,_,bP,by rw[jx hd];exact h2.append (.cons r1 .nil)⟩;exact⟨a,vs,y,rfl,rfl,h1,by rw[h2.length,<-je];exact hz,q .cA B _ g r .cA⟩
  ·exact q.elim
 ·exact q.elim
end
def yz(r:Rz Out):Rs Tr:=match r with
 |.ok (.nx _) _=>.ok .cA
 |.ok (.ret t) A=>if wu (aZ 3 A t)=true then .ok (aZ 3 A t)else .bad
 |_=>.bad
def yA:fV (startT az ts):=λi us e=>by
 rcases qY e with q|⟨u,_,q⟩<;>cases q
theorem zt.okZ {base:Heap}{qual:Str}{st:Stmt}{f:Addr}{fd:FuncData}{N:List Str}{k:Nat}(Fn:zt K x qual st f fd)(S:hX N ps (bI st))(len:∀ts t,h ts=.ok t->ts.length=ps.length)
  (kZ:∀(gn:Value) (A:Around) (outer:List Env) (s:Shared) (H:Hp) (E:XK),dk k (A.deeper (envOfC qual (bI st) s.heap.objs.size f gn))->
   ∃G,o6 (oZ mH P w K mg base N qual (bI st) f gn A outer s H E).JU (gc st) (tZ (oZ mH P w K mg base N qual (bI st) f gn A outer s H E).JU G)/\∀ts t,h ts=.ok t->jJ ts=true/\yz (G (startT N.length ts) [])=.ok t):eI P w K mg base mH (k+1) f fd ps (spT K h):=by
 refine Fn.ok S (λvs H Q E q=>?_) (λgn A outer s H vs Q E hr q=>?_)
 ·obtain⟨B,ts,hb,r,t,e,_⟩:=q;rw[r.length];exact len ts t e
 ·obtain⟨B,ts,hb,r,t,e,q⟩:=q;obtain⟨G,hG,hE⟩:=kZ gn A outer s H E hr;obtain⟨na,l⟩:=hE ts t e
  let B0:fw:=⟨B.hd,λ_=>none⟩
  have M:HB B0 H:=hb;have I:HA K B0 [] H:=⟨M,λi o z=>by simp at z,(λa b i z=>by cases(show(none:Option Nat)=some i from z)),(λa i z=>by cases(show(none:Option Nat)=some i from z))⟩;have r0:bQ K (cn B0 H) vs ts:=bQ.K7 (W:=cn B H) (W':=cn B0 H) (λ_ _ e=>e) r na;have sm:∀{B':fw} {H':Hp},Grows B0 H B' H'->bo H H':=λg b o z=>g.kp b o rfl z;refine⟨_,hG,B0,H,B0,[],startT N.length ts,M,.refl,I,cK.start r0,yA,?_⟩;cases eo:G (startT N.length ts) []with
  |ok o A1=>
   rw[eo]at l;cases o with
   |nx Y=>cases l;exact λdB B' H' g ha r' n'=>q .cA H' (sm g) .cA
   |ret u=>
    have n:(if wu (aZ 3 A1 u)=true then Rs.ok (aZ 3 A1 u)else .bad)=.ok t:=l;by_cases z:wu (aZ 3 A1 u)=true
    ·rw[aY z]at n;cases n;intro v B' H' g ha r';refine q v H' (sm g) (Rep.K7 (λb o z=>?_) (jK ha 3 r') z);have z1:=bJ b o z;cases L:B.hd b with
     |false=>rw[gv L];exact z1
     |true=>
      have h2:B'.hd b=true:=g.hd b rfl L;have h3:B'.ix b=none:=by
       cases h4:B'.ix b with
       |none=>rfl
       |some i=>have h5:=g.nw b i h4 rfl;obtain⟨o2,h6⟩:=hb b L;rw[h5]at h6;cases h6
      have z2:(if B'.un.hd b=true then none else H' b)=some o:=z;rw[show B'.un.hd b=(B'.hd b&&(B'.ix b).isNone)from rfl,h2,h3]at z2;cases z2
    ·rw[bc z]at n;cases n
   |_=>cases l
  |_=>rw[eo]at l;cases l
def Dw(n m:Nat)(G:bX->Ab->Rz Out)(ts:List Tr):Rs Tr:=if ts.length=n/\jJ ts=true then yz (G (startT m ts) [])else .bad
def Lb{n:Nat}(h:Dw n i aK ts=.ok aC):ts.length=n:=by
 unfold Dw at h;split at h
 ·rename_i z;exact z.1
 ·cases h
def OH{t:Tr}(h:Dw i az aK ts=.ok t):jJ ts=true/\yz (aK (startT az ts) [])=.ok t:=by
 unfold Dw at h;split at h
 ·rename_i z;exact⟨z.2,h⟩
 ·cases h
section
theorem Xi(h:PA X aA (C_ X L)):PE X (.List aA pos) (tF X λY=>zB (L Y)):=
 (Kq h).weak λZ H Q ⟨B,Y,hb,r,q⟩=>⟨B,Y,hb,r,q.bind.mono λts b vs H1 s1 g=>by
  by_cases hz:ts.length<=dZ
  ·rw[aY hz]at b;refine⟨by rw[g.length,<-je];exact hz,λp hp=>b (.ref p) _ (s1.Bh (s1.free hp)) (.lst ((hb.same s1).new hp) (g.same (bL (bo.upd hp)))) λp' e=>by cases e;exact .upd (s1.free hp) (λ_ _ z=>by cases z)⟩
  ·rw[bc hz]at b;exact b.elim⟩
theorem Ta:PE X (.Dict [] [] pos) (tF X λ_=>.ok (.bW [])):=
 Kz.weak λZ H Q ⟨B,Y,hb,r,q⟩ p hp=>q (.ref p) _ (bo.upd hp) (.bW (.inl (hb.new hp)) rfl .nil) λp' e=>by cases e;exact .upd hp (λ_ _ z=>by cases z)
variable {scope:Scope}{N':List Str}{ix:List (Option Nat)}{elt c5:Expr}{ifs:List Expr}{T:o4}{W:bX->Rs (List Tr)}
def Ak{Q:VK}(hT:jT T)(q:tF X (λY=>vX ix T aF F (W Y) Y) Z H Q):Vh (tI X W) ix (Qz X.K T) (Qy X.K aF) (Qx X.K F) Z H Q:=by
 obtain⟨B,Y,hb,r,q⟩:=q;refine⟨B,Y,hb,r,q.bind.mono λts b J H1 s1 gt D g=>?_⟩;by_cases hz:ts.length<=dZ
 ·rw[aY hz]at b;exact wO hT (wN ix Y) (hb.same s1) gt hz ((r.same s1).comp ix (k_ g)) g (Fi.bind b) λys H' k s' l=>k _ H' (s1.trans s') l λp e=>by cases e;exact .lst (s1.free g) l
 ·rw[bc hz]at b;exact b.elim
theorem aaY(Lk:g0 X N' ix scope)(hi:PI X tg c5 (tI X W))(lL:Oe X scope N' tg elt ifs T aF F)(hT:jT T)(hc:X.calm=true:=by rfl) (hs:isSet c5=false:=by rfl):
  PE X (.ListComp elt [⟨tg,c5,ifs,0⟩] scope pos) (tF X λY=>vX ix T aF F (W Y) Y):=
 (KL Lk hc hi lL.Vl (gK hs)).weak λZ H Q q=>Ak hT q
theorem OI(Lk:g0 X N' ix scope)(hit:PI X tg c5 (tI X W))(lL:Oe X scope N' tg elt ifs T aF F)(hT:jT T)(hN:X.N.Nodup:=by assumption) (hc:X.calm=true:=by rfl) (hi:X.N[i]?=some x:=by rfl) (hx:Loc X.env.scope x:=by first|exact Or.inl rfl|exact Or.inr rfl)
  (Iu:swapsWith (.ListComp elt [⟨tg,c5,ifs,0⟩] scope pos) (some (.Name x p)) b8.line X.env=pure true:=by rfl) (hs:isSet c5=false:=by rfl) (hf:zr X x:=by first|exact .inl rfl|exact .inr rfl|assumption):
  PS X (.Assign [.Name x p] (.ListComp elt [⟨tg,c5,ifs,0⟩] scope pos) b8) (tZ X λY A'=>Br i (vv (vX ix T aF F (W (dw A' Y)) (dw A' Y)) A') Y):=
 (yg Lk hc hN hi hx hit lL.Vl Iu (gK hs) hf).weak λD Z H ⟨B0,H0,B,A',Y,hb,g,ha,r,n,q⟩=>Ak hT (sJ (F:=λY=>vX ix T aF F (W Y) Y) (qd (F:=λY A'=>vv (vX ix T aF F (W (dw A' Y)) (dw A' Y)) A') hb g ha r n q.bind λt A2 v B' H' b g' l I L _=>b _ B' H' g' l (I.set i L) (n.set i t)))
inductive rF(X:Cx)(h:List Tr->Rs Tr)(xs:List V)(H:Hp)(Q:VK):Prop
 |mk (B:fw) (ts:List Tr):HB B H->bQ X.K (cn B H) xs ts->(Fi X H (h ts) fun t=>∀v H',bo H H'->Rep X.K (cn B H') v t->(∀p,v=.ref p->S2 H H' p)->Q v H')->rF X h xs H Q
theorem Lc(hc:gQ X (.type ay) (rF X h))(hm:X.mg x=none)(ha:PA X (e::aA) (C_ X L))(hv:bootBuiltins x=some (.type ay):=by rfl) (hg:Gl X x:=by rfl) (hn:x≠"__name__":=by decide) (fQ:Db x:=by decide)
  (cJ:bC (e::aA)=true:=by rfl):PE X (.Call (.Name x p) (e::aA) [] pos) (tF X λY=>dM h (L Y)):=
 (vk hc hg hm hv ha hn fQ (bO _ _ (bt cJ).1) (cS (bt cJ).2)).weak λZ H Q ⟨B,Y,hb,r,q⟩=>⟨B,Y,hb,r,q.bind.mono λts b vs H1 s1 r1=>⟨B,ts,hb.same s1,r1,(b.same s1).mono λt b v H2 s2 g fr=>b v H2 (s1.trans s2) g λp e=>⟨s1.free (fr p e).1,(fr p e).2⟩⟩⟩
theorem OJ:gQ X (.type "list") (rF X QC):=by
 intro U s Z H xs us Q I b ⟨B,ts,hb,r,q⟩;unfold QC at q;split at q
 ·obtain⟨x,e,r1⟩:=gw r;obtain⟨o,vs,rfl,h,rr⟩:=r1.dX;exact uo U s Z H _ us Q I b ⟨_,_,e,.inr h.up,λp hp=>q _ _ (bo.upd hp) (.zD hb hp rr) λp' e=>by cases e;exact .upd hp (λ_ _ z=>by cases z)⟩
 ·obtain⟨x,e,r1⟩:=gw r;obtain⟨o,vs,rfl,h,rr⟩:=r1.lst_inv;exact uo U s Z H _ us Q I b ⟨_,_,e,.inl (.of (eB h)),λp hp=>q _ _ (bo.upd hp) (.zD hb hp rr) λp' e=>by cases e;exact .upd hp (λ_ _ z=>by cases z)⟩
 ·exact q.elim
end
section
variable {H1 H':Hp}{o:Obj}{kvs:List (Key×V)}
theorem Inv.frozen (I:Inv X U Z H s)(ha:H a=some (.dK kvs))(ho:s.heap.get? a=some o):Inv X U Z (upd H a (.lJ o (.dK kvs))) s:=by
 have ne:∀{b:Addr} {u:HO},H b=some u->u≠ .dK kvs->b≠a:=λ{b u} e d z=>by subst z;rw[ha]at e;cases e;exact d rfl
 have nn:∀{b:Addr},H b=none->b≠a:=λ{b} e z=>by subst z;rw[ha]at e;cases e
 refine⟨I.ok,I.os,I.bare,⟨I.base.keep,I.base.slot,λb g e n l=>?_,I.base.there,λb xs e=>?_,λb g u e=>?_,λb ps e=>?_⟩,I.loc,I.cell,?_,λx c e=>?_,λp hp=>?_,λb u e=>?_,I.len⟩
 ·have q:=I.base.free b g e n l;rw[bq (nn q)];exact q
 ·have q:=I.base.m4 b xs e;rw[bq (ne q (λz=>by cases z))];exact q
 ·have q:=I.base.lK b g u e;rw[bq (ne q (λz=>by cases z))];exact q
 ·obtain⟨m,q⟩:=I.base.nU b ps e;exact⟨m,by rw[bq (ne q (λz=>by cases z))];exact q⟩
 ·rw[bq (nn I.free)];exact I.free
 ·rw[bq (nn (I.gq x c e))];exact I.gq x c e
 ·obtain⟨p1,p2,r⟩:=I.pin p hp;exact⟨p1,by rw[bq (nn p2)];exact p2,r⟩
 ·have ow:∀c d,H c=some (.own d)->upd H a (.lJ o (.dK kvs)) c=some (.own d):=λc d q=>by rw[bq (ne q (λz=>by cases z))];exact q
  have tu:∀c xs,H c=some (.tup xs)->upd H a (.lJ o (.dK kvs)) c=some (.tup xs):=λc d q=>by rw[bq (ne q (λz=>by cases z))];exact q
  by_cases z:b=a
  ·subst z;rw[bP]at e;cases e;exact⟨ho,(I.cW b _ ha).pQ (λ_ _ _ q=>q) (λc q=>ow c b q) tu⟩
  ·rw[bq z]at e;exact(I.cW b u e).pQ (λ_ _ _ q=>q) (λc q=>ow c b q) tu
theorem Inv.Tb (I:Inv X U Z H s)(ha:H a=some (.lJ o (.dK kvs)))(h0:∀o' u,X.CL a≠some (.lJ o' u)):Inv X U Z (upd H a (.dK kvs)) s:=by
 have ne:∀{b:Addr} {u:HO},H b=some u->u≠ .lJ o (.dK kvs)->b≠a:=λ{b u} e d z=>by subst z;rw[ha]at e;cases e;exact d rfl
 have nn:∀{b:Addr},H b=none->b≠a:=λ{b} e z=>by subst z;rw[ha]at e;cases e
 refine⟨I.ok,I.os,I.bare,⟨I.base.keep,I.base.slot,λb g e n l=>?_,I.base.there,λb xs e=>?_,λb g u e=>?_,λb ps e=>?_⟩,I.loc,I.cell,?_,λx c e=>?_,λp hp=>?_,λb u e=>?_,I.len⟩
 ·have q:=I.base.free b g e n l;rw[bq (nn q)];exact q
 ·have q:=I.base.m4 b xs e;rw[bq (ne q (λz=>by cases z))];exact q
 ·have q:=I.base.lK b g u e;rw[bq (λz=>by subst z;exact h0 _ _ e)];exact q
 ·obtain⟨m,q⟩:=I.base.nU b ps e;exact⟨m,by rw[bq (ne q (λz=>by cases z))];exact q⟩
 ·rw[bq (nn I.free)];exact I.free
 ·rw[bq (nn (I.gq x c e))];exact I.gq x c e
 ·obtain⟨p1,p2,r⟩:=I.pin p hp;exact⟨p1,by rw[bq (nn p2)];exact p2,r⟩
 ·have ow:∀c d,H c=some (.own d)->upd H a (.dK kvs) c=some (.own d):=λc d q=>by rw[bq (ne q (λz=>by cases z))];exact q
  have tu:∀c xs,H c=some (.tup xs)->upd H a (.dK kvs) c=some (.tup xs):=λc d q=>by rw[bq (ne q (λz=>by cases z))];exact q
  by_cases z:b=a
  ·subst z;rw[bP]at e;cases e;exact(I.cW b _ ha).2.pQ (λ_ _ _ q=>q) (λc q=>ow c b q) tu
  ·rw[bq z]at e;exact(I.cW b u e).pQ (λ_ _ _ q=>q) (λc q=>ow c b q) tu
structure Al(H H':Hp)(a:Addr)(u u':HO)(kvs:List (Key×V)):Prop where
 fr:H a=some u
 to:H'=upd H a u'
 ok:(u=.dK kvs/\∃o,u'=.lJ o (.dK kvs))\/(u'=.dK kvs/\∃o,u=.lJ o (.dK kvs))
variable {u u':HO}
def Al.uE (w:Al H H' a u u' kvs){b:Addr}{x:HO}(e:H b=some x)(q:∀k,x≠ .dK k)(h2:∀o k,x≠ .lJ o (.dK k)):H' b=some x:=by
 rw[w.to,bq ?_]
 ·exact e
 ·intro z;subst z;rw[w.fr]at e;cases e;rcases w.ok with⟨g,_⟩|⟨_,o,g⟩
  ·exact q _ g
  ·exact h2 _ _ g
def mv{x:HO}(e:(cn B H).H a=some x)(h:H a=some x->H' a=some x):(cn B H').H a=some x:=by
 have b:(if B.hd a=true then none else H a)=some x:=e;show(if B.hd a=true then none else H' a)=some x;split at b
 ·cases b
 ·rename_i n;rw[bc n];exact h b
def Al.seq (w:Al H H' a u u' kvs){b:Addr}{xs:List V}(h:lT K (cn B H).H b xs):lT K (cn B H').H b xs:=by
 rcases h with(h|⟨o,h⟩)|h
 ·exact .inl (.inl (mv h λe=>w.uE e (λ_ z=>by cases z) λ_ _ z=>by cases z))
 ·exact .inl (.inr ⟨o,mv h λe=>w.uE e (λ_ z=>by cases z) λ_ _ z=>by cases z⟩)
 ·exact .inr h
def Al.tup (w:Al H H' a u u' kvs){b:Addr}{xs:List V}(h:ju K (cn B H).H b xs):ju K (cn B H').H b xs:=by
 rcases h with(h|⟨o,h⟩)|h
 ·exact .inl (.inl (mv h λe=>w.uE e (λ_ z=>by cases z) λ_ _ z=>by cases z))
 ·exact .inl (.inr ⟨o,mv h λe=>w.uE e (λ_ z=>by cases z) λ_ _ z=>by cases z⟩)
 ·exact .inr h
def Al.bW (w:Al H H' a u u' kvs){b:Addr}{ks:List (Key×V)}(h:Rd (cn B H).H b (.dK ks)):Rd (cn B H').H b (.dK ks):=by
 by_cases z:b=a
 ·subst z;have hb:B.hd b=false:=by
   cases q:B.hd b with
   |false=>rfl
   |true=>
    have n:(cn B H).H b=none:=by show(if B.hd b=true then none else H b)=none;rw[aY q]
    rcases h with h|⟨o,h⟩<;>(rw[n]at h;cases h)
  have h':Rd H b (.dK ks):=by unfold Rd at h⊢;rw[gv hb]at h;exact h
  have l:ks=kvs:=by
   rcases h' with h|⟨o,h⟩<;>rw[w.fr]at h<;>rcases w.ok with⟨g,_⟩|⟨_,o',g⟩<;>rw[g]at h<;>cases h<;>rfl
  subst l;unfold Rd;rw[gv hb,w.to,bP];rcases w.ok with⟨_,o',g⟩|⟨g,_⟩
  ·rw[g];exact .inr ⟨o',rfl⟩
  ·rw[g];exact .inl rfl
 ·have r:(cn B H').H b=(cn B H).H b:=by
   show(if B.hd b=true then none else H' b)=(if B.hd b=true then none else H b);rw[w.to,bq z]
  unfold Rd;rw[r];exact h
def Al.rep (w:Al H H' a u u' kvs){v:V}{t:Tr}(h:Rep K (cn B H) v t):Rep K (cn B H') v t:=by
 refine Rep.rec (motive_1:=λv t _=>Rep K (cn B H') v t) (motive_2:=λvs ts _=>bQ K (cn B H') vs ts) ?_ ?_ ?_ ?_ ?_ ?_ ?_ ?_ ?_ ?_ ?_ ?_ ?_ ?_ ?_ h
 ·exact .cA
 ·exact λb=>.bl b
 ·exact λi=>.int i
 ·exact λz h=>.str z h
 ·exact λn=>.ty n
 ·exact λh=>.vU (w.seq h)
 ·exact λh _ r=>.tup (w.tup h) r
 ·exact λh _ r=>.lst (mv h λe=>w.uE e (λ_ z=>by cases z) λ_ _ z=>by cases z) r
 ·exact λh e _ r=>.bW (w.bW h) e r
 ·exact λh=>.at h
 ·exact λh e _ r=>.vV (mv h λe=>w.uE e (λ_ z=>by cases z) λ_ _ z=>by cases z) e r
 ·exact λh e _ r=>.ob (mv h λe=>w.uE e (λ_ z=>by cases z) λ_ _ z=>by cases z) e r
 ·exact λh c=>.z6 (mv h λe=>w.uE e (λ_ z=>by cases z) λ_ _ z=>by cases z) c
 ·exact .nil
 ·exact λ_ _ h r=>.cons h r
theorem Al.Xj (w:Al H H' a u u' kvs):∀{vs:List V} {ts:List Tr},bQ K (cn B H) vs ts->bQ K (cn B H') vs ts
 |[],_,h=>by cases h;exact .nil
 |_::_,_,h=>by cases h with|cons h r=>exact .cons (w.rep h) (Al.Xj w r)
def Al.IM {Y:bX}(w:Al H H' a u u' kvs)(h:cK K B H Z Y):cK K B H' Z Y:=
 ⟨h.len,λi t e=>by obtain⟨v,b,r⟩:=h.sh i t e;exact⟨v,b,w.rep r⟩,
   λi ts e=>by obtain⟨D,ys,b,g,l,r⟩:=h.ow i ts e;exact⟨D,ys,b,g,w.uE l (λ_ z=>by cases z) (λ_ _ z=>by cases z),w.Xj r⟩,h.ap⟩
def Al.hb (w:Al H H' a u u' kvs)(h:HB B H):HB B H':=λb e=>by
 obtain⟨o,q⟩:=h b e;by_cases z:b=a
 ·subst z;rw[w.to];exact⟨_,bP⟩
 ·exact⟨o,by rw[w.to,bq z];exact q⟩
def IP(X:Cx)(B:fw)(H H':Hp):Prop:=bo H H'\/∃H1 a o kvs,bo H H1/\B.hd a=false/\H1 a=some (.dK kvs)/\H'=upd H1 a (.lJ o (.dK kvs))/\∀o u,X.CL a≠some (.lJ o u)
def lp(X:Cx)(H:Hp)(k:Hp->Prop):Prop:=k H\/∃a o kvs,H a=some (.lJ o (.dK kvs))/\(∀o u,X.CL a≠some (.lJ o u))/\k (upd H a (.dK kvs))
def lp.inv {k:Hp->Prop}(q:lp X H k)(I:Inv X U Z H s):∃H',Inv X U Z H' s/\k H':=by
 rcases q with q|⟨a,o,kvs,e,h0,q⟩
 ·exact⟨H,I,q⟩
 ·exact⟨_,I.Tb e h0,q⟩
def PE.Vo {t:TE}(h:PE X e t):PE X e (λZ H Q=>t Z H λv H'=>lp X H' (Q v)):=λU s Z H Q I q=>
 eN (h U s Z H _ I q) λu s' ⟨v,H',b,r,z⟩=>by
  obtain⟨H2,g,l⟩:=z.inv b;exact⟨v,H2,g,r,l⟩
def Ends.Vo (X:Cx)(D:Ends):Ends:=⟨λZ H=>lp X H (D.nx Z),λv H=>lp X H (D.rt v),λZ H=>lp X H (D.bk Z),λZ H=>lp X H (D.ct Z)⟩
theorem PS.Vo {st:Stmt}{t:TS}(h:PS X st t):PS X st (λD Z H=>t (D.Vo X) Z H):=λU s Z H D I q=>
 eN (h U s Z H _ I q) λf s' z=>by
  cases f with
  |next=>obtain⟨dB,H',b,z⟩:=z;obtain⟨H2,g,l⟩:=lp.inv z b;exact⟨dB,H2,g,l⟩
  |brk=>obtain⟨dB,H',b,z⟩:=z;obtain⟨H2,g,l⟩:=lp.inv z b;exact⟨dB,H2,g,l⟩
  |cont=>obtain⟨dB,H',b,z⟩:=z;obtain⟨H2,g,l⟩:=lp.inv z b;exact⟨dB,H2,g,l⟩
  |ret u=>obtain⟨v,dB,H',b,r,z⟩:=z;obtain⟨H2,g,l⟩:=lp.inv z b;exact⟨v,dB,H2,g,r,l⟩
theorem IP.IM {Y:bX}(h:IP X B H H')(r:cK K B H Z Y):cK K B H' Z Y:=by
 rcases h with s|⟨H1,a,o,kvs,s,b,ha,rfl,h0⟩
 ·exact r.same s
 ·exact Al.IM (u:=.dK kvs) ⟨ha,rfl,.inl ⟨rfl,o,rfl⟩⟩ (r.same s)
theorem IP.hb (h:IP X B H H')(r:HB B H):HB B H':=by
 rcases h with s|⟨H1,a,o,kvs,s,b,ha,rfl,h0⟩
 ·exact r.same s
 ·exact Al.hb (u:=.dK kvs) ⟨ha,rfl,.inl ⟨rfl,o,rfl⟩⟩ (r.same s)
theorem IP.free {p:Addr}(h:IP X B H H')(e:H' p=none):H p=none:=by
 rcases h with s|⟨H1,a,o,kvs,s,b,ha,rfl,h0⟩
 ·exact s.free e
 ·refine s.free ?_
  by_cases z:p=a
  ·subst z;rw[bP]at e;cases e
  ·rw[bq z]at e;exact e
def IP.back {H2:Hp}{B2:fw}{C:fw}(h:IP X B H H')(si:eD C B H' B2 H2):∃Hu,eD C B H B2 Hu/\(∀{K:Frag} {B3:fw} {v:V} {t:Tr},Rep K (cn B3 H2) v t->Rep K (cn B3 Hu) v t)/\(∀{K:Frag} {Z:St} {Y:bX},cK K B2 H2 Z Y->cK K B2 Hu Z Y)/\∀k:Hp->Prop,k Hu->lp X H2 k:=by
 rcases h with s|⟨H1,a,o,kvs,s,L,ha,rfl,h0⟩
 ·exact⟨H2,⟨λb o c e=>si.kp b o c (s _ _ e),(bL s).trans si.jR,si.sub,si.hb⟩,λr=>r,λr=>r,λk q=>.inl q⟩
 ·have M:(cn B (upd H1 a (.lJ o (.dK kvs)))).H a=some (.lJ o (.dK kvs)):=by rw[gv L];exact bP
  have g:=si.jR.h _ _ M;have I:H2 a=some (.lJ o (.dK kvs)):=bJ _ _ g;have w:Al H2 (upd H2 a (.dK kvs)) a (.lJ o (.dK kvs)) (.dK kvs) kvs:=⟨I,rfl,.inr ⟨rfl,o,rfl⟩⟩;have l:B2.hd a=false:=by
   cases q:B2.hd a with
   |false=>rfl
   |true=>
    have n:(cn B2 H2).H a=none:=by show(if B2.hd a=true then none else H2 a)=none;rw[aY q]
    rw[n]at g;cases g
  refine⟨upd H2 a (.dK kvs),⟨λb ob c e=>?_,⟨λb ob e=>?_,λb i e=>?_⟩,si.sub,w.hb si.hb⟩,λr=>w.rep r,λr=>w.IM r,λk q=>.inr ⟨a,o,kvs,I,h0,q⟩⟩
  ·have q:=s _ _ e;by_cases z:b=a
   ·subst z;rw[ha]at q;cases q;exact bP
   ·rw[bq z];exact si.kp b ob c (by rw[bq z];exact q)
  ·by_cases z:b=a
   ·subst z;have q:=s _ _ (bJ _ _ e);rw[ha]at q;cases q;rw[gv l];exact bP
   ·have q:(cn B (upd H1 a (.lJ o (.dK kvs)))).H b=some ob:=mv e λe=>by rw[bq z];exact s _ _ e
    exact mv (si.jR.h _ _ q) λe=>by rw[bq z];exact e
  ·exact si.jR.x b i e
def IP.QY {H2:Hp}(h:IP X B H H')(hb:HB B H)(s2:bo H' H2):∃q,bo H q/\(∀{K:Frag} {B3:fw} {v:V} {t:Tr},Rep K (cn B3 H2) v t->Rep K (cn B3 q) v t)/\∀k:Hp->Prop,k q->lp X H2 k:=by
 obtain⟨q,g,r,_,k⟩:=h.back (C:=B) (B2:=B) (H2:=H2) ⟨λb o _ e=>s2 _ _ e,bL s2,.refl,(h.hb hb).same s2⟩;exact⟨q,g.same,r,k⟩
end
def Itd(a:Addr)(o:Obj)(kvs:List (Key×V)):It:=
 ⟨λi H=>H a=some (.lJ o (.dK kvs))/\i<kvs.length,λi H x H'=>H'=H/\∃k v,kvs[i]?=some (k,v)/\x=kV k,λi H=>H a=some (.lJ o (.dK kvs))/\kvs.length<=i⟩
def Bt{kvs:List (Key×V)}{vs:List (Key×Value)}(r:KV kvs vs){k:Key}{v:V}(e:kvs[i]?=some (k,v)):∃u,vs[i]?=some (k,u):=by
 have b:Paired _ kvs vs:=r
 clear r
 induction b generalizing i with
 |nil=>simp at e
 |cons h t g=>
  cases i with
  |zero=>
   simp at e;subst e;rename_i q _ _;obtain⟨n,l⟩:=q;cases h.1;exact⟨l,rfl⟩
  |succ j=>exact g (by simpa using e)
def sM{kvs:List (ag×V)}{vs:List (ag×Value)}(r:KV kvs vs):kvs.length=vs.length:=by
 have b:Paired _ kvs vs:=r
 clear r
 induction b with
 |nil=>rfl
 |cons h t g=>rw[dA,dA,g]
theorem IQ(a it:Addr)(o:Obj)(kvs:List (Key×V))(es:Array DictEntry)(ep:Nat)(hd:o.data=.dict es ep):Turn P w K tg (Itd a o kvs) [it] it (λi h=>h.IsKeyIter it a i kvs.length ep) where
 mem:=by simp
 obj:=λi h st b hb=>by
  have e:b=it:=by simpa using hb
  subst e;obtain⟨o,e,c,d⟩:=st;exact⟨o,e,λv z=>by rw[d]at z;cases z⟩
 keep:=λi h h' st k=>by
  obtain⟨o,e,c⟩:=st;exact⟨o,k it (by simp) o e,c⟩
 item:=by
  intro X r hw L hc i U s Z H E I hf st ⟨M,hi⟩;subst r hw L;obtain⟨g,hz,hs,vs,rv,o',A5,J_,h1,h2,l,S⟩:=(show cX X.prog X.w H s.heap a (.lJ o (.dK kvs))from I.cW a _ M);rw[g]at h1;cases h1;rw[hd]at l;cases l;obtain⟨f0,f1,f2,q,f4,f5⟩:=hf it (by simp);have n:=sM rv;have ex:kvs[i]?=some (kvs[i].1,kvs[i].2):=by simp[hi]
  obtain⟨u,hu⟩:=Bt rv ex;rw[n]at st;refine wpAny_pyNext_dict_item (knd:=cu X.prog X.w) st ⟨o,es,g,h2,hd,S⟩ hu λkey h' hk xX sb=>?_
  have I1:Inv X U Z H {s with heap:=h'}:=I.turned (t':=s.toks) (λb o hb e=>(sb.2 b hb).trans e) f0 f1 q f4 f5;obtain⟨oi,e,c,d⟩:=id xX;refine⟨key,rfl,zR (s:={s with heap:=h'}) e c d (by decide) ⟨kV kvs[i].1,H,I1,?_,⟨rfl,_,_,ex,rfl⟩,by rw[n];exact xX,λb hb=>(hf b hb).1⟩⟩;rcases dQ hk with⟨j,t,e1,e2⟩|⟨y,t,e1,e2⟩
  ·rw[e1,e2];exact⟨t,rfl⟩
  ·rw[e1,e2];exact⟨t,rfl⟩
 done:=by
  intro X r hw L hc i U s Z H E I hf st ⟨M,hi⟩;subst r hw L;obtain⟨g,hz,hs,vs,rv,o',A5,J_,h1,h2,l,S⟩:=(show cX X.prog X.w H s.heap a (.lJ o (.dK kvs))from I.cW a _ M);rw[g]at h1;cases h1;rw[hd]at l;cases l;obtain⟨f0,f1,f2,q,f4,f5⟩:=hf it (by simp);have n:=sM rv;rw[n]at st;exact wpAny_pyNext_dict_end (knd:=cu X.prog X.w) (I.ok.hd hc) st ⟨o,es,g,h2,hd,S⟩ (List.getElem?_eq_none (by rw[<-n];exact hi)) λh' eb=>⟨rfl,I.turned (t':=s.toks) (λb o hb e=>eb b o hb e) f0 f1 q f4 f5⟩
 self:=λ_ _ _ _ _ st h=>wpAny_pyIter_keyiter st h
def Am:Key->Tr
 |.inl i=>.int i
 |.inr z=>.str z
def keyOk:Key->Bool
 |.inl _=>true
 |.inr z=>decide (z.length<=cZ)
def An{W:Vw}{k:Key}(h:keyOk k=true):Rep K W (kV k) (Am k):=by
 cases k with
 |inl i=>exact .int i
 |inr z=>exact .str z (eR h)
def Dx(bE:List (Key×Tr)):Rs (List Tr):=if bE.all (λp=>keyOk p.1)=true then .ok (bE.map λp=>Am p.1)else .bad
def Ld(r:Rs Tr):Rs (List Tr):=r.bind λt=>match t with
 |.bW bE=>Dx bE
 |_=>.bad
inductive tJ(X:Cx)(W:bX->Rs (List Tr))(Z:St)(H:Hp)(R:It->Hp->Prop):Prop
 |mk (B:fw) (Y:bX):HB B H->cK X.K B H Z Y->(Fi X H (W Y) fun ts=>∀J H',IP X B H H'->lX X.K B J H' ts->R J H')->tJ X W Z H R
theorem Fq{o:Obj}{kvs:List (Key×V)}(h:(cn B H).H a=some (.lJ o (.dK kvs)))(e:kvs.map (·.1)=aG.map (·.1))(hk:aG.all (λp=>keyOk p.1)=true):lX K B (Itd a o kvs) H (aG.map λp=>Am p.1):=by
 have l:kvs.length=aG.length:=by have q:=cV List.length e;rw[bu,bu]at q;exact q
 refine⟨λi B' H' hi s hb=>⟨bJ _ _ (s.h _ _ h),by rw[bu]at hi;rw[l];exact hi⟩,λi B' H' x L hi s hb ⟨r,k,v,I,ex⟩=>?_,λB' H' s=>⟨bJ _ _ (s.h _ _ h),by rw[bu,l];exact bA _⟩⟩;subst r ex;have b:(kvs.map (·.1))[i]?=some k:=by rw[cq,I];rfl
 rw[e,cq]at b;cases g:aG[i]? with
 |none=>rw[g]at b;cases b
 |some p=>
  rw[g]at b;have n:p.1=k:=Option.some.inj b;refine⟨bo.refl _,Am k,by rw[cq,g,<-n];rfl,An ?_⟩;rw[<-n];exact dE.mp hk p (d8 g)
section
theorem Xk(hl:PE X am (tP X F)):PI X tg am (tJ X λY=>Ld (F Y)):=by
 intro U s Z H R I ⟨B,Y,hb,r,q⟩;refine eN (hl U s Z H (λx H1=>∃(a:Addr) (kvs:List (Key×V)) (bE:List (Key×Tr)),x=.ref a/\bo H H1/\Rd (cn B H1).H a (.dK kvs)/\kvs.map (·.1)=bE.map (·.1)/\bE.all (λp=>keyOk p.1)=true/\∀J H',IP X B H H'->lX X.K B J H' (bE.map λp=>Am p.1)->R J H') I ⟨B,Y,hb,r,q.bind.mono λt M v H1 s1 r1=>?_⟩) λv s1 ⟨x,H1,l,r1,a,kvs,bE,ex,sm,rd,ek,hk,k⟩=>?_
 ·skip
  split at M
  ·obtain⟨a,kvs,S,h,e,rr⟩:=r1.nW;obtain⟨z,q1⟩:=gR M;exact⟨a,kvs,_,S,s1,h,e,z,q1⟩
  ·exact M.elim
 ·subst ex;cases r1;have L:Rd H1 a (.dK kvs):=rd.same bJ;have hv:B.hd a=false:=by
   cases z:B.hd a with
   |false=>rfl
   |true=>
    have n:(cn B H1).H a=none:=by show(if B.hd a=true then none else H1 a)=none;rw[aY z]
    rcases rd with h|⟨o,h⟩<;>(rw[n]at h;cases h)
  obtain⟨hz,hs,vs,rv,o,es,ep,h1,h2,h3,h4⟩:=(show cX X.prog X.w H1 s1.heap a (.dK kvs)from L.ok l.cW);refine wpAny_pyIter_dict (knd:=cu X.prog X.w) hs ⟨o,es,h1,h2,h3,h4⟩ ?_
  have fin:∀{H2:Hp},Inv X U Z H2 s1->H2 a=some (.lJ o (.dK kvs))->IP X B H H2->ZQ X U Z tg R (.ref s1.heap.objs.size) {s1 with heap:=s1.heap.push {cls:=.type "dict_keyiterator",data:=.fields #[.ref a,.int 0 0,.int vs.length 0,.int ep 0]}}:=λ{H2} I2 e2 tf=>
   ⟨s1.heap.objs.size,[s1.heap.objs.size],_,Itd a o kvs,H2,rfl,I2.kept (t':=s1.toks) λb o e=>bS _ e,IQ a _ o kvs es ep h3,⟨_,cz _ rfl,rfl,by rw[sM rv];rfl⟩,λb hb=>by
    have e:b=s1.heap.objs.size:=by simpa using hb
    subst e;exact I2.xW (bA _) (I2.cW.fresh (bA _)),k _ H2 tf (Fq (by rw[gv hv];exact e2) ek hk)⟩
  rcases L with g|⟨o',g⟩
  ·refine fin (l.frozen g h1) bP (.inr ⟨H1,a,o,kvs,sm,hv,g,rfl,λo' u S=>?_⟩);have q:=l.base.lK a o' u S;rw[g]at q;cases q
  ·have eo:o'=o:=by
    have q:=(show cX X.prog X.w H1 s1.heap a (.lJ o' (.dK kvs))from l.cW a _ g).1;rw[h1]at q;cases q;rfl
   subst eo;exact fin l g (.inl sm)
variable {a b:Expr}{es:List Expr}{A:bX->Rs Bool}{scope:Scope}{N':List Str}{ix:List (Option Nat)}{elt c5:Expr}{ifs:List Expr}{T:o4}{W:bX->Rs (List Tr)}
def IS{Q:VK}(hT:jT T)(q:tP X (λY=>vX ix T A F (W Y) Y) Z H Q):Vh (tJ X W) ix (Qz X.K T) (Qy X.K A) (Qx X.K F) Z H (λv H'=>lp X H' (Q v)):=by
 obtain⟨B,Y,hb,r,q⟩:=q;refine⟨B,Y,hb,r,q.bind.mono λts b J H1 g gt D l=>?_⟩;by_cases hz:ts.length<=dZ
 ·rw[aY hz]at b;exact wO hT (wN ix Y) (g.hb hb) gt hz ((g.IM r).comp ix (k_ l)) l (Fi.bind b) λys H' k s' n=>by
   obtain⟨I,L,M,S⟩:=g.QY hb s';exact S _ (k _ I L (M n))
 ·rw[bc hz]at b;exact b.elim
theorem Xl(Lk:g0 X N' ix scope)(hi:PI X tg c5 (tJ X W))(lL:Oe X scope N' tg elt ifs T A F)(hT:jT T)(hc:X.calm=true:=by rfl) (hs:isSet c5=false:=by rfl):
  PE X (.ListComp elt [⟨tg,c5,ifs,0⟩] scope pos) (tP X λY=>vX ix T A F (W Y) Y):=
 (KL Lk hc hi lL.Vl (gK hs)).Vo.weak λZ H Q q=>IS hT q
theorem Td{G:bX->Rs Out}(hi:PI X tg c5 (tJ X W))(hg:PG X tg (tG X T))(hb:o6 X ah (tS X G))(hp:PassesOwn (model X.prog X.w) X.A X.env X.xe:=by exact pH) (hc:X.calm=true:=by rfl)
  (hs:isSet c5=false:=by rfl):PS X (.For tg c5 ah [] pos) (tS X λY=>GO T G (W Y) Y):=
 (ER hp hc hi hg hb (gK hs)).Vo.weak λD Z H ⟨C,B0,H0,B,Y,b,r,q⟩=>⟨B,Y,b.hb,r,(q.bind.here b).mono λts qt J H1 M gt=>by
  have si0:eD B B H1 B H1:=eD.refl (M.hb b.hb) .refl;have fin:∀{c:Tr},xS X C B0 H0 c->False:=λ{c} xc=>xc B H b;have qt:=qX.imp (Vi:=λ_=>False) qt λc xc=>(fin xc).elim;refine⟨λi m dB H'=>m=ts.length - i/\i<=ts.length/\∃B' iG,eD C B H1 B' H'/\cK X.K B' H' dB iG/\qX (λ_=>False) (zC T G (ts.drop i) iG) (E9 X D C B0 H0),⟨_,rfl,d_ _,B,Y,eD.refl (M.hb b.hb) b.sub,M.IM r,qt⟩,?_⟩
  rintro i m dB H' ⟨rfl,hi,B',iG,l,r',q'⟩
  by_cases gJ:i<ts.length
  ·rw[o8 gJ]at q';refine .inr ⟨gt.go i B' H' gJ l.jR l.hb,λwL H2=>∃B2 g,eD C B H1 B2 H2/\cK X.K B2 H2 wL g/\qX (λ_=>False) (zC T G (ts.drop (i+1)) g) (E9 X D C B0 H0),
    λwL H2 ⟨B2,g,x1,x2,x3⟩=>⟨ts.length - (i+1),by omega,rfl,gJ,B2,g,x1,x2,x3⟩,λx H2 hx=>?_⟩
   obtain⟨s2,t,et,rt⟩:=gt.Gs i B' H' x H2 gJ l.jR l.hb hx;have SF:ts[i]=t:=by rw[bZ gJ]at et;exact Option.some.inj et
   rw[SF]at q';have si2:=l.go s2;have qq:qX (λ_=>False) (T t iG) _:=qX.bind q';refine⟨B',iG,t,si2.hb,r'.same s2,rt,(qX.imp qq λc z=>z.elim).mono λrR q1 NG H3 s3 r3=>?_⟩;have S:=si2.go s3;refine⟨C,B',H3,B',rR,eD.refl S.hb S.sub,r3,((qX.bind q1).imp λc z=>z.elim).mono λo qo=>?_⟩;cases o with
   |nx g=>exact λK' n H4 I L=>⟨n,g,S.trans I,L,qo⟩
   |ct g=>exact λK' n H4 I L=>⟨n,g,S.trans I,L,qo⟩
   |bk g=>
    intro K' n H4 I L;obtain⟨Hu,su,ru,rs,ku⟩:=M.back (S.trans I);exact ku _ (qo K' n Hu (b.trans su) (rs L))
   |ret t=>
    intro v n H4 I L;obtain⟨Hu,su,ru,rs,ku⟩:=M.back (S.trans I);exact ku _ (qo v n Hu (b.trans su) (ru L))
  ·have e:i=ts.length:=by omega
   subst e;rw[pA]at q';obtain⟨Hu,su,ru,rs,ku⟩:=M.back l;exact .inl ⟨gt.stop B' H' l.jR,ku _ (q' dB B' Hu (b.trans su) (rs r'))⟩⟩
end
theorem sN{α:Type}:∀(l:List α) (i:Nat) (hi:i<l.length),(l[i]::l.eraseIdx i).Perm l
 |x::r,0,_=>List.Perm.refl _
 |x::r,i+1,hi=>by
  have b:=sN r i (by simpa using hi);have g:i<r.length:=by simpa using hi
  show(r[i]::x::r.eraseIdx i).Perm (x::r);exact(List.Perm.swap _ _ _).trans (b.cons x)
def Fs{M:Model}{src:Source}{Q:Nat->Shared->Prop}(q:az≠0)(h:∀i,i<az->∀d,Q i {s with drawn:=d}):wpAny M A (choose src az) Q E s:=λb p _=>by
 unfold choose;rw[Sem.wp];refine⟨q,?_⟩;rw[Sem.wp];exact h _ (Nat.mod_lt _ (Nat.pos_of_ne_zero q)) _
theorem rY{M:Model}{α:Type}:∀(n:Nat) (xs:List α) (s:Shared) (Q:List α->Shared->Prop),xs.length=n->(∀ys d,ys.Perm xs->Q ys {s with drawn:=d})->wpAny M A (drawOrder n xs) Q E s
 |0,xs,s,Q,b,h=>by
  cases xs with
  |nil=>exact bg (h [] s.drawn (List.Perm.refl _))
  |cons _ _=>cases b
 |n+1,[],s,Q,b,h=>by cases b
 |n+1,x::r,s,Q,b,h=>by
  unfold drawOrder;refine aU (Fs (by simp) λi hi d=>?_);have g:(x::r)[i]?=some (x::r)[i]:=bZ hi
  rw[g];dsimp only;refine aU (rY n _ _ _ (by rw[CG hi];simpa using b) λys d' hp=>?_);refine bg (h _ d' ?_);exact(hp.cons _).trans (sN _ i hi)
noncomputable abbrev CB(w:World):Bool:=w.params.followText "set-order"
def ent(w:World)(p:Str×Tok):Int×Value:=(hashStr w p.1,.str p.1 p.2)
def lM(w:World)(h:Heap)(a:Addr)(ss:List Str):Prop:=
 ∃(o:Obj) (es:Array (Int×Value)) (ep:Nat) (t:SetTable) (l:List (Str×Tok)),h.get? a=some o/\o.ExactSet/\o.data=.set es ep t/\es.toList=l.map (ent w)/\(l.map (·.1)).Perm ss/\ss.Nodup/\es.size<scanBound/\
  t.fits es.size=true/\(CB w=true\/t.led=true)/\(es.size≠0->t.plain=false)
theorem IT{l:List (Str×Tok)}:ElemsOf (PySem.strKind P w) (l.map (ent w)):=λe he=>by
 obtain⟨p,_,rfl⟩:=cC.mp he;exact⟨⟨p.1,by simp[PySem.strKind,ent,Value.isStrOf],rfl⟩,rfl⟩
def lM.typeIs {ss:List Str}(h:lM w s.heap a ss):s.TypeIs (.ref a) "set":=by
 obtain⟨o,_,_,_,_,b,g,_⟩:=h;exact⟨o,b,g.1⟩
def zE(t:SetTable)(n:Nat):(t.orStandIn n).led=t.led:=by
 unfold SetTable.orStandIn;split<;>rfl
def OK(t:SetTable)(j:Nat):(t.put j).1.led=t.led:=by
 unfold SetTable.put
 rfl
def Ft(t:SetTable)(es:Array (Int×Value))(h:Int)(x:Value):(layNew t es h x).2.1.led=t.led:=by
 unfold layNew;split
 ·dsimp only;rw[zE,OK]
 ·rfl
theorem Fu{t t':SetTable}{hs:Array Int}{o:Array Nat}(h:t.relaid hs i=some (t',o)):t'.led=t.led/\t'.plain=t.plain:=by
 unfold SetTable.relaid SetTable.laid at h;simp only[bind,Option.bind]at h;split at h
 ·cases h
 ·cases h;exact⟨rfl,rfl⟩
def Bu(t:SetTable)(es:Array (Int×Value))(n:Nat):(relayAll t es n).2.1.led=t.led/\(t.plain=false->(relayAll t es n).2.1.plain=false):=by
 unfold relayAll;split
 ·rename_i t' o e;have q:=Fu e;dsimp only;split
  ·exact⟨q.1,λz=>q.2.trans z⟩
  ·exact⟨rfl,λ_=>rfl⟩
 ·exact⟨rfl,λ_=>rfl⟩
theorem Ap(x:Str)(p:Str×Tok):(PySem.strKind P w).is x (ent w p).2=decide (x=p.1):=by
 have h:(PySem.strKind P w).is p.1 (ent w p).2=true:=by simp[PySem.strKind,ent,Value.isStrOf]
 exact KeyKind.is_eq_decide h x
def yB{h:Heap}{o:Obj}{es:Array (Int×Value)}{t:SetTable}(ho:h.get? a=some o)(hex:o.ExactSet)(hd:o.data=.set es i t){A5:Array (Int×Value)}{t':SetTable}{l':List (Str×Tok)}{CC:List Str}
  (he:A5.toList=l'.map (ent w)) (hp:(l'.map (·.1)).Perm CC) (hn:CC.Nodup) (hb:A5.size<scanBound) (hf:t'.fits A5.size=true) (hl:CB w=true\/t'.led=true) (oY:A5.size≠0->t'.plain=false):
  (h.update a (Obj.putSet A5 t')).get? a=some {o with data:=.set A5 (i+1) t'}/\lM w (h.update a (Obj.putSet A5 t')) a CC:=by
 have b:(h.update a (Obj.putSet A5 t')).get? a=some {o with data:=.set A5 (i+1) t'}:=by
  have q:=tH (Obj.putSet A5 t') ho (by rw[putSet_of A5 t' hd];rfl);rw[putSet_of A5 t' hd]at q;exact q
 exact⟨b,_,A5,i+1,t',l',b,hex,rfl,he,hp,hn,hb,hf,hl,oY⟩
def IU{l:List (Str×Tok)}{u:Tok}{es:List (Int×Value)}(hp:es.Perm (l.map (ent w)++[(hashStr w x,.str x u)])):∃l':List (Str×Tok),es=l'.map (ent w)/\l'.Perm (l++[(x,u)]):=by
 have e:l.map (ent w)++[(hashStr w x,Value.str x u)]=(l++[(x,u)]).map (ent w):=by rw[iL];rfl
 rw[e]at hp;have back:∀(AX:List (Str×Tok)) (es:List (Int×Value)),es.Perm (AX.map (ent w))->∃l':List (Str×Tok),es=l'.map (ent w)/\l'.Perm AX:=by
  intro AX es hp
  let f:Int×Value->Str×Tok:=λe=>match e.2 with
   |.str y t=>(y,t)
   |_=>(x,u)
  have fe:∀p,f (ent w p)=p:=λp=>rfl;have b:∀e∈es,ent w (f e)=e:=λe he=>by
   obtain⟨p,_,rfl⟩:=cC.mp (hp.mem_iff.mp he);rw[fe]
  refine⟨es.map f,?_,?_⟩
  ·rw[cO]
   conv=>lhs;rw[<-jH es]
   exact f_ λe he=>(b e he).symm
  ·have h2:=hp.map f;rw[cO]at h2;have g:List.map (f∘ent w) AX=AX:=by
    conv=>rhs;rw[<-jH AX]
    exact f_ λp _=>fe p
   rw[g]at h2;exact h2
 exact back _ _ hp
def yC{l:List (Str×Tok)}{es:List (Int×Value)}(hp:es.Perm (l.map (ent w))):∃l':List (Str×Tok),es=l'.map (ent w)/\l'.Perm l:=by
 let f:Int×Value->Str×Tok:=λe=>match e.2 with
  |.str y t=>(y,t)
  |_=>(Str.empty,0)
 have fe:∀p,f (ent w p)=p:=λp=>rfl;have b:∀e∈es,ent w (f e)=e:=λe he=>by
  obtain⟨p,_,rfl⟩:=cC.mp (hp.mem_iff.mp he);rw[fe]
 refine⟨es.map f,?_,?_⟩
 ·rw[cO]
  conv=>lhs;rw[<-jH es]
  exact f_ λe he=>(b e he).symm
 ·have h2:=hp.map f;rw[cO]at h2;have g:List.map (f∘ent w) l=l:=by
   conv=>rhs;rw[<-jH l]
   exact f_ λp _=>fe p
  rw[g]at h2;exact h2
theorem Dy{g:Bool->Sem Unit}(hg:∀(b:Bool) (dr:Shared) (Q':Unit->Shared->Prop),Q' () dr->wpAny (model P w) A (g b) Q' E dr){o:Obj}{es:Array (Int×Value)}{t:SetTable}
  (ho:s.heap.get? a=some o) (hex:o.ExactSet) (hd:o.data=.set es i t) {wx:Array (Int×Value)} {t2:SetTable} {l1:List (Str×Tok)}
  (he1:wx.toList=l1.map (ent w)) (hp1:(l1.map (·.1)).Perm ps) (hn1:ps.Nodup) (Bs:wx.size<scanBound) (hf2:t2.fits wx.size=true) (Nu:CB w=true\/t2.led=true) (Xm:t2.plain=false) {Dz:Bool} {R:Option Bool->Shared->Prop}
  (h:∀h',Heap.SameBut a s.heap h'->lM w h' a ps->R (some true) {s with heap:=h'}):
  wpAny (model P w) A (do
    storeSet a wx t2
    if(!Dz&&t2.tooFull)=true then do
       g (relayAll t2 wx (SetTable.grown wx.size)).2.2
       storeSet a (relayAll t2 wx (SetTable.grown wx.size)).1 (relayAll t2 wx (SetTable.grown wx.size)).2.1
       pure (some true)
     else pure (some true)) R E s:=by
 refine aU (wpAny_storeSet_of ho hd ?_ (xO Bs));obtain⟨M,Xn⟩:=yB (w:=w) ho hex hd he1 hp1 hn1 Bs hf2 Nu λ_=>Xm;have l:=pj s.heap a (Obj.putSet wx t2);split
 ·have hp:=relayAll_perm t2 wx (SetTable.grown wx.size);have I:=relayAll_fits t2 wx (SetTable.grown wx.size);have r:=Bu t2 wx (SetTable.grown wx.size);generalize relayAll t2 wx (SetTable.grown wx.size)=Rl at hp I r⊢;obtain⟨n,t3,abN⟩:=Rl;dsimp only at hp I r⊢;rw[he1]at hp;obtain⟨l2,e2,p2⟩:=yC hp;have hsz:n.size=wx.size:=by
   have q:=hp.length_eq;rw[<-he1,gE,gE]at q;exact q
  have S:n.size<scanBound:=by rw[hsz];exact Bs
  refine aU (hg _ _ _ ?_);refine aU (wpAny_storeSet_of M rfl ?_ (xO S));obtain⟨_,L⟩:=yB (w:=w) (h:=s.heap.update a (Obj.putSet wx t2)) M hex rfl e2 ((p2.map _).trans hp1) hn1 S I (Nu.imp id λz=>r.1.trans z) λ_=>r.2 Xm;exact bg (h _ (l.trans (pj _ a _)) L)
 ·exact bg (h _ l Xn)
noncomputable def gW(ss:List Str)(x:Str):List Str:=if x∈ss then ss else ss++[x]
theorem IV{ss:List Str}{u:Tok}{Q:Bool->Shared->Prop}(hS:lM w s.heap a ss)(DA:ss.length+1<scanBound)
  (h:∀b h',Heap.SameBut a s.heap h'->lM w h' a (gW ss x)->Q b {s with heap:=h'}):wpAny (model P w) A (setAddHashed a (.str x u) (hashStr w x)) Q E s:=by
 obtain⟨o,es,ep,t,l,ho,hex,hd,he,hp,hn,hb,hf,hl,oY⟩:=id hS;have I:ElemsOf (PySem.strKind P w) es.toList:=by rw[he];exact IT
 have b9:es.size=ss.length:=by
  have q:=cV List.length he;rw[gE,bu]at q;have q2:=hp.length_eq;rw[bu]at q2;omega
 have Kl:(PySem.strKind P w).is x (.str x u)=true:=by simp[PySem.strKind,Value.isStrOf]
 unfold setAddHashed setAddHashedIn;refine fK (aU (kQ ho hd hf ?_));dsimp only;rw[byScan_of (knd:=PySem.strKind P w) rfl hb I];simp only[↓reduceIte];unfold setAddByScan;refine aU ?_
 refine aU (fP ?_);refine aU (wpAny_setScan_of (knd:=PySem.strKind P w) Kl ho hd hf I ?_);have IW:x∈ss↔∃e∈es.toList,(PySem.strKind P w).is x e.2=true:=by
  rw[he,<-hp.mem_iff];constructor
  ·intro m;obtain⟨p,Q0,rfl⟩:=cC.mp m;exact⟨ent w p,f' Q0,by rw[Ap];simp⟩
  ·rintro ⟨e,n,r⟩
   obtain⟨p,Q0,rfl⟩:=cC.mp n;rw[Ap,iK]at r;rw[r];exact f' Q0
 cases hr:List.findIdx? (λe=>(PySem.strKind P w).is x e.2) es.toList with
 |some j=>
  dsimp only;obtain⟨hj,hpj,_⟩:=CD.mp hr;have r:x∈ss:=IW.mpr ⟨es.toList[j],kR hj,hpj⟩;refine bg (bg ?_);have q:=h false s.heap (Heap.SameBut.refl a s.heap) (by unfold gW;rw[aY r];exact hS);exact q
 |none=>
  dsimp only;have r:¬x∈ss:=λm=>by
   obtain⟨e,n,q⟩:=IW.mp m;have z:=List.findIdx?_eq_none_iff.mp hr e n;rw[q]at z;cases z
  have hgw:∀(b:Bool) {dr:Shared} {M:Unit->Shared->Prop},M () dr->wpAny (model P w) A (match b with|true=>rule "set.scan.the-table-gave-way"|false=>pure ()) M E dr:=
   λb dr M g=>by cases b<;>first|exact bg g|exact fP g
  have S:=layNew_perm t es (hashStr w x) (.str x u);have Hd:=layNew_fits t es (hashStr w x) (.str x u);have IX:=Ft t es (hashStr w x) (.str x u);generalize layNew t es (hashStr w x) (.str x u)=L at S Hd IX⊢;obtain⟨wx,t1,Dz,abT⟩:=L;dsimp only at S Hd IX⊢;rw[Array.toList_push,he]at S;obtain⟨l1,e1,p1⟩:=IU S;have hsz:wx.size=es.size+1:=by
   have q:=S.length_eq;rw[fm,<-he,gE,gE]at q;simpa using q
  have Bs:wx.size<scanBound:=by omega
  have NW:(l1.map (·.1)).Perm (ss++[x]):=by
   have q:=p1.map (·.1);rw[iL]at q;exact q.trans (hp.append_right _)
  have RS:(ss++[x]).Nodup:=by
   rw[xA];refine⟨hn,by simp,λy hy z hz e=>?_⟩;rw[de]at hz;subst hz e;exact r hy
  have Xo:∀h',Heap.SameBut a s.heap h'->lM w h' a (ss++[x])->Q true {s with heap:=h'}:=λh' sb Le=>h true h' sb (by unfold gW;rw[bc r];exact Le);refine aU (hgw _ ?_);split
  ·refine aU ?_
   rw[hashByValue_scannable 8 (x:=.str x u) rfl];refine bg ?_
   refine Dy ?_ ho hex hd e1 NW RS Bs ?_ ?_ ?_ ?_
   ·intro b dr M g;cases b<;>first|exact bg g|exact fP g
   ·exact SetTable.fits_plain_off Hd
   ·exact hl.imp id λz=>IX.trans z
   ·rfl
   ·intro h' sb Le;exact bg (Xo h' sb Le)
  ·rename_i aaZ;refine aU (bg ?_);simp only[↓reduceIte];refine Dy ?_ ho hex hd e1 NW RS Bs Hd ?_ ?_ ?_
   ·intro b dr M g;cases b<;>first|exact bg g|exact fP g
   ·exact hl.imp id λz=>IX.trans z
   ·simpa using aaZ
   ·intro h' sb Le;exact bg (Xo h' sb Le)
def dY:Slot "set_iterator" "__next__" "set_iterator.__next__":=.of (owner:="set_iterator") (n:="__next__")
 (by rw[typeLookup_type,xt];kernel_rfl) (by decide+kernel) (by decide+kernel) (by decide+kernel) (by first|exact .inl (by decide+kernel)|exact .inr (by decide+kernel))
 (by rw[isSubtype_type];kernel_rfl)
def nj:entryFor table "set_iterator.__next__"=some Builtin.«set_iterator.__next__»:=entryFor_of_tree (by kernel_rfl)
def v7:Manifest.owners.lookup (String.ofList ['r', 'o', 't', 'a', 'r', 'e', 't', 'i', '_', 't', 'e', 's'].reverse)=some Manifest.sig_set_iterator:=by kernel_rfl
theorem oO(a:Value):argsOk "set_iterator.__next__" ⟨[a],[]⟩:=by
 unfold argsOk;rw[signature?_of (id:="set_iterator.__next__") (n:=['_', '_', 't', 'x', 'e', 'n', '_', '_']) (o:=['r', 'o', 't', 'a', 'r', 'e', 't', 'i', '_', 't', 'e', 's']) (by kernel_rfl) v7];kernel_rfl
def oP:Slot "set_iterator" "__iter__" "set_iterator.__iter__":=.of (owner:="set_iterator") (n:="__iter__")
 (by rw[typeLookup_type,xt];kernel_rfl) (by decide+kernel) (by decide+kernel) (by decide+kernel) (by first|exact .inl (by decide+kernel)|exact .inr (by decide+kernel))
 (by rw[isSubtype_type];kernel_rfl)
def wy:entryFor table "set.__iter__"=some Builtin.«frozenset.__iter__»:=entryFor_alias (id':="frozenset.__iter__") (by kernel_rfl) rfl (by decide+kernel) (by kernel_rfl)
noncomputable def uF(F:Value)(i:Nat)(a:Addr)(n ep:Nat):Obj:={cls:=.type "set_iterator",dict:=none,data:=.fields #[F,rawInt i,.ref a,rawInt n,rawInt ep],slots:=#[]}
section
variable {o:Obj}{es:Array (Int×Value)}{t:SetTable}
def mw{Q:Array (Int×Value)->Shared->Prop}(q:s.heap.get? a=some o)(hd:o.data=.set es az t)(hf:t.fits es.size=true)(h:Q es s):wpAny (model P w) A (setEntries a) Q E s:=by
 unfold setEntries;exact aU (kQ q hd hf (bg h))
theorem yE{R:ag->Shared->Prop}(q:A.handled=none)
  (h:∀h' (x:Addr),Shared.TypeIs {s with heap:=h'} (.ref x) "StopIteration"->(∀b o,s.heap.get? b=some o->h'.get? b=some o)->E (.ref x) {s with heap:=h'}):
  wpAny (model P w) A.in1 (newExc (.type "StopIteration") []) (λx s'=>wpAny (model P w) A.in1 (raiseNew x:Sem ag) R E s') E s:=by
 simp only[newExc,newTuple];refine aU (kO ?_ (by size_fits));refine aU (m:=firstArgMember _ _) (wpAny_of_eq (a:=Value.none) (by first|rfl|(simp only[firstArgMember];rfl)) ?_);refine kO ?_ (by size_fits)
 simp only[raiseNew];refine aU (wpAny_handled ?_)
 first|rw[show A.in1.handled=none from q]|rw[q]
 refine aU (bg (wpAny_throw ?_));exact h _ _ ⟨_,cz _ rfl,rfl⟩ λb o e=>bS _ (bS _ e)
theorem Bv{slot:Nat}{r:Option (Value×Nat)}(hh:A.handled=none)(hit:s.heap.get? au=some (uF (rawInt slot) i a es.size az))(ho:s.heap.get? a=some o)(hd:o.data=.set es az t)(hf:t.fits es.size=true)
  (hn:∀(B:Around) (E':Value->Shared->Prop) (q:Option (Value×Nat)->Shared->Prop),q r s->wpAny (model P w) B (setNext a slot i az) q E' s)
  (h1:∀x nx,r=some (x,nx)->∀h',h'.get? au=some (uF (rawInt nx) (i+1) a es.size az)->Heap.SameBut au s.heap h'->aM (some x) {s with heap:=h'})
  (h2:r=none->∀h',Heap.ExtBut au s.heap h'->aM none {s with heap:=h'}):wpAny (model P w) A (pyNext (.ref au)) aM E s:=by
 have g:s.TypeIs (.ref au) "set_iterator":=⟨_,hit,rfl⟩;unfold pyNext;refine aU (ua (qU (name:=Str.ofString "__next__") g dY (hJ dY g nj ?_ (oO _))));unfold Builtin.«set_iterator.__next__»;refine aU (m:=slotArgs "__next__" 0 _) (bg ?_);refine aU (wpAny_fieldsOf hit rfl ?_);dsimp only;refine aU (mw ho hd hf ?_);rw[bc (by simp)];show wpAny _ _ (setNext a (slot:Int).toNat (i:Int).toNat (az:Int).toNat>>=_) _ _ s;rw[lS,lS,lS];refine aU (hn _ _ _ ?_);cases r with
 |none=>
  dsimp only;refine aU (wpAny_setField hit rfl (by show 2<5;decide) ?_);refine aU (yE hh λh' x l n=>?_);refine aU (pF (T:="StopIteration") (b:=true) l isSubtype_stop ?_);exact bg (h2 rfl _ λb o hb e=>n b o ((pj s.heap au _).extBut b o hb e))
 |some p=>
  obtain⟨x,nx⟩:=p;dsimp only;refine aU (js hit (by show 0<5;decide) λI L M=>?_);refine aU (js (s:={s with heap:=I}) L (by show 1<5;decide) λS Xp vy=>?_);exact bg ⟨_,rfl,bg (h1 x nx rfl S Xp (M.trans vy))⟩
end
def vz:entryFor table "set_iterator.__iter__"=some Builtin.«dict_keyiterator.__iter__»:=entryFor_alias (id':="dict_keyiterator.__iter__") (by kernel_rfl) rfl (by decide+kernel) (by kernel_rfl)
theorem wz(a:Value):argsOk "set_iterator.__iter__" ⟨[a],[]⟩:=by
 unfold argsOk;rw[signature?_of (id:="set_iterator.__iter__") (n:=['_', '_', 'r', 'e', 't', 'i', '_', '_']) (o:=['r', 'o', 't', 'a', 'r', 'e', 't', 'i', '_', 't', 'e', 's']) (by kernel_rfl) v7];kernel_rfl
theorem He{α:Type}(next:Nat->Nat):∀(fuel k:Nat) (left:List α) (out:Array α),left.length=fuel->(pickOrder.go next fuel k left out).toList.Perm (out.toList++left)
 |0,k,left,out,h=>by
  rw[List.eq_nil_of_length_eq_zero h];simp[pickOrder.go]
 |fuel+1,k,left,out,h=>by
  have hi:next k % left.length<left.length:=Nat.mod_lt _ (by omega)
  unfold pickOrder.go;rw[bZ hi];dsimp only;refine(He next fuel (k+1) _ _ (by rw[CG hi];omega)).trans ?_
  rw[Array.toList_push,xy];exact(sN left _ hi).append_left _
def IY(next:Nat->Nat)(xs:Array ag):(pickOrder next xs).toList.Perm xs.toList:=by
 have h:=He next xs.size 0 xs.toList #[] (by simp)
 unfold pickOrder;simpa using h
def Tf:SetTable.below #[] 0=0:=rfl
def Tg(j:Nat):SetTable.below #[j] 0=0:=by
 unfold SetTable.below;simp[SetTable.below.go]
def Th(j:Nat):SetTable.below #[j] (j+1)=1:=by
 unfold SetTable.below;simp[SetTable.below.go]
section
variable {o:Obj}{es:Array (Int×Value)}{t:SetTable}
def Bw{e:Nat}(hit:s.heap.get? au=some (uF af i a az e))(h:Q (.ref au) s):wpAny (model P w) A (pyIter (.ref au)) Q E s:=by
 have b:s.TypeIs (.ref au) "set_iterator":=⟨_,hit,rfl⟩;refine wpAny_pyIter_slot b oP (hJ oP b vz ?_ (wz _));show wpAny _ _ (ret (.ref au)) _ _ s;exact bg ⟨_,rfl,"set_iterator",_,b,dY.lookup,h⟩
theorem Lg{tp:Addr}{m:Nat}{ot:Obj}(hh:A.handled=none)(hit:s.heap.get? au=some (uF (.ref tp) i a es.size az))(ho:s.heap.get? a=some o)(hd:o.data=.set es az t)(hf:t.fits es.size=true)
  (q:s.heap.get? tp=some ot) (Z8:ot.data=.seq ak m)
  (h1:∀(p:Nat) (e:Int×Value),ak[i]?=some (rawInt p)->es[p]?=some e->∀h',h'.get? au=some (uF (.ref tp) (i+1) a es.size az)->Heap.SameBut au s.heap h'->aM (some e.2) {s with heap:=h'})
  (h2:ak[i]?=none->∀h',Heap.ExtBut au s.heap h'->aM none {s with heap:=h'})
  (oY:∀v,ak[i]?=some v->∃(p:Nat) (e:Int×Value),v=rawInt p/\es[p]?=some e):wpAny (model P w) A (pyNext (.ref au)) aM E s:=by
 have I:s.TypeIs (.ref au) "set_iterator":=⟨_,hit,rfl⟩;unfold pyNext;refine aU (ua (qU (name:=Str.ofString "__next__") I dY (hJ dY I nj ?_ (oO _))));unfold Builtin.«set_iterator.__next__»;refine aU (m:=slotArgs "__next__" 0 _) (bg ?_);refine aU (wpAny_fieldsOf hit rfl ?_);dsimp only;refine aU (mw ho hd hf ?_);rw[bc (by simp)];show wpAny _ _ (seqItems? (.ref tp)>>=_) _ _ s;refine aU (hV q Z8 ?_);dsimp only;rw[lS];cases g:ak[i]? with
 |none=>
  dsimp only;refine aU (js hit (by show 0<5;decide) λl n r=>?_);refine aU (js (s:={s with heap:=l}) n (by show 2<5;decide) λpY Xp L=>?_);refine aU (yE hh λh' x M S=>?_);refine aU (pF (T:="StopIteration") (b:=true) M isSubtype_stop ?_);exact bg (h2 g _ λb o hb e=>S b o (L.extBut b o hb (r.extBut b o hb e)))
 |some v=>
  obtain⟨p,e,rfl,he⟩:=oY v g;show wpAny _ _ (setNextDrawn a (p:Int).toNat (az:Int).toNat>>=_) _ _ s;rw[lS,lS];refine aU ?_
  unfold setNextDrawn;refine aU (kQ ho hd hf ?_);dsimp only;rw[bc (by simp),he];dsimp only;refine bg ?_
  refine aU (js hit (by show 1<5;decide) λl n r=>?_);exact bg ⟨_,rfl,bg (h1 p e g he l n r)⟩
def ra{Q:Bool->Shared->Prop}(h:Q (CB w) s):wpAny (model P w) A setsByText Q E s:=by
 unfold setsByText;exact aU (wpAny_askSetting (bg h))
def Aq{slot:Nat}{Q:Option (Value×Nat)->Shared->Prop}(hb:CB w=true)(q:s.heap.get? a=some o)(hd:o.data=.set es az t)(hf:t.fits es.size=true)
  (h:Q (((pickOrder (w.params.setOrder a az) es)[i]?).map λe=>(e.2,slot)) s):wpAny (model P w) A (setNext a slot i az) Q E s:=by
 unfold setNext;refine aU (kQ q hd hf ?_);dsimp only;refine aU (ra ?_);rw[hb,aY rfl];simp only[tN,cH,cg];refine aU ?_
 unfold setWalk;refine aU (kQ q hd hf ?_);dsimp only;refine aU (ra ?_);rw[hb,aY rfl];refine aU (wpAny_askSetting ?_);exact bg (bg h)
theorem DB{slot:Nat}{Q:Option (Value×Nat)->Shared->Prop}(hb:CB w=false)(q:t.led=true)(hz:es.size<=1)(ho:s.heap.get? a=some o)(hd:o.data=.set es az t)(hf:t.fits es.size=true)
  (h:Q (match es[SetTable.below t.place slot]?,t.place[SetTable.below t.place slot]? with
   |some (_,x),some j=>some (x,j+1)
   |_,_=>none) s):wpAny (model P w) A (setNext a slot i az) Q E s:=by
 unfold setNext;refine aU (kQ ho hd hf ?_);dsimp only;refine aU (ra ?_);rw[hb];simp only[cH,cg];refine mV (λb=>absurd (show(!t.plain&&decide (es.size>1))=true from b) ?_) (λ_=>?_)
 ·rw[fo (p:=es.size>1) (by omega),xM];exact fI
 ·refine aU (m:=(if(!t.led&&!es.isEmpty)=true then unsupported "set:maker-not-led"else pure ())) ?_
  rw[q,bc (by simp)];exact bg (bg h)
end
def one_place{xs:Array Nat}(h:xs.size=1):∃j,xs=#[j]:=by
 obtain⟨l⟩:=xs
 match l,h with
 |[j],_=>exact⟨j,rfl⟩
def Fv(p:Str×Tok):Value:=.str p.1 p.2
def strAt(l:List (Str×Tok))(i:Nat)(v:Value):Prop:=(l[i]?).map Fv=some v
section
variable {o:Obj}{es:Array (Int×Value)}{t:SetTable}
def wR{l:List (Str×Tok)}(he:es.toList=l.map (ent w))(p:Nat):es[p]?=(l[p]?).map (ent w):=by
 rw[<-nQ,he,cq]
theorem IZ(hb:CB w=true)(hd:o.data=.set es az t)(hf:t.fits es.size=true){l:List (Str×Tok)}(he:(pickOrder (w.params.setOrder a az) es).toList=l.map (ent w))(hl:l.length=es.size)(ik:au≠a)(A':Around)(hh:A'.handled=none):
  Walks P w A' au [au,a] [au] l.length (strAt l) (λi h=>h.get? au=some (uF (rawInt 0) i a es.size az)/\h.get? a=some o) where
 sub:=λb hb=>by simp at hb;simp[hb]
 frame:=λi h h' st k=>⟨k au (by simp) _ st.1,k a (by simp) _ st.2⟩
 item:=λi s Q E hi st n=>by
  have I:(pickOrder (w.params.setOrder a az) es)[i]?=(l[i]?).map (ent w):=by rw[<-nQ,he,cq]
  rw[bZ hi]at I;refine Bv (slot:=0) (r:=some ((ent w l[i]).2,0)) hh st.1 st.2 hd hf (λB M S q=>Aq hb st.2 hd hf (by rw[I];exact q)) (λx nx e h' g L=>?_) λe=>nomatch e;cases e;exact n _ h' s.toks (by unfold strAt;rw[bZ hi];rfl) ⟨g,(L.2 a (Ne.symm ik)).trans st.2⟩ λb o hb e=>L.extBut b o (λz=>hb (by simp[z])) e
 done:=λs Q E st n=>by
  have I:(pickOrder (w.params.setOrder a az) es)[l.length]?=none:=by
   rw[<-nQ,he,cq,jq.mpr (bA _)];rfl
  refine Bv (slot:=0) (r:=none) hh st.1 st.2 hd hf (λB M S q=>Aq hb st.2 hd hf (by rw[I];exact q)) (λx nx e=>nomatch e) λ_ h' eb=>?_
  exact n h' s.toks λb o hb e=>eb b o (λz=>hb (by simp[z])) e
 self:=λi s Q E st n=>Bw st.1 n
theorem Lh(hb:CB w=false)(hl:t.led=true)(hz:es.size<=1)(hd:o.data=.set es az t)(hf:t.fits es.size=true){l:List (Str×Tok)}(he:es.toList=l.map (ent w))(ik:au≠a)(A':Around)(hh:A'.handled=none):
  Walks P w A' au [au,a] [au] l.length (strAt l) (λi h=>h.get? au=some (uF (rawInt (if i=0 then(0:Nat)else t.place.getD 0 0+1:Nat)) i a es.size az)/\h.get? a=some o) where
 sub:=λb hb=>by simp at hb;simp[hb]
 frame:=λi h h' st k=>⟨k au (by simp) _ st.1,k a (by simp) _ st.2⟩
 item:=λi s Q E hi st n=>by
  have b9:l.length=es.size:=by have q:=cV List.length he;rw[gE,bu]at q;exact q.symm
  have L:i=0:=by omega
  subst L;have Ti:t.place.size=es.size:=by
   simp only[SetTable.fits,bY,fu]at hf;exact hf.1
  obtain⟨j,I⟩:∃j,t.place=#[j]:=by
   exact one_place (by omega)
  have e0:es[0]?=some (ent w l[0]):=by rw[wR he,bZ hi];rfl
  refine Bv (slot:=0) (r:=some ((ent w l[0]).2,j+1)) hh st.1 st.2 hd hf (λB E' Q' q=>DB hb hl hz st.2 hd hf (by rw[I,Tg,e0];exact q)) (λx nx e h' g S=>?_) λe=>nomatch e;cases e;refine n _ h' s.toks (by unfold strAt;rw[bZ hi];rfl) ⟨?_,(S.2 a (Ne.symm ik)).trans st.2⟩ λb o hb e=>S.extBut b o (λz=>hb (by simp[z])) e;rw[I];exact g
 done:=λs Q E st n=>by
  have b9:l.length=es.size:=by have q:=cV List.length he;rw[gE,bu]at q;exact q.symm
  have Ti:t.place.size=es.size:=by
   simp only[SetTable.fits,bY,fu]at hf;exact hf.1
  have fin:∀slot:Nat,s.heap.get? au=some (uF (rawInt slot) l.length a es.size az)->es[SetTable.below t.place slot]?=none->wpAny (model P w) A' (pyNext (.ref au)) Q E s:=λslot hit e1=>by
   refine Bv (slot:=slot) (r:=none) hh hit st.2 hd hf (λB E' Q' q=>DB hb hl hz st.2 hd hf (by rw[e1];exact q)) (λx nx e=>nomatch e) λ_ h' eb=>?_
   exact n h' s.toks λb o hb e=>eb b o (λz=>hb (by simp[z])) e
  by_cases h0:l.length=0
  ·have M:t.place=#[]:=Array.eq_empty_of_size_eq_zero (by omega);refine fin 0 ?_ ?_
   ·have q:=st.1;rw[aY h0]at q;exact q
   ·rw[M,Tf,wR he,jq.mpr (by omega)];rfl
  ·obtain⟨j,I⟩:∃j,t.place=#[j]:=by
    exact one_place (by omega)
   refine fin (j+1) ?_ ?_
   ·have q:=st.1;rw[bc h0,I]at q;exact q
   ·rw[I,Th,wR he,jq.mpr (by omega)];rfl
 self:=λi s Q E st n=>Bw st.1 n
theorem Fw{tp:Addr}{ot:Obj}{ps:List Nat}{m:Nat}(hd:o.data=.set es az t)(hf:t.fits es.size=true)(Z8:ot.data=.seq (ps.map λi=>rawInt (i:Nat)).toArray m){l l':List (Str×Tok)}(he:es.toList=l.map (ent w))(hl':∀i:Nat,l'[i]?=(ps[i]?).bind λp=>l[p]?)(Ti:∀p∈ps,p<l.length)
  (b9:l'.length=ps.length) (ik:au≠a) (hnt:au≠tp) (A':Around) (hh:A'.handled=none):
  Walks P w A' au [au,a,tp] [au] l'.length (strAt l') (λi h=>h.get? au=some (uF (.ref tp) i a es.size az)/\h.get? a=some o/\h.get? tp=some ot) where
 sub:=λb hb=>by simp at hb;simp[hb]
 frame:=λi h h' st k=>⟨k au (by simp) _ st.1,k a (by simp) _ st.2.1,k tp (by simp) _ st.2.2⟩
 item:=λi s Q E hi st r=>by
  have n:i<ps.length:=by omega
  have oY:(ps.map λi=>rawInt (i:Nat)).toArray[i]?=some (rawInt (ps[i]:Nat)):=by simp[n]
  have hp:ps[i]<l.length:=Ti _ (kR n);have e1:es[ps[i]]?=some (ent w l[ps[i]]):=by rw[wR he,bZ hp];rfl
  have e2:l'[i]?=some l[ps[i]]:=by rw[hl',bZ n];exact bZ hp
  refine Lg hh st.1 st.2.1 hd hf st.2.2 Z8 (λp e I h2 h' g M=>?_) (λz=>by rw[oY]at z;cases z) (λv L=>?_)
  ·rw[oY]at I;have hpp:((ps[i]:Nat):Int)=(p:Int):=by
    have q:=Option.some.inj I;injection q
   have S:ps[i]=p:=by omega
   subst S;rw[e1]at h2;cases h2;exact r _ h' s.toks (by unfold strAt;rw[e2];rfl) ⟨g,(M.2 a (Ne.symm ik)).trans st.2.1,(M.2 tp (Ne.symm hnt)).trans st.2.2⟩ λb o hb e=>M.extBut b o (λz=>hb (by simp[z])) e
  ·rw[oY]at L;cases L;exact⟨_,_,rfl,e1⟩
 done:=λs Q E st r=>by
  have oY:(ps.map λi=>rawInt (i:Nat)).toArray[l'.length]?=none:=by simp[b9]
  refine Lg hh st.1 st.2.1 hd hf st.2.2 Z8 (λp e I=>by rw[oY]at I;cases I) (λ_ h' eb=>?_) (λv L=>by rw[oY]at L;cases L);exact r h' s.toks λb o hb e=>eb b o (λz=>hb (by simp[z])) e
 self:=λi s Q E st r=>Bw st.1 r
theorem I0{ss:List Str}(hS:lM w s.heap a ss)
  (hQ:∀(h':Heap) (d:Drawn) (au:Addr) (fp:List Addr) (St:Nat->Heap->Prop) (l:List (Str×Tok)),(l.map (·.1)).Perm ss->(∀b o,s.heap.get? b=some o->h'.get? b=some o)->s.heap.objs.size<=au->(∀b∈fp,b=a\/s.heap.objs.size<=b)->
   (∀A':Around,A'.handled=none->Walks P w A' au fp [au] l.length (strAt l) St)->St 0 h'->Q (.ref au) {s with heap:=h',drawn:=d}):wpAny (model P w) A (pyIter (.ref a)) Q E s:=by
 obtain⟨o,es,az,t,l,g,hex,hd,he,hp,hn,hb,hf,hl,oY⟩:=id hS;have gJ:a<s.heap.objs.size:=bz g;have b9:l.length=es.size:=by have q:=cV List.length he;rw[gE,bu]at q;exact q.symm
 refine wpAny_pyIter_slot hS.typeIs PySem.F.slot_set_iter (hJ PySem.F.slot_set_iter hS.typeIs wy ?_ (PySem.F.args_set_iter_1 _));unfold Builtin.«frozenset.__iter__»;refine aU (m:=Builtin.Frozenset.slot0 "__iter__" _) (bg ?_);refine aU ?_
 unfold Builtin.Frozenset.sizeOf;refine aU (mw g hd hf (bg ?_));refine aU ?_
 unfold setDrawn;refine aU (kQ g hd hf ?_);dsimp only;refine aU (ra (bg ?_));refine mV (λn=>?_) (λn=>?_)
 ·
  refine aU (rY _ _ _ _ (tR ..) λps d S=>?_);have hz:((ps.map λ(i:Nat)=>rawInt i)).length<=sizeLine:=by
   rw[bu,S.length_eq,tR];exact xO hb
  refine aU (wpAny_newTuple (hsz:=hz) ?_);have QZ:(s.heap.push {cls:=.type "tuple",data:=.seq (ps.map λ(i:Nat)=>rawInt i).toArray}).get? a=some o:=bS _ g;have L:(s.heap.push {cls:=.type "tuple",data:=.seq (ps.map λ(i:Nat)=>rawInt i).toArray}).objs.size=s.heap.objs.size+1:=jE ..;refine aU (wpAny_setEpoch_of QZ hd hf ?_);refine aU (kO ?_);refine bg ⟨_,rfl,"set_iterator",_,⟨_,cz _ rfl,rfl⟩,dY.lookup,?_⟩;have Xq:∀p∈ps,p<l.length:=λp hm=>by
   have q:=t7.mp (S.mem_iff.mp hm);omega
  have yD:(ps.map λp=>l.getD p (Str.empty,0)).Perm l:=by
   have q:=S.map λp=>l.getD p (Str.empty,0);have e:(List.range es.size).map (λp=>l.getD p (Str.empty,0))=l:=by
    rw[<-b9];refine List.ext_getElem (by simp) λi h1 h2=>?_
    simp[h2]
   rw[e]at q;exact q
  refine hQ _ d _ [_,a,s.heap.objs.size] _ (ps.map λp=>l.getD p (Str.empty,0)) ((yD.map _).trans hp) (λb o e=>bS _ (bS _ e)) (by rw[L];exact pN _) (λb hm=>?_)
   (λA' r=>Fw (ot:={cls:=.type "tuple",data:=.seq (ps.map λ(i:Nat)=>rawInt i).toArray}) (ps:=ps) hd hf rfl he (λi=>?_) Xq (bu ..) ?_ ?_ A' r)
   ⟨cz _ rfl,bS _ QZ,bS _ (cz _ rfl)⟩
  ·simp only[bH,cM,cN]at hm;rcases hm with rfl|rfl|rfl
   ·right;rw[L];exact pN _
   ·left;rfl
   ·right;exact bA _
  ·rw[cq];cases e:ps[i]? with
   |none=>rfl
   |some p=>
    have oY:=Xq p (d8 e);show some (l.getD p (Str.empty,0))=l[p]?
    rw[eQ,bZ oY];rfl
  ·rw[L];exact dN (lR gJ)
  ·rw[L];exact mT _
 ·refine aU (bg ?_);refine aU (wpAny_setEpoch_of g hd hf ?_);refine aU (kO ?_);refine bg ⟨_,rfl,"set_iterator",_,⟨_,cz _ rfl,rfl⟩,dY.lookup,?_⟩;have zF:∀b∈[s.heap.objs.size,a],b=a\/s.heap.objs.size<=b:=λb hm=>by
   simp only[bH,cM,cN]at hm;rcases hm with rfl|rfl
   ·exact .inr (bA _)
   ·exact .inl rfl
  have ik:s.heap.objs.size≠a:=dN gJ;cases M:CB w with
  |true=>
   have I:=IY (w.params.setOrder a az) es;rw[he]at I;obtain⟨l2,e2,p2⟩:=yC I;exact hQ _ s.drawn _ [_,a] _ l2 ((p2.map _).trans hp) (λb o e=>bS _ e) (bA _) zF (λA' r=>IZ M hd hf e2 (p2.length_eq.trans b9) ik A' r) ⟨cz _ rfl,bS _ g⟩
  |false=>
   have Z_:es.size<=1:=by
    by_cases hz:es.size<=1
    ·exact hz
    ·exfalso;refine n ?_
     show(!CB w&&(!t.plain&&decide (es.size>1)))=true;rw[M,oY (by omega),hU (by omega)]
     rfl
   have IX:t.led=true:=hl.resolve_left (by rw[M];exact fI);exact hQ _ s.drawn _ [_,a] _ l hp (λb o e=>bS _ e) (bA _) zF (λA' r=>Lh M IX Z_ hd hf he ik A' r) ⟨cz _ rfl,bS _ g⟩
end
def eV(ss xs:List Str):List Str:=xs.foldl gW ss
def yF(ss:List Str)(x:Str):(gW ss x).length<=ss.length+1:=by
 unfold gW;split
 ·omega
 ·simp
section
variable {prog:Program}{I:Addr}{fp:List Addr}{n:Nat}{P:Nat->Value->Prop}{St:Nat->Heap->Prop}
def lM.keep {h h':Heap}{ss:List Str}(x:lM w h a ss)(k:∀o,h.get? a=some o->h'.get? a=some o):lM w h' a ss:=by
 obtain⟨o,es,ep,t,l,b,r⟩:=x;exact⟨o,es,ep,t,l,k o b,r⟩
theorem Li(W:Walks prog w A.in1 I fp [I] n P St)(Z':au∉fp)(val:Nat->Str)(OM:∀i v,P i v->∃t,v=Value.str (val i) t)(hb:n+1<scanBound):
  ∀(k i:Nat) (s:Shared) (ss:List Str),n - i=k->i<=n->St i s.heap->lM w s.heap au ss->ss.length<=i->
   (∀h' q,(∀b o,b≠au->b≠I->s.heap.get? b=some o->h'.get? b=some o)->lM w h' au (eV ss ((List.range' i k).map val))->aw (.ok (.ret .none)) {s with heap:=h',toks:=q})->
   codeAny (model prog w) A (.builtin "set.update.loop" ⟨[.ref au,.ref I],[]⟩) aw s:=by
 have r:I∈fp:=W.sub I (by simp);have Nn:au≠I:=λe=>Z' (e▸r);intro k
 induction k with
 |zero=>
  intro i s ss hk hi cJ L _ hR;have lL:i=n:=by omega
  subst lL;refine gb F.entry_set_update_loop ?_
  rw[g_ xD _];show wpAny _ A.in1 (pyNext (.ref I)>>=_) _ _ s;refine aU (W.done s _ _ cJ λh' q g=>?_);show wpAny _ A.in1 (ret Value.none) _ _ _;exact bg (hR h' q (λb o _ h2 e=>g b o (by simpa using h2) e) (L.keep λo e=>g au o (by simpa using Nn) e))
 |succ k ih=>
  intro i s ss hk hi cJ L hl hR;have gJ:i<n:=by omega
  refine gb F.entry_set_update_loop ?_
  rw[g_ xD _];show wpAny _ A.in1 (pyNext (.ref I)>>=_) _ _ s;refine aU (W.item i s _ _ gJ cJ λv M S hP Lj g=>?_);obtain⟨u,rfl⟩:=OM i v hP;have Xn:lM w M au ss:=L.keep λo e=>g au o (by simpa using Nn) e;show wpAny _ A.in1 (holding [Value.str (val i) u] (setAdd au (.str (val i) u))>>=_) _ _ _;refine aU (fK ?_);unfold setAdd;refine fK ?_
  refine aU ((PySem.strKind prog w).pyHash (k:=val i) (by simp[PySem.strKind,Value.isStrOf]) ?_);refine IV (s:={s with heap:=M,toks:=S+1}) Xn (by omega) λb h2 sb hS2=>?_
  have l:∀b o,b≠au->M.get? b=some o->h2.get? b=some o:=λb o hb e=>(sb.2 b hb).trans e;refine bg ⟨hW xD _,ih (i+1) _ (gW ss (val i)) (by omega) gJ (W.frame _ _ _ Lj λb hb o e=>l b o (λz=>Z' (z▸hb)) e) hS2 (by have:=yF ss (val i);omega) λh' q kk' Le=>?_⟩;exact hR h' q (λb o Bs OL e=>kk' b o Bs OL (l b o Bs (g b o (by simpa using OL) e))) Le
end
section
section
variable {prog:Program}
theorem _root_.PySem.Ll (a:Value){Q₁:Value->Shared->Prop}
  (h:Q₁ (.ref s.heap.objs.size) {s with heap:=s.heap.push {cls:=.type "set",dict:=none,data:=.set #[] 0 (.fresh 0 0 (!L2.CB w))}}):
  codeAny (model prog w) A (.call (.builtin "set.__new__") ⟨[.type "set",a],[]⟩) (wants Q₁ E) s:=by
 refine codeAny_of_tree ?_
 show wpAny _ A.in1 (do checkBuiltinCall "set.__new__" ⟨[.type "set",a],[]⟩;again (.builtin "set.__new__" ⟨[.type "set",a],[]⟩)) _ _ s;refine aU (wpAny_of_eq (F.newCall_set_1 a) (bg ⟨hW F.plain_set_new _,gb F.entry_set_new ?_⟩));rw[g_ F.plain_set_new _];unfold Builtin.«set.__new__» Builtin.Frozenset.newClass;have b:=sub_set_self;obtain⟨hp,g,d,tk,os⟩:=s;dsimp only
 wp_walk
 refine wpAny_askSetting (bg ?_);dsimp only;simp only[newObj];refine aU (wpAny_alloc (bg ?_));exact bg h
set_option maxHeartbeats 3200000 in
theorem _root_.PySem.Lm {l:Addr}{a8:Array Value}{val:Nat->Str}(hh:A.handled=none)(hl:s.heap.IsList l a8)(hv:∀(i:Nat) (v:Value),a8[i]?=some v->∃t,v=.str (val i) t)(hb:a8.size+1<scanBound)
  (h:∀(h':Heap) (tk:Nat),L2.lM w h' s.heap.objs.size (L2.eV [] ((List.range' 0 a8.size).map val))->(∀b o,b<s.heap.objs.size->s.heap.get? b=some o->h'.get? b=some o)->Q (.ref s.heap.objs.size) {s with heap:=h',toks:=tk}):
  wpAny (model prog w) A (call (.type "set") [.ref l]) Q E s:=by
 obtain⟨c,tl,abU⟩:=jG.mro;have abO:=jG.made;have Rt:=jG.sub;refine pP (codeAny_of_tree ?_);show wpAny _ _ (callAny (.type "set") _) _ _ _;refine bg ⟨Code.quiet_builtin _ (by decide+kernel),gb F.entry_type_call ?_⟩;rw[Around.under_plain (weight_type_call_type "set" [.ref l] []) rfl];have h1:=jG.notType;have h2:=jG.canCreate;have hct:=F.typeCall_set_1 (.ref l)
 repeat(any_goals (first|assumption|wp_step))
 refine iO (Ll (.ref l) (E:=E) (Q₁:=λobj dr=>obj=.ref s.heap.objs.size/\dr={s with heap:=s.heap.push {cls:=.type "set",dict:=none,data:=.set #[] 0 (.fresh 0 0 (!L2.CB w))}}) ⟨rfl,rfl⟩) λr dr n=>?_
 cases r with
 |error e=>exact n
 |ok fl=>
  cases fl with
  |ret obj=>
   obtain⟨rfl,rfl⟩:=n;generalize L:({cls:=.type "set",dict:=none,data:=.set #[] 0 (.fresh 0 0 (!L2.CB w))}:Obj)=ob;have hS:(s.heap.push ob).get? s.heap.objs.size=some ob:=cz _ (by rw[<-L];rfl);have hT:Shared.TypeIs {s with heap:=s.heap.push ob} (.ref s.heap.objs.size) "set":=⟨_,hS,by rw[<-L]⟩;have hli:=jG.init.lookup;have hbi:=jG.init.bind (.ref s.heap.objs.size)
   repeat(any_goals (first|assumption|wp_step))
   refine iO (xB (R:=wants (λr uh=>r=.none/\∃h' tk,uh={s with heap:=h',toks:=tk}/\L2.lM w h' s.heap.objs.size (L2.eV [] ((List.range' 0 a8.size).map val))/\
     (∀b o,b<s.heap.objs.size->s.heap.get? b=some o->h'.get? b=some o)) E) jG.init.plain F.entry_set_init (check_set_init_1 hT ?_)) λM uh S=>?_
   ·obtain⟨ol,Q1,GG,nl,Vq⟩:=hl;obtain⟨abV,Xr,abP,Tj⟩:=ol;simp only at GG Vq;subst GG;subst Vq;have q:(s.heap.push ob).get? l=some {cls:=.type "list",dict:=Xr,data:=.seq a8 nl,slots:=Tj}:=bS _ Q1;have abW:=F.sub_list_set;have abX:=F.sub_list_frozenset;have ik:(Value.type "list"==Value.type "dict")=false:=by decide
    have JT:(s.heap.push ob).IsList l a8:=⟨_,q,rfl,nl,rfl⟩;subst L;unfold Builtin.«set.__init__» noKeywords Builtin.Frozenset.updateFrom;generalize hPI:pyIter=PI
    wp_walk
    subst hPI;refine kP JT ?_
    refine aU (wpAny_runValue ?_);have g:l<s.heap.objs.size:=bz Q1;have hh3:A.in1.in1.in1.handled=none:=by simp[hh]
    generalize hsz:(s.heap.push {cls:=.type "set",dict:=none,data:=.set #[] 0 (.fresh 0 0 (!L2.CB w))}).objs.size=I at*;have Tn:I=s.heap.objs.size+1:=by rw[<-hsz,jE]
    have aa3:l≠I:=by rw[Tn];exact cf (lR g)
    have Z':s.heap.objs.size∉[I,l]:=by
     simp only[bH,cM,cN,kX];exact⟨by rw[Tn];exact cf (pw _),dN g⟩
    refine L2.Li (Walks.list hh3 I l aa3 a8) Z' val hv hb (a8.size - 0) 0 _ [] (by omega) (d_ _) ⟨⟨_,by rw[<-hsz];exact cz _ rfl,rfl,rfl⟩,JT.push _⟩ ?hS0 (d_ _) ?hR
    case hS0=>
     refine⟨_,#[],0,.fresh 0 0 (!L2.CB w),[],bS _ hS,⟨rfl,rfl,rfl⟩,rfl,rfl,List.Perm.refl _,xQ,by show 0<scanBound;decide,rfl,?_,λz=>absurd rfl z⟩;show L2.CB w=true\/(!L2.CB w)=true;cases L2.CB w<;>simp
    case hR=>
     intro h' tk hk Le;show wpAny _ _ _ _ _ _;refine bg ?_
     show wpAny _ _ (ret Value.none) _ _ _;refine bg ⟨rfl,h',tk,rfl,Le,λb o hb e=>?_⟩;exact hk b o (cf hb) (by rw[Tn];exact cf (lR hb)) (bS _ (bS _ e))
   ·cases M with
    |error e=>exact S
    |ok Xs=>
     cases Xs with
     |ret r=>
      obtain⟨rfl,h',tk,rfl,Le,OO⟩:=S
      repeat(any_goals (first|assumption|wp_step))
      exact h _ _ Le OO
     |_=>exact S.elim
  |_=>exact n.elim
end
end
open PySem.Calls
section
variable {prog:Program}{ss:List Str}
theorem Lo{Q:Bool->Shared->Prop}(q:s.TypeIs (.ref a) "set")(h:Q false s):wpAny (model prog w) A (Builtin.List.listLengthHint (.ref a)) Q E s:=by
 unfold Builtin.List.listLengthHint;refine aU (wpAny_specialOf q PySem.F.slot_set_len.lookup ?_);generalize cn:("set.__len__":String)=g
 wp_delta
 rw[show splitId g=some ("set","__len__")from by subst cn;decide+kernel];subst cn;refine aU (pF (T:="set") (b:=true) q (by rw[isSubtype_type];kernel_rfl) ?_);refine mV (λl=>absurd l (by decide)) (λ_=>?_);refine mV (λ_=>?_) (λl=>absurd (by decide+kernel) l);exact aU (ub q (bg h))
theorem DC{R:Result->Shared->Prop}(hh:A.handled=none)(hS:lM w s.heap a ss)(L:Addr)(hLa:L≠a)(res:Value)(hL:s.heap.get? L=some {cls:=.type "list",data:=.seq #[] 0})
  (hR:∀h' tk d kr c' l,(l.map (·.1)).Perm ss->(∀b o,b≠L->s.heap.get? b=some o->h'.get? b=some o)->h'.get? L=some {cls:=.type "list",dict:=none,data:=.seq kr c',slots:=#[]}->ItemsOf (strAt l) kr l.length->
   R (.ok (.ret res)) {s with heap:=h',toks:=tk,drawn:=d}) (hn:ss.length<=sizeLine):
  wpAny (model prog w) A.in1 (Builtin.List.listExtendWith (.ref L) (.ref a) res) (λfin s'=>match fin with|.done f=>R (.ok f) s'|.again c'=>c'.quiet=true/\codeAny (model prog w) A c' R s') (λe s'=>R (.error e) s') s:=by
 have Xt:L<s.heap.objs.size:=bz hL;unfold Builtin.List.listExtendWith;refine aU (ub (T:="set") hS.typeIs ?_);have h1:Builtin.List.listSameRef (.ref L) (.ref a)=false:=by simp[Builtin.List.listSameRef,hLa]
 have h2:(Value.type "set"==Value.type "list")=false:=by decide
 have h3:(Value.type "set"==Value.type "tuple")=false:=by decide
 simp only[h1,h2,h3,kT,cH,cg];refine aU (I0 hS λgu d I fp St l hp r hI zF W st=>?_);have b9:l.length=ss.length:=by have q:=hp.length_eq;rw[bu]at q;exact q
 have Xn:Shared.TypeIs {s with heap:=gu,drawn:=d} (.ref a) "set":=by
  obtain⟨o,ho,hc⟩:=hS.typeIs;exact⟨o,r _ _ ho,hc⟩
 have g:L∉fp:=λm=>by
  rcases zF L m with e|e
  ·exact hLa e
  ·exact absurd (dc Xt e) (eZ _)
 have hLI:L≠I:=cf (dc Xt hI);have M:=r _ _ hL;have key:∀(h:Heap) (c₁ tk:Nat),St 0 h->(∀b o,b≠L->s.heap.get? b=some o->h.get? b=some o)->h.get? L=some {cls:=.type "list",data:=.seq #[] c₁}->
   codeAny (model prog w) A (.builtin "list.extend.loop" ⟨[.ref L,.ref I,res],[]⟩) R {s with heap:=h,toks:=tk,drawn:=d}:=by
  intro h c₁ tk cJ S Xu;refine codeAny_extend_loopS (W A.in1 hh).toS (by omega) L g res l.length 0 _ #[] c₁ rfl (d_ _) cJ Xu (ItemsOf.nil _) λs' kr c' hm DD sO=>?_
  rw[Moved.eq_with hm];refine hR s'.heap s'.toks d kr c' l hp (λb o hb e=>hm.heap b o (λIW=>?_) (S b o hb e)) DD sO;rcases bH.mp IW with e'|IW
  ·exact hb e'
  ·exact absurd (dc (bz e) hI) (by rw[de.mp IW];exact eZ _)
 refine aU (fK (Lo Xn ?_));refine mV (λ_=>?_) (λ_=>bg ⟨hW PySem.F.plain_extend_loop _,key _ 0 _ st (λb o _ e=>r b o e) M⟩);refine aU (fP ?_);refine aU ?_
 show wpAny _ _ (updateSeq L (·.push .none)>>=λ_=>updateSeq L (·.pop)) _ _ _;refine aU (pI M rfl ?_);have Q2:=tH (Obj.mapSeq (·.push Value.none)) M rfl;refine pI (hz:=by seq_fits) Q2 rfl ?_
 have Xv:=tH (Obj.mapSeq (·.pop)) Q2 rfl;refine bg ⟨hW PySem.F.plain_extend_loop _,key _ _ _ ?_ (λb o hb e=>?_) Xv⟩
 ·refine(W A.in1 hh).frame 0 _ _ st λb hb o e=>?_
  have n:b≠L:=λz=>g (z▸hb);exact(nP _ _ (Ne.symm n)).trans ((nP _ _ (Ne.symm n)).trans e)
 ·exact(nP _ _ (Ne.symm hb)).trans ((nP _ _ (Ne.symm hb)).trans (r b o e))
theorem Bx{R:List Value->Shared->Prop}(hh:A.handled=none)(hS:lM w s.heap a ss)(hn:ss.length<=sizeLine)
  (h:∀(h':Heap) (tk:Nat) (d:Drawn) (l:List (Str×Tok)),(l.map (·.1)).Perm ss->(∀b o,s.heap.get? b=some o->h'.get? b=some o)->s.heap.objs.size<=h'.objs.size->R (l.map Fv) {s with heap:=h',toks:=tk,drawn:=d}):wpAny (model prog w) A (collect (.ref a)) R E s:=by
 have gJ:a<s.heap.objs.size:=by obtain⟨o,ho,_⟩:=hS.typeIs;exact bz ho
 have M:∀(l:List (Str×Tok)) (acc:Array Value),ItemsOf (strAt l) acc l.length->acc.toList=l.map Fv:=λl acc hi=>by
  refine pq λi=>?_
  rw[cq,nQ];cases e:acc[i]? with
  |none=>
   have S:acc.size<=i:=Array.getElem?_eq_none_iff.mp e;rw[hi.1]at S;rw[jq.mpr S];rfl
  |some v=>exact(hi.2 i v e).symm
 unfold collect;refine aU (wpAny_runValue (gb entry_proto_collect' ?_));rw[g_ CF _];show wpAny _ A.in1 (newList []>>=λl=>again (.builtin "list.__iadd__" ⟨[l,.ref a],[]⟩)) _ _ s;refine aU (kO ?_);refine bg ⟨hW s_ _,gb entry_list_iadd' ?_⟩;rw[g_ s_ _];have hL:(s.heap.push {cls:=.type "list",data:=.seq ([]:List Value).toArray}).get? s.heap.objs.size=some {cls:=.type "list",data:=.seq #[]}:=cz _ rfl;show wpAny _ A.in1 (Builtin.List.listExtendWith (.ref s.heap.objs.size) (.ref a) (.ref s.heap.objs.size)) _ _ _;have key:=DC (prog:=prog) (A:=A) (s:={s with heap:=s.heap.push {cls:=.type "list",data:=.seq ([]:List Value).toArray}}) (ss:=ss)
  (R:=λ(q:Result) (s':Shared)=>∃(h':Heap) (tk:Nat) (d:Drawn) (g:Array Value) (r:Nat) (l:List (Str×Tok)),q=.ok (.ret (.ref s.heap.objs.size))/\s'={s with heap:=h',toks:=tk,drawn:=d}/\
   (l.map (·.1)).Perm ss/\(∀b o,s.heap.get? b=some o->h'.get? b=some o)/\h'.get? s.heap.objs.size=some {cls:=.type "list",dict:=none,data:=.seq g r,slots:=#[]}/\ItemsOf (strAt l) g l.length)
  hh (hS.keep λo e=>bS _ e) s.heap.objs.size (dN gJ) (.ref s.heap.objs.size) hL
  (λh' tk d g r l hp I n L=>⟨h',tk,d,g,r,l,rfl,rfl,hp,λb o e=>I b o (cf (bz e)) (bS _ e),n,L⟩) hn
 refine ee key (λfin s' x=>?_) λe s' x=>?_
 ·cases fin with
  |done f=>
   obtain⟨h',tk,d,g,r,l,e,rfl,hp,I,n,L⟩:=x;cases e;show wpAny _ A (load s.heap.objs.size>>=_) _ _ _;refine aU (pO n ?_);refine bg ?_
   rw[M l g L];exact h h' tk d l hp I (du (bz n))
  |again c₁=>
   refine⟨x.1,iO x.2 λq uh y=>?_⟩;obtain⟨h',tk,d,g,r,l,rfl,rfl,hp,I,n,L⟩:=y;show wpAny _ A (load s.heap.objs.size>>=_) _ _ _;refine aU (pO n ?_);refine bg ?_
   rw[M l g L];exact h h' tk d l hp I (du (bz n))
 ·obtain⟨_,_,_,_,_,_,e',_⟩:=x;cases e'
theorem yG:∀l:List (Str×Tok),StrsAre (l.map Fv) (l.map (·.1))
 |[]=>.nil
 |p::r=>.cons p.1 p.2 (yG r)
def DE(hh:A.handled=none)(hS:lM w s.heap a ss)(Fx:ss.length<64)
  (h:∀h' tk d D out n CC,(∀b o,s.heap.get? b=some o->h'.get? b=some o)->s.heap.objs.size<=D->h'.get? D=some {cls:=.type "list",data:=.seq out n}->StrsAre out.toList CC->CC.Perm ss->sortedS CC=true->
   Q (.ref D) {s with heap:=h',toks:=tk,drawn:=d}):wpAny (model prog w) A (call (.builtin "sorted") [.ref a]) Q E s:=by
 have hz:ss.length<=sizeLine:=by rw[dW];omega
 refine call_function_entry kind_sorted plain_sorted entry_sorted (args_sorted1 _) ?_
 unfold Builtin.«sorted»;refine aU (m:=checkCount "sorted" 1 1 _) (bg ?_);refine aU (Bx (A:=A.in1) hh hS hz λg tk d l hp S hle=>?_);have b9:l.length=ss.length:=by have q:=hp.length_eq;rw[bu]at q;exact q
 refine aU (pM ?_ (by show(l.map Fv).length<=_;rw[bu];omega));have r:=yG l;have I:(g.push (seqObj "list" (l.map Fv).toArray 0)).get? g.objs.size=some (seqObj "list" (l.map Fv).toArray 0):=cz _ rfl;refine aU (fK (hJ slot_list_sort ⟨_,I,rfl⟩ entry_list_sort
  (list_sort_treeK strKind_oneLt I r.keysOf (λaa4 aa5 c9 e=>keyKind_strs (by rw[<-e];exact r)) (by rw[bu];omega) λL a1 a2=>⟨_,rfl,?_⟩) (args_list_sort _)))
 refine bg ⟨_,rfl,?_⟩;obtain⟨CC,q1,q2,q3⟩:=sorted_out_str r a1 a2;obtain⟨e,he⟩:=sortedHeap_at (out:=(arrOf L).map (·.2)) I;refine h _ tk d g.objs.size ((arrOf L).map (·.2)) e CC (λb o q=>?_) hle he q1 (q2.trans hp) q3;have hb:=S b o q;have M:=bz hb;rw[sortedHeap_old (cf M) (by rw[jE];exact lR M)];exact bS _ hb
end
noncomputable def DF(a b:Str):Bool:=!decide (b.cps.toList<a.cps.toList)
def wU:DF x av=true↔x.cps.toList<=av.cps.toList:=by
 unfold DF;rw[pv,o_];exact Iff.rfl
theorem Ar{c:Str}(q:DF x av=true)(h2:DF av c=true):DF x c=true:=by
 rw[wU]at*;exact List.le_trans q h2
theorem I_(a b:Str):(DF a b||DF b a)=true:=by
 rw[Bool.or_eq_true,wU,wU];exact List.le_total _ _
theorem Lp{b:Str}(q:DF x b=true)(h2:DF b x=true):x=b:=by
 rw[wU]at*;exact ext_toList (List.le_antisymm q h2)
def c_(ss:List Str):List Str:=ss.mergeSort DF
def eO(ss:List Str):(c_ ss).Perm ss:=List.mergeSort_perm ss _
def sP(ss:List Str):(c_ ss).Pairwise (λa b=>DF a b=true):=List.pairwise_mergeSort (le:=DF) (λa b c g h2=>Ar g h2) I_ ss
theorem v8:∀(p:Str) (l:List Str),risingS p l=true->(p::l).Pairwise (λa b=>DF a b=true)
 |p,[],_=>List.pairwise_singleton _ _
 |p,x::r,h=>by
  have h':(!ltCps x.cps.toList p.cps.toList&&risingS x r)=true:=h;rw[bY,ltCps_eq]at h';have n:=v8 x r h'.2;have hp:DF p x=true:=h'.1;refine List.pairwise_cons.mpr ⟨λy g=>?_,n⟩;rcases bH.mp g with rfl|g
  ·exact hp
  ·exact Ar hp (List.rel_of_pairwise_cons n g)
theorem DG:∀l:List Str,sortedS l=true->l.Pairwise (λa b=>DF a b=true)
 |[],_=>List.Pairwise.nil
 |x::r,h=>v8 x r h
def v9{b:List Str}(hp:ps.Perm b)(q:ps.Pairwise (λps b=>DF ps b=true))(hb:b.Pairwise (λps b=>DF ps b=true)):ps=b:=
 hp.eq_of_pairwise (λx y _ _ g h2=>Lp g h2) q hb
def uG{ss:List Str}(hp:ps.Perm ss)(hs:sortedS ps=true):ps=c_ ss:=v9 (hp.trans (eO ss).symm) (DG _ hs) (sP ss)
def DH{b:List Str}(h:ps.Perm b):c_ ps=c_ b:=v9 ((eO ps).trans (h.trans (eO b).symm)) (sP ps) (sP b)
def Ja(w:World)(a:Addr)(ss:List Str):HO:=.ext λh=>lM w h a ss
theorem rb:∀{vs:List Value} {ss:List Str},StrsAre vs ss->Vals (ss.map V.str) vs
 |_,_,.nil=>.nil
 |_,_,.cons y t r=>.cons ⟨t,rfl⟩ (rb r)
theorem vA:∀{ss:List Str} {vs:List Value},Vals (ss.map V.str) vs->StrsAre vs ss
 |[],_,.nil=>.nil
 |y::r,_,.cons b g=>by
  obtain⟨t,rfl⟩:=(show∃t,_=Value.str y t from b);exact .cons y t (vA g)
def Jb(ts:List Str):(List.range' 0 ts.length).map (λi=>ts.getD i Str.empty)=ts:=by
 refine List.ext_getElem (by simp) λi b h2=>?_
 simp[h2]
def Inv.OP (I:Inv X U Z H s)(d:Drawn):Inv X U Z H {s with drawn:=d}:=
 I.step (h':=s.heap) (H':=H) (g':=s.gens) (t':=s.toks) (d':=d) (ch:=[]) (λ_ z=>nomatch z) (λb o _ _ _ e _=>e) (λb o _ _ _ e _=>⟨o.slots,e⟩) (λb o _ _ n=>n) (λb o _ e=>⟨o,e⟩) (λ_ _ e=>e) (λ_ _ _ e=>e)
   (λb ps e=>⟨#[],by rw[e];simp⟩) (λm hm=>hm) I.cW I.bare
theorem Jc(hc:X.calm=true):gQ X (.type "set") (λxs H Q=>∃(p:Addr) (ts:List Str),xs=[.ref p]/\lT X.K H p (ts.map V.str)/\ts.length+1<scanBound/\∀a,H a=none->Q (.ref a) (upd H a (Ja X.w a (eV [] ts)))):=by
 intro U s Z H xs us Q I r h;obtain⟨p,ts,rfl,S,hb,q⟩:=h;obtain⟨u,rfl,g⟩:=vals1 r;cases(show u=Value.ref p from g);obtain⟨cy,rv,pl,hz⟩:=I.list S;have l:cy.length=ts.length:=by have e:=rv.length;rw[bu]at e;exact e.symm
 refine Lm (val:=λi=>ts.getD i Str.empty) (I.ok.hd hc) pl.isList (λi v hv=>?_) (by rw[cU,l];exact hb) λh' tk n hk=>?_
 ·have L:cy[i]?=some v:=by simpa using hv
  have hi:i<ts.length:=by rw[<-l];exact(gD.mp L).1
  obtain⟨u,M,g⟩:=rv.get (i:=i) (x:=V.str ts[i]) (by rw[cq,bZ hi];rfl);rw[L]at M;cases M;obtain⟨t,rfl⟩:=(show∃t,v=Value.str ts[i] t from g);exact⟨t,by rw[eQ,bZ hi];rfl⟩
 ·have e0:cy.toArray.size=ts.length:=by rw[cU];exact l
  rw[e0,Jb]at n;have hf:H s.heap.objs.size=none:=I.fresh;refine⟨.ref s.heap.objs.size,_,I.laid (o:=Ja X.w s.heap.objs.size (eV [] ts)) (λb o e=>hk b o (bz e) e) (bA _) ⟨n,?_,λh1 h2 x k=>lM.keep x k⟩,rfl,q _ hf⟩;obtain⟨o,_,_,_,_,ho,_⟩:=n;exact⟨o,ho⟩
theorem yH(hc:X.calm=true):gQ X (.builtin "sorted") (λxs H Q=>∃(a:Addr) (ss:List Str),xs=[.ref a]/\H a=some (Ja X.w a ss)/\ss.length<64/\∀D,H D=none->Q (.ref D) (upd H D (.lst ((c_ ss).map V.str)))):=by
 intro U s Z H xs us Q I r h;obtain⟨a,ss,rfl,ha,g,q⟩:=h;obtain⟨u,rfl,l⟩:=vals1 r;cases(show u=Value.ref a from l);obtain⟨L,_,_⟩:=(show cX X.prog X.w H s.heap a (.ext λh=>lM X.w h a ss)from I.cW a _ ha);refine DE (I.ok.hd hc) L g λh' M d D out n CC S b hg cJ hp hs=>?_
 have e:=uG hp hs;subst e;have hf:H D=none:=I.cW.fresh b;have hz:((c_ ss).map V.str).length<=sizeLine:=by
  rw[bu,(eO ss).length_eq,dW];omega
 have I1:Inv X U Z (upd H D (.lst ((c_ ss).map V.str))) {s with heap:=h',toks:=M}:=I.laid (o:=.lst ((c_ ss).map V.str)) S b ⟨hz,out.toList,n,rb cJ,by rw[tB];exact hg⟩;exact⟨.ref D,_,I1.OP d,rfl,q _ hf⟩
theorem By:gQ X (.builtin "sorted") (λxs H Q=>∃(a:Addr) (ss:List Str),xs=[.ref a]/\lT X.K H a (ss.map V.str)/\ss.length<64/\∀D,H D=none->Q (.ref D) (upd H D (.lst ((c_ ss).map V.str)))):=by
 intro U s Z H xs us Q I r h;obtain⟨a,ss,rfl,ha,Fx,q⟩:=h;obtain⟨u,rfl,l⟩:=vals1 r;cases(show u=Value.ref a from l);obtain⟨cy,rv,pl,_⟩:=I.list ha;have cJ:=vA rv;have b9:cy.length=ss.length:=by have e:=rv.length;rw[bu]at e;exact e.symm
 refine sorted_strs pl.isList cJ (by omega) λout CC L h2 M=>?_
 have e:=uG h2 M;subst e;obtain⟨n,S⟩:=sortedAll_at s.heap cy out;have g:s.heap.objs.size<=s.heap.objs.size+1:=pN _;have hf:H (s.heap.objs.size+1)=none:=I.cW.fresh g;have hz:((c_ ss).map V.str).length<=sizeLine:=by
  rw[bu,(eO ss).length_eq,dW];omega
 exact⟨.ref (s.heap.objs.size+1),_,I.laid (t':=s.toks) (o:=.lst ((c_ ss).map V.str)) (λb o e=>sortedAll_old e) g ⟨hz,out.toList,n,rb L,by rw[tB];exact S⟩,rfl,q _ hf⟩
theorem yI{t:Addr}{x:Value}(hit:s.heap.IsTupleIter au t i)(q:s.heap.IsTuple t ak)(hx:ak[i]?=some x)
  (hQ:∀h',h'.IsTupleIter au t (i+1)->Heap.SameBut au s.heap h'->Q x {s with heap:=h'}):wpAny (model P w) A (Builtin.SmallTypes.nextOf (.ref au)) Q E s:=by
 have key:wpAny (model P w) A (pyNext (.ref au)) (λr s'=>∃v,r=some v/\Q v s') (λ_ _=>False) s:=wpAny_pyNext_tuple_item hit q hx λh' a b=>⟨x,rfl,hQ h' a b⟩;obtain⟨o,g,l,hd⟩:=id hit;obtain⟨ol,n,_,nl,I⟩:=q;unfold Builtin.SmallTypes.nextOf;refine aU (qU (name:=Str.ofString "__next__") hit.typeIs sX (hJ sX hit.typeIs F.entry_tuple_iterator_next ?_ (F.args_tuple_iterator_next_1 _)));show wpAny _ _ (field (.ref au) 0>>=_) _ _ s;refine aU (gG g hd (x:=.ref t) rfl ?_);show wpAny _ _ (if(Value.ref t==Value.none)=true then _ else _) _ _ s;rw[bc (show¬((Value.ref t==Value.none)=true)from fI)];show wpAny _ _ (field (.ref au) 1>>=_) _ _ s;refine aU (gG g hd (x:=.int i 0) rfl ?_);show wpAny _ _ (seqItems? (.ref t)>>=_) _ _ s;refine aU (hV n I ?_);simp only[lS,hx];refine aU (wpAny_setField g hd (by simp) (bg ⟨x,rfl,bg (hQ _ ?_ (pj ..))⟩));exact⟨_,tH _ g (Obj.isFreed_of_fields (Obj.data_mapFields hd _)),(Obj.cls_mapFields ..).trans l,by rw[Obj.data_mapFields hd];simp[rawInt]⟩
theorem Jd{t:Addr}(q:A.handled=none)(hit:s.heap.IsTupleIter a t i)(ht:s.heap.IsTuple t ak)(hx:ak[i]?=none)
  (hE:∀h' (e:Addr),Heap.ExtBut a s.heap h'->Shared.TypeIs {s with heap:=h'} (.ref e) "StopIteration"->E (.ref e) {s with heap:=h'}):wpAny (model P w) A (Builtin.SmallTypes.nextOf (.ref a)) Q E s:=by
 obtain⟨o,g,L,hd⟩:=id hit;obtain⟨ol,n,_,nl,r⟩:=ht;unfold Builtin.SmallTypes.nextOf;refine aU (qU (name:=Str.ofString "__next__") hit.typeIs sX (hJ sX hit.typeIs F.entry_tuple_iterator_next ?_ (F.args_tuple_iterator_next_1 _)));show wpAny _ _ (field (.ref a) 0>>=_) _ _ s;refine aU (gG g hd (x:=.ref t) rfl ?_);show wpAny _ _ (if(Value.ref t==Value.none)=true then _ else _) _ _ s;rw[bc (show¬((Value.ref t==Value.none)=true)from fI)];show wpAny _ _ (field (.ref a) 1>>=_) _ _ s;refine aU (gG g hd (x:=.int i 0) rfl ?_);show wpAny _ _ (seqItems? (.ref t)>>=_) _ _ s;refine aU (hV n r ?_);simp only[lS,hx];refine aU (fP (aU (wpAny_setField g hd (by simp) ?_)));show wpAny _ _ (newExc (.type "StopIteration") []>>=_) _ _ _;refine aU (yE q λh' x l I=>?_);exact hE h' x (λb o hb e=>I b o ((pj ..).extBut b o hb e)) l
structure ZA(z TI TO i1 i2:Addr):Prop where
 TIz:TI≠z
 TOz:TO≠z
 i1z:i1≠z
 i2z:i2≠z
 TITO:TI≠TO
 TIi1:TI≠i1
 TIi2:TI≠i2
 TOi1:TO≠i1
 TOi2:TO≠i2
 i12:i1≠i2
theorem Je{TO i1 i2 l1 l2:Addr}{ys:Array Value}{x y b:Value}(D:ZA a au TO i1 i2)(hz:IsZip s.heap a au TO .none)(Fy:IsPair s.heap au (.ref i1) (.ref i2))(Jf:IsPair s.heap TO af b)
  (h1:s.heap.IsTupleIter i1 l1 i) (h2:s.heap.IsTupleIter i2 l2 az) (JT:s.heap.IsTuple l1 ak) (Nu:s.heap.IsTuple l2 ys) (d1:l1≠a/\l1≠TO/\l1≠i1/\l1≠i2) (d2:l2≠a/\l2≠TO/\l2≠i1/\l2≠i2) (hx:ak[i]?=some x) (hy:ys[az]?=some y)
  (hQ:∀h',IsZip h' a au TO (rawInt s.heap.objs.size)->IsPair h' TO x y->h'.IsTupleIter i1 l1 (i+1)->h'.IsTupleIter i2 l2 (az+1)->IsPair h' s.heap.objs.size x y->
   (∀c o,c≠a->c≠TO->c≠i1->c≠i2->s.heap.get? c=some o->h'.get? c=some o)->aM (some (.ref s.heap.objs.size)) {s with heap:=h'}):wpAny (model P w) A (pyNext (.ref a)) aM E s:=by
 have hT:s.TypeIs (.ref a) "zip":=⟨_,hz,rfl⟩;unfold pyNext;refine aU (ua (qU (name:=Str.ofString "__next__") hT t9 (hJ t9 hT F.entry_zip_next ?_ (F.args_zip_next_1 _))));show wpAny _ _ (field (.ref a) 2>>=_) _ _ _;refine aU (gG hz rfl (x:=.bool false) rfl ?_);show wpAny _ _ (field (.ref a) 3>>=_) _ _ _;refine aU (gG hz rfl (x:=.ref au) rfl (aU (hV Fy rfl ?_)));show wpAny _ _ (Builtin.SmallTypes.ownedTupleIsFree (.ref a)>>=_) _ _ _;refine aU ?_
 unfold Builtin.SmallTypes.ownedTupleIsFree;refine aU (gG hz rfl (x:=.none) rfl (bg ?_));simp only[cj];refine aU (fP (aU (gG hz rfl (x:=.ref TO) rfl ?_)));refine aU (js hz (by simp) λgu yJ l=>?_);replace yJ:IsZip gu a au TO .ellipsis:=yJ;refine aU ?_
 simp only[List.zipIdx_cons,List.zipIdx_nil,pD,xR];refine aU (aU (wpAny_onRaise ?_));show wpAny _ _ (Builtin.SmallTypes.nextOf (.ref i1)>>=_) _ _ _;refine aU (yI (s:={s with heap:=gu}) (h1.extBut l.extBut D.i1z) (JT.extBut l.extBut d1.1) hx λpY Xw r=>bg ?_);have Lq:IsPair pY TO af b:=r.extBut _ _ D.TOi1 (l.extBut _ _ D.TOz Jf);refine aU (hV Lq rfl (aU (wpAny_updateSeq_pair Lq λzA Fz I=>?_)));replace Fz:IsPair zA TO x b:=Fz;refine aU (mX (bg (aU (aU (wpAny_onRaise ?_)))));show wpAny _ _ (Builtin.SmallTypes.nextOf (.ref i2)>>=_) _ _ _;refine aU (yI (s:={s with heap:=zA}) (((h2.extBut l.extBut D.i2z).extBut r.extBut D.i12.symm).extBut I.extBut D.TOi2.symm) (((Nu.extBut l.extBut d2.1).extBut r.extBut d2.2.2.1).extBut I.extBut d2.2.1) hy λSl Xx L=>bg ?_);have Ls:IsPair Sl TO x b:=L.extBut _ _ D.TOi2 Fz;refine aU (hV Ls rfl (aU (wpAny_updateSeq_pair Ls λg S M=>?_)));replace S:IsPair g TO x y:=S;refine aU (mX (bg (bg ?_)));refine aU (hV S rfl (aU (wpAny_newTuple ?_)));have hsz:g.objs.size=s.heap.objs.size:=by rw[M.1,L.1,I.1,r.1,l.1]
 have Q3:IsZip g a au TO .ellipsis:=M.extBut _ _ D.TOz.symm (L.extBut _ _ D.i2z.symm (I.extBut _ _ D.TOz.symm (r.extBut _ _ D.i1z.symm yJ)));have Xy:∀c o,c≠a->c≠TO->c≠i1->c≠i2->s.heap.get? c=some o->g.get? c=some o:=λc o n q c3 c4 e=>M.extBut _ _ q (L.extBut _ _ c4 (I.extBut _ _ q (r.extBut _ _ c3 (l.extBut _ _ n e))));have Xz:g.IsTupleIter i1 l1 (i+1):=((Xw.extBut I.extBut D.TOi1.symm).extBut L.extBut D.i12).extBut M.extBut D.TOi1.symm;have XB:g.IsTupleIter i2 l2 (az+1):=Xx.extBut M.extBut D.TOi2.symm;have XC:a<g.objs.size:=bz Q3;show wpAny _ _ (Builtin.SmallTypes.ownedTupleHandOut (.ref a) (.ref g.objs.size)>>=_) _ _ _;refine aU ?_
 unfold Builtin.SmallTypes.ownedTupleHandOut;have XD:IsZip (g.push {cls:=.type "tuple",data:=.seq #[x,y]}) a au TO .ellipsis:=bS _ Q3;refine aU (js XD (by simp) λaa6 Lv XF=>?_);replace Lv:IsZip aa6 a au TO (rawInt g.objs.size):=Lv;refine js Lv (by simp) λOQ Hf XG=>?_
 replace Hf:IsZip OQ a au TO (rawInt g.objs.size):=Hf;have up:∀c o,c≠a->g.get? c=some o->OQ.get? c=some o:=λc o n e=>XG.extBut _ _ n (XF.extBut _ _ n (bS _ e));have Q4:IsPair OQ g.objs.size x y:=XG.extBut _ _ (dN XC) (XF.extBut _ _ (dN XC) (cz _ rfl));rw[hsz]at Hf Q4;refine bg ⟨_,rfl,bg ?_⟩;show aM (some (.ref g.objs.size)) _;rw[hsz];exact hQ OQ Hf (up _ _ D.TOz S) (Xz.at λo e=>up _ o D.i1z e) (XB.at λo e=>up _ o D.i2z e) Q4 λc o n q c3 c4 e=>up c o n (Xy c o n q c3 c4 e)
theorem Lw{z i1 i2 l1:Addr}{b:Value}(hh:A.handled=none)(D:ZA z a au i1 i2)(hz:IsZip s.heap z a au .none)(Fy:IsPair s.heap a (.ref i1) (.ref i2))(Jf:IsPair s.heap au af b)
  (h1:s.heap.IsTupleIter i1 l1 i) (JT:s.heap.IsTuple l1 ak) (d1:l1≠z) (hx:ak[i]?=none)
  (hQ:∀h',(∀c o,c≠z->c≠i1->s.heap.get? c=some o->h'.get? c=some o)->aM none {s with heap:=h'}):wpAny (model P w) A (pyNext (.ref z)) aM E s:=by
 have M:s.TypeIs (.ref z) "zip":=⟨_,hz,rfl⟩;unfold pyNext;refine aU (ua (qU (name:=Str.ofString "__next__") M t9 (hJ t9 M F.entry_zip_next ?_ (F.args_zip_next_1 _))));show wpAny _ _ (field (.ref z) 2>>=_) _ _ _;refine aU (gG hz rfl (x:=.bool false) rfl ?_);show wpAny _ _ (field (.ref z) 3>>=_) _ _ _;refine aU (gG hz rfl (x:=.ref a) rfl (aU (hV Fy rfl ?_)));show wpAny _ _ (Builtin.SmallTypes.ownedTupleIsFree (.ref z)>>=_) _ _ _;refine aU ?_
 unfold Builtin.SmallTypes.ownedTupleIsFree;refine aU (gG hz rfl (x:=.none) rfl (bg ?_));simp only[cj];refine aU (fP (aU (gG hz rfl (x:=.ref au) rfl ?_)));refine aU (js hz (by simp) λS n r=>?_);replace n:IsZip S z a au .ellipsis:=n;refine aU ?_
 simp only[List.zipIdx_cons,List.zipIdx_nil,pD,xR];refine aU (aU (wpAny_onRaise ?_));show wpAny _ _ (Builtin.SmallTypes.nextOf (.ref i1)>>=_) _ _ _;refine aU (Jd (s:={s with heap:=S}) hh (h1.extBut r.extBut D.i1z) (JT.extBut r.extBut d1) hx λI e vy he=>?_);have Q5:IsZip I z a au .ellipsis:=vy _ _ D.i1z.symm n;obtain⟨oe,g,l⟩:=he;have L:e≠z:=λq=>by
  have XH:I.get? e=some oe:=g;rw[q,Q5]at XH;cases XH;simp at l
 refine js (s:={s with heap:=I}) Q5 (by simp) λzA _ Bz=>?_
 refine aU (pF (s:={s with heap:=zA}) (T:="StopIteration") (b:=true) ⟨oe,Bz.extBut _ _ L g,l⟩ isSubtype_stop ?_);exact bg (hQ zA λc o c1 c2 q=>Bz.extBut _ _ c1 (vy _ _ c2 (r.extBut _ _ c1 q)))
section
variable {h':Heap}
def ju.apart {b:Addr}{xs:List V}(I:Inv X U Z H s)(h:ju X.K H a xs)(f:kY X U H b):a≠b:=by
 rcases h with(h|⟨o,h⟩)|⟨o,cy,n,g,_⟩
 ·exact bV h f.1
 ·exact bV h f.1
 ·intro e;subst e;have hb:=I.ok.mod.Qf a o g;rcases f.2.2.2.1 with q|q
  ·exact I.ok.AZ a o hb q
  ·exact absurd (dc (bz (I.ok.bs a o hb).1) q) (eZ _)
def Inv.Jg {ch:List Addr}{T:Addr}{o:HO}{t':Nat}(I:Inv X U Z H s)(zP:∀b∈ch,kY X U H b)(k:∀b o,b∉ch->s.heap.get? b=some o->h'.get? b=some o)(hT:s.heap.objs.size<=T)
  (new:cX X.prog X.w (upd H T o) h' T o):Inv X U Z (upd H T o) {s with heap:=h',toks:=t'}:=by
 have l:H T=none:=I.cW.fresh hT;have r:∀b u,H b=some u->b∉ch:=λb u e m=>by rw[(zP b m).1]at e;cases e
 refine I.step (g':=s.gens) (d':=s.drawn) (ch:=ch) (λb hb=>?_) (λb o _ _ g e _=>k b o g e) (λb o _ _ g e _=>⟨o.slots,k b o g e⟩) (λb o _ e n=>?_) (λb o g e=>⟨o,k b o g e⟩) (λb xs e=>?_) (λb o u e=>?_) (λb ps e=>⟨#[],?_⟩) (λm hm=>?_) (λb u e=>?_) I.bare
 ·obtain⟨_,L,_,x3,M,S⟩:=zP b hb;exact⟨x3,L,M,S⟩
 ·rw[bq (cf (dc (bz e) hT))];exact n
 ·rw[bq (bV e l)];exact e
 ·rw[bq (bV e l)];exact e
 ·rw[bq (bV e l),e];simp
 ·exact hm.at' λo e=>k _ o (λz=>(zP _ z).2.1 rfl) e
 ·by_cases hb:b=T
  ·subst hb;rw[bP]at e;cases e;exact new
  ·rw[bq hb]at e;refine(I.cW b u e).pQ (λc v g q=>k c v ?_ q) (λc q=>by rw[bq (bV q l)];exact q) λc xs q=>by rw[bq (bV q l)];exact q
   rcases g with rfl|g
   ·exact r c u e
   ·exact r c _ g
def Inv.rf {ch:List Addr}{t':Nat}(I:Inv X U Z H s)(zP:∀b∈ch,kY X U H b)(k:∀b o,b∉ch->s.heap.get? b=some o->h'.get? b=some o):Inv X U Z H {s with heap:=h',toks:=t'}:=by
 have l:∀b u,H b=some u->b∉ch:=λb u e m=>by rw[(zP b m).1]at e;cases e
 refine I.step (g':=s.gens) (d':=s.drawn) (ch:=ch) (λb hb=>?_) (λb o _ _ g e _=>k b o g e) (λb o _ _ g e _=>⟨o.slots,k b o g e⟩) (λb o _ e n=>n) (λb o g e=>⟨o,k b o g e⟩) (λb xs e=>e) (λb o u e=>e) (λb ps e=>⟨#[],by rw[e];simp⟩) (λm hm=>?_) (λb u e=>?_) I.bare
 ·obtain⟨_,r,_,x3,L,M⟩:=zP b hb;exact⟨x3,r,L,M⟩
 ·exact hm.at' λo e=>k _ o (λz=>(zP _ z).2.1 rfl) e
 ·refine(I.cW b u e).pQ (λc v g q=>k c v ?_ q) (λc q=>q) λc xs q=>q;rcases g with rfl|g
  ·exact l c u e
  ·exact l c _ g
end
def Itz(K:Frag)(a b:Addr):It:=
 ⟨λi H=>∃xs ys x y,ju K H a xs/\ju K H b ys/\xs[i]?=some x/\ys[i]?=some y,
  λi H v H'=>∃T x y,v=.ref T/\H T=none/\H'=upd H T (.tup [x,y])/\(∀xs,ju K H a xs->xs[i]?=some x)/\(∀ys,ju K H b ys->ys[i]?=some y),
  λi H=>∃xs,ju K H a xs/\xs.length<=i⟩
theorem XI{G:Prop}(k:∀P:Prop,(G->P)->P):G:=k G id
theorem Lx{z TO i1 i2 b:Addr}(D:ZA z au TO i1 i2):
  Turn P w K (.Tuple aA az pos) (Itz K a b) [z,au,TO,i1,i2] z (λi h=>IsZip h z au TO .none/\IsPair h au (.ref i1) (.ref i2)/\(∃p q,IsPair h TO p q)/\h.IsTupleIter i1 a i/\h.IsTupleIter i2 b i) where
 mem:=by simp
 obj:=λi h st c hc=>by
  obtain⟨hz,g,⟨p,q,r⟩,⟨o1,e1,c1,d1⟩,⟨o2,e2,c2,d2⟩⟩:=st;simp only[bH,cM,cN]at hc;rcases hc with rfl|rfl|rfl|rfl|rfl
  ·exact⟨_,hz,λv e=>by cases(show Data.fields _=Data.cell v from e)⟩
  ·exact⟨_,g,λv e=>by cases(show Data.seq _ _=Data.cell v from e)⟩
  ·exact⟨_,r,λv e=>by cases(show Data.seq _ _=Data.cell v from e)⟩
  ·exact⟨o1,e1,λv e=>by rw[d1]at e;cases e⟩
  ·exact⟨o2,e2,λv e=>by rw[d2]at e;cases e⟩
 keep:=λi h h' st k=>by
  obtain⟨hz,g,⟨p,q,r⟩,h1,h2⟩:=st;exact⟨k z (by repeat constructor) _ hz,k au (by repeat constructor) _ g,⟨p,q,k TO (by repeat constructor) _ r⟩,h1.at λo e=>k i1 (by repeat constructor) o e,h2.at λo e=>k i2 (by repeat constructor) o e⟩
 item:=by
  intro X hP hw hK hc i U s Z H E I hf st hg;subst hP hw hK;refine XI λP go=>?_
  obtain⟨xs,ys,x,y,S,L,hx,hy⟩:=hg;obtain⟨hz,g,⟨p,q,r⟩,h1,h2⟩:=st;obtain⟨Ly,M,p1,_⟩:=I.tuple S;obtain⟨x9,Np,p2,_⟩:=I.tuple L;obtain⟨u1,hu1,ru1⟩:=M.get hx;obtain⟨u2,hu2,XJ⟩:=Np.get hy;have l:∀c∈[z,au,TO,i1,i2],a≠c:=λc m=>S.apart I (hf c m);have n:∀c∈[z,au,TO,i1,i2],b≠c:=λc m=>L.apart I (hf c m);refine go ?_
  refine Je D hz g r h1 h2 (show s.heap.IsTuple a Ly.toArray from p1) (show s.heap.IsTuple b x9.toArray from p2) ⟨l _ (by repeat constructor),l _ (by repeat constructor),l _ (by repeat constructor),l _ (by repeat constructor)⟩ ⟨n _ (by repeat constructor),n _ (by repeat constructor),n _ (by repeat constructor),n _ (by repeat constructor)⟩
   (x:=u1) (y:=u2) (by simpa using hu1) (by simpa using hu2) λgu g1 g2 g3 g4 g5 kk=>?_
  refine⟨_,rfl,wpAny_letOwnedTupleGo_zip g1 λpY k1 sb=>?_⟩;have lt:∀{c:Addr} {o:Obj},s.heap.get? c=some o->s.heap.objs.size≠c:=λe=>dN (bz e);have hTz:s.heap.objs.size≠z:=lt hz;have up:∀c o,c∉[z,TO,i1,i2]->s.heap.get? c=some o->pY.get? c=some o:=λc o m e=>by
   simp only[bH,cM,cN,kX]at m;exact sb.extBut _ _ m.1 (kk c o m.1 m.2.1 m.2.2.1 m.2.2.2 e)
  have NW:IsPair pY s.heap.objs.size u1 u2:=sb.extBut _ _ hTz g5;refine⟨.ref s.heap.objs.size,_,I.Jg (t':=s.toks) (ch:=[z,TO,i1,i2]) (T:=s.heap.objs.size) (o:=.tup [x,y]) (λc m=>hf c ?_) up (bA _) ⟨by show 2<=sizeLine;decide,[u1,u2],.cons ru1 (.cons XJ .nil),⟨_,NW,rfl,_,rfl⟩⟩,rfl,
   ⟨s.heap.objs.size,x,y,rfl,I.fresh,rfl,λxs' h=>by rw[I.qW h S];exact hx,λys' h=>by rw[I.qW h L];exact hy⟩,
   ⟨k1,sb.extBut _ _ D.TIz (kk _ _ D.TIz D.TITO D.TIi1 D.TIi2 g),⟨u1,u2,sb.extBut _ _ D.TOz g2⟩,g3.extBut sb.extBut D.i1z,g4.extBut sb.extBut D.i2z⟩,λc m=>?_⟩
  ·simp only[bH,cM,cN]at m;rcases m with rfl|rfl|rfl|rfl<;>repeat constructor
  ·rw[bq ?_]
   ·exact(hf c m).1
   ·simp only[bH,cM,cN]at m;obtain⟨o1,e1,_⟩:=h1;obtain⟨o2,e2,_⟩:=h2;rcases m with rfl|rfl|rfl|rfl|rfl
    ·exact(lt hz).symm
    ·exact(lt g).symm
    ·exact(lt r).symm
    ·exact(lt e1).symm
    ·exact(lt e2).symm
 done:=by
  intro X hP hw hK hc i U s Z H E I hf st hg;subst hP hw hK;obtain⟨xs,S,hx⟩:=hg;obtain⟨hz,g,⟨p,q,r⟩,h1,h2⟩:=st;obtain⟨Ly,M,p1,_⟩:=I.tuple S;have hl:=M.length;refine Lw (I.ok.hd hc) D hz g r h1 (show s.heap.IsTuple a Ly.toArray from p1) (S.apart I (hf z (by repeat constructor))) (by simp;omega) λh' kk=>⟨rfl,?_⟩;refine I.rf (t':=s.toks) (ch:=[z,i1]) (λc m=>hf c ?_) λc o m e=>?_
  ·simp only[bH,cM,cN]at m⊢;rcases m with h|h<;>simp[h]
  ·simp only[bH,cM,cN,kX]at m;exact kk c o m.1 m.2 e
 self:=λ_ _ _ _ _ st h=>wpAny_pyIter_zip st.1 h
def Tp(n:Nat):ZA (n+4) (n+2) (n+3) n (n+1):=⟨cf (by omega),cf (by omega),cf (by omega),cf (by omega),cf (by omega),dN (by omega),dN (by omega),dN (by omega),dN (by omega),cf (by omega)⟩
def aa7(K:Frag)(ta:TA):TI:=λZ H R=>ta Z H λvs H1=>∃a b xs ys,vs=[.ref a,.ref b]/\ju K H1 a xs/\ju K H1 b ys/\R (Itz K a b) H1
def Jh:bootBuiltins "zip"=some (.type "zip"):=by decide+kernel
theorem Tq{b:Expr}{ta:TA}(hg:Gl X "zip")(hm:X.mg "zip"=none)(ha:PA X [o,b] ta)(hs:starEach [o,b] X.env=[(false,eval o X.env),(false,eval b X.env)]:=by rfl) (V3:starEach [b] X.env=[(false,eval b X.env)]:=by rfl):
  PI X (.Tuple aA i b8) (.Call (.Name "zip" p) [o,b] [] pos) (aa7 X.K ta):=by
 intro U s Z H R I h;refine Call_ (vg I hg hm Jh (xg (eN (ha pos U s Z H _ I h) λus s1 ⟨vs,H1,g,r1,l⟩=>?_) (by rw[hs,V3]) (by rw[V3];rfl)));obtain⟨c,d,xs,ys,e,n,hd,q⟩:=l;subst e;obtain⟨u,v,rfl,r,rv⟩:=vals2 r1;cases(show u=Value.ref c from r);cases(show v=Value.ref d from rv);obtain⟨L,M,p1,_⟩:=g.tuple n;obtain⟨S,Np,p2,_⟩:=g.tuple hd;refine HZ (show s1.heap.IsTuple c L.toArray from p1) (show s1.heap.IsTuple d S.toArray from p2) λh' hz Fy Jf g1 g2 kk=>?_
 have I2:Inv X U Z H1 {s1 with heap:=h'}:=g.kept (t':=s1.toks) kk;refine wpAny_pyIter_zip hz ⟨s1.heap.objs.size+4,[s1.heap.objs.size+4,s1.heap.objs.size+2,s1.heap.objs.size+3,s1.heap.objs.size,s1.heap.objs.size+1],_,_,H1,rfl,I2,Lx (Tp _),⟨hz,Fy,⟨_,_,Jf⟩,g1,g2⟩,λb m=>?_,q⟩;have hb:s1.heap.objs.size<=b:=by
  simp only[bH,cM,cN]at m;rcases m with rfl|rfl|rfl|rfl|rfl
  ·exact mU _ 4
  ·exact mU _ 2
  ·exact mU _ 3
  ·exact bA _
  ·exact mU _ 1
 exact g.xW hb (g.cW.fresh hb)
noncomputable def Q7(us ws:List Tr):List Tr:=List.zipWith (λa b=>.tup [a,b]) us ws
section
variable {a b:Expr}
def Ji{b:Addr}{ws:List V}{us:List Tr}(h:ju K (cn B H) au ar)(r:bQ K (cn B H) ar ts)(h2:ju K (cn B H) b ws)(r2:bQ K (cn B H) ws us)(hl:ts.length<=us.length):lX K B (Itz K au b) H (Q7 ts us) where
 go:=λi B' H' hi s hb=>by
  have l:i<ts.length:=by unfold Q7 at hi;rw[List.length_zipWith]at hi;omega
  have n:i<ar.length:=by rw[r.length];exact l
  have hw:i<ws.length:=by rw[r2.length];omega
  exact⟨ar,ws,ar[i],ws[i],bo.tup bJ (s.h.tup h),bo.tup bJ (s.h.tup h2),by simp[n],by simp[hw]⟩
 Gs:=λi B' H' x Nk hi s hb ⟨T,y,z,I,g,L,q,M⟩=>by
  subst I L;obtain⟨t,S,rt⟩:=r.yh (q ar (bo.tup bJ (s.h.tup h)));obtain⟨u,eu,ru⟩:=r2.yh (M ws (bo.tup bJ (s.h.tup h2)));refine⟨bo.upd g,.tup [t,u],by unfold Q7;rw[List.getElem?_zipWith,S,eu],.tup (.of (hb.new g)) (.cons ((rt.same s).same (bL (bo.upd g))) (.cons ((ru.same s).same (bL (bo.upd g))) .nil))⟩
 stop:=λB' H' s=>⟨ar,bo.tup bJ (s.h.tup h),by unfold Q7;rw[List.length_zipWith,r.length];omega⟩
def zpW(l:Rs (List Tr)):Rs (List Tr):=l.bind λts=>match ts with
 |[.tup us,.tup ws]=>if us.length<=ws.length then .ok (Q7 us ws)else .bad
 |_=>.bad
theorem XM(hm:X.mg "zip"=none)(ha:PA X [a,b] (C_ X L))(hg:Gl X "zip":=by rfl) (hs:bC [a,b]=true:=by rfl):PI X (.Tuple aA az b8) (.Call (.Name "zip" p) [a,b] [] pos) (tI X λY=>zpW (L Y)):=
 (Tq hg hm ha (by rw[bO _ _ (bt hs).1,bO _ _ (bt (bt hs).2).1];rfl) (by rw[bO _ _ (bt (bt hs).2).1];rfl)).weak λZ H R ⟨B,Y,hb,r,q⟩=>⟨B,Y,hb,r,q.bind.mono λts g vs H1 s1 l=>by
  split at g
  ·obtain⟨x,y,e,h1,h2⟩:=z8 l;obtain⟨_,_,rfl,h,rr⟩:=h1.dX;obtain⟨_,_,rfl,h',n⟩:=h2.dX;split at g
   ·rename_i I;exact⟨_,_,_,_,e,bo.tup bJ h,bo.tup bJ h',g _ H1 s1 (Ji h rr h' n I)⟩
   ·exact g.elim
  ·exact g.elim⟩
def OR:Tr->Rs Tr
 |.str z=>.ok (.str z)
 |.int i=>if i.natAbs.log2<1920/\(Str.ofString (toString i)).length<=cZ then .ok (.str (Str.ofString (toString i)))else .bad
 |_=>.bad
theorem Ts(h:PE X e (tP X F)):PE X (.FormattedValue e (-1) none pos) (tP X λY=>(F Y).bind OR):=by
 intro U s Z H Q I ⟨B,Y,hb,r,q⟩;refine FormattedValue_plain (eN (h U s Z H (λx H1=>∃t,Rep X.K (cn B H1) x t/\bo H H1/\Fi X H (OR t) λt=>∀e H',bo H H'->Rep X.K (cn B H') e t->Q e H') I ⟨B,Y,hb,r,q.bind.mono λt n e H1 s1 r1=>⟨t,r1,s1,n⟩⟩) λu s1 ⟨x,H1,b,g,t,rt,l,k⟩=>?_);cases rt with
 |str z hz=>
  obtain⟨L,rfl⟩:=(show∃t,u=Value.str z t from g);exact formatField_str (λt' M=>⟨.str z,H1,b.tok _,⟨_,rfl⟩,k _ H1 l (.str z hz)⟩) (cB hz lV)
 |int i=>
  obtain⟨L,rfl⟩:=(show∃t,u=Value.int i t from g);obtain⟨⟨k1,k2⟩,k⟩:=gR k;exact formatField_int_small k1 ⟨.str _,H1,(b.tok _).tok _,⟨_,rfl⟩,k _ H1 l (.str _ k2)⟩
 |_=>exact fe k
def PJ(X:Cx)(aA:List Expr)(J:bX->Str->Rs Tr):Prop:=∀(U:List (Addr×Obj)) (s:Shared) (Z:St) (H:Hp) (acc:Str) (Q:VK),Inv X U Z H s->tP X (λY=>J Y acc) Z H Q->wpAny (model X.prog X.w) X.A (joinParts acc (evalEach aA X.env)) (EP X U Z Q) X.xe s
def zG(acc:Str):Rs Tr:=if acc.length<=cZ then .ok (.str acc)else .bad
theorem XN:PJ X [] λ_ acc=>zG acc:=by
 intro U s Z H acc Q I ⟨B,Y,hb,r,q⟩;obtain⟨b,k⟩:=gR q;exact joinParts_nil ⟨.str acc,H,I.tok _,⟨_,rfl⟩,k _ H (bo.refl H) (.str acc b)⟩ (cB b lV)
def lq(r:Rs Tr)(J:Str->Rs Tr)(acc:Str):Rs Tr:=r.bind λt=>match t with
 |.str y=>if(acc++y).length<=cZ then J (acc++y)else .bad
 |_=>.bad
theorem Tt{J:bX->Str->Rs Tr}(h:PE X e (tP X F))(hr:PJ X aA J):PJ X (e::aA) λY acc=>lq (F Y) (J Y) acc:=by
 intro U s Z H acc Q I ⟨B,Y,hb,r,q⟩;refine joinParts_cons (eN (h U s Z H (λx H1=>∃y,x=.str y/\(acc++y).length<=cZ/\bo H H1/\Fi X H (J Y (acc++y)) λt=>∀v H',bo H H'->Rep X.K (cn B H') v t->Q v H') I ⟨B,Y,hb,r,q.bind.mono λt b v H1 s1 n=>?_⟩) λu s1 ⟨x,H1,L,M,y,ex,g,l,k⟩=>?_)
 ·cases n with
  |str y hy=>
   by_cases g:(acc++y).length<=cZ
   ·exact⟨y,rfl,g,s1,by have k:Fi X H (if(acc++y).length<=cZ then J Y (acc++y)else .bad) _:=b;rw[aY g]at k;exact k⟩
   ·have k:Fi X H (if(acc++y).length<=cZ then J Y (acc++y)else .bad) _:=b;rw[bc g]at k;exact fe k
  |_=>exact fe b
 ·subst ex;obtain⟨tk,rfl⟩:=(show∃t,u=Value.str y t from M);exact⟨cB g lV,hr U s1 Z H1 _ Q L ⟨B,Y,hb.same l,r.same l,(k.same l).mono λt b v H2 s2 S=>b v H2 (l.trans s2) S⟩⟩
theorem OS{J:bX->Str->Rs Tr}(h:PJ X (e::o::aA) J):PE X (.JoinedStr (e::o::aA) pos) (tP X λY=>J Y Str.empty):=λU s Z H Q I q=>JoinedStr_many (h U s Z H Str.empty Q I q)
def yK:List Tr->Rs (List String)
 |[]=>.ok []
 |.ty n::ts=>(yK ts).bind λns=>.ok (n::ns)
 |_::_=>.bad
theorem Hg:∀{ts:List Tr} {ns:List String},yK ts=.ok ns->ts=ns.map Tr.ty
 |[],ns,h=>by cases h;rfl
 |t::ts,ns,h=>by
  cases t with
  |ty n=>
   cases e:yK ts with
   |ok ms=>
    rw[yK,e]at h;cases h;rw[Hg e];rfl
   |_=>rw[yK,e]at h;cases h
  |_=>cases h
theorem DI:∀{ts:List Tr} {c:Tr},yK ts≠ .exc c
 |[],c,h=>by cases h
 |t::ts,c,h=>by
  cases t with
  |ty n=>
   cases e:yK ts with
   |ok ms=>rw[yK,e]at h;cases h
   |exc b=>exact DI e
   |bad=>rw[yK,e]at h;cases h
  |_=>cases h
theorem DJ{H:Vw}:∀{ns:List String} {vs:List V},bQ K H vs (ns.map Tr.ty)->vs=ns.map V.ty
 |[],_,r=>by cases r;rfl
 |n::ns,_,r=>by
  cases r with
  |cons h r=>cases h;rw[DJ r];rfl
theorem Hh(K:Frag)(a:String)(q:a∈["NoneType","bool","int","str","tuple","list","dict"]):∀(cs:List String),(∀c∈cs,c∈kinds)->PySem.W.kitAny K (.type a) (cs.map Value.type)=some (cs.any λc=>a==c||(a=="bool"&&c=="int"))
 |[],_=>rfl
 |c::cs,h=>by
  have b:=Hh K a q cs λd m=>h d (cw _ m);have k1:=G1 K a q c (h c (cG ..));rw[bB,PySem.W.kitAny,k1,b,jt];cases(a==c||(a=="bool"&&c=="int"))<;>rfl
def Q8:List Tr->Rs Tr
 |[t,.tup cs]=>(yK cs).bind λns=>if yu t=true/\ns.all (λc=>kinds.contains c)=true then .ok (.bl (ns.any (Z3 t)))else .bad
 |_=>.bad
def XO{W:Vw}{H:Hp}{x:V}{t:Tr}(r:Rep K W x t)(f:yu t=true):yw t∈["NoneType","bool","int","str","tuple","list","dict"]/\Qs x=true/\uk K H x (.type (yw t)):=by
 cases r with
 |cA=>exact⟨.head _,rfl,.cA⟩
 |bl b=>exact⟨.tail _ (.head _),rfl,.bl b⟩
 |int i=>exact⟨.tail _ (.tail _ (.head _)),rfl,.int i⟩
 |str z _=>exact⟨.tail _ (.tail _ (.tail _ (.head _))),rfl,.str z⟩
 |_=>cases f
theorem Tu:lW X (.builtin "isinstance") Q8:=by
 intro U s Z H xs us Q I b ⟨B,ts,hb,r,q⟩;unfold Q8 at q;split at q
 ·rename_i t cs;obtain⟨az,M,rfl,h1,h2⟩:=z8 r;obtain⟨a,vs,rfl,h,rr⟩:=h2.dX;cases e:yK cs with
  |exc c=>exact(DI e).elim
  |bad=>rw[e]at q;exact fe q
  |ok ns=>
   rw[e]at q;have f:=gR q;have g:=Hg e;subst g;have ev:=DJ rr;subst ev;have mem:∀c∈ns,c∈kinds:=λc m=>by
    have:=dE.mp f.1.2 c m;simpa using this
   obtain⟨l,n,tx⟩:=XO (H:=H) h1 f.1.1;refine Iy U s Z H _ us Q I b ⟨_,_,ns,.type (yw t),_,rfl,n,h.up,tx,Hh X.K _ l ns mem,?_⟩;have L:(ns.any λc=>yw t==c||(yw t=="bool"&&c=="int"))=ns.any (Z3 t):=rfl;rw[L];exact f.2 _ H (bo.refl H) (.bl _)
 ·exact fe q
end
theorem yL:∀{xs:List V} {cy:List Value},xs.length=cy.length->(∀(i:Nat) (x:V) (u:Value),xs[i]?=some x->cy[i]?=some u->RelV x u)->Vals xs cy
 |[],[],_,_=>.nil
 |[],_::_,h,_=>by cases h
 |_::_,[],h,_=>by cases h
 |x::xs,u::us,h,k=>.cons (k 0 x u rfl rfl) (yL (by simpa using h) λi y w b g=>k (i+1) y w (by simpa using b) (by simpa using g))
def vB{k:Key}{v:Value}(h:m3 k v=true):RelV (kV k) v:=by
 rcases dQ h with⟨j,t,b,g⟩|⟨y,t,b,g⟩
 ·rw[b,g];exact⟨t,rfl⟩
 ·rw[b,g];exact⟨t,rfl⟩
def Jj{kvs:List (Key×V)}{vs:List (Key×Value)}(q:KV kvs vs)(hi:ItemsOf (λi v=>∃k x,vs[i]?=some (k,x)/\m3 k v=true) ak vs.length):Vals (kvs.map λp=>kV p.1) ak.toList:=by
 refine yL (by have e:=hi.1;rw[bu,sM q,<-e,gE]) λi x u b l=>?_
 rw[nQ]at l;obtain⟨k,y,n,r⟩:=hi.2 i u l;rw[cq]at b;cases g:kvs[i]? with
 |none=>rw[g]at b;cases b
 |some p=>
  rw[g]at b;cases b;obtain⟨z,I⟩:=Bt q (k:=p.1) (v:=p.2) g;rw[I]at n;cases n;exact vB r
section
variable {prog:Program}{vs:List (Key×Value)}{ep:Nat}
theorem BB{R:List Value->Shared->Prop}(hh:A.handled=none)(hd:(a==sysModules)=false)(hm:s.heap.DictAt (cu prog w) a vs ep)(hn:vs.length<=sizeLine)
  (h:∀(h':Heap) (tk:Nat) (acc:Array Value),ItemsOf (λi v=>∃k x,vs[i]?=some (k,x)/\m3 k v=true) acc vs.length->(∀b o,s.heap.get? b=some o->h'.get? b=some o)->s.heap.objs.size<=h'.objs.size->R acc.toList {s with heap:=h',toks:=tk}):wpAny (model prog w) A (collect (.ref a)) R E s:=by
 have M:a<s.heap.objs.size:=hm.lt_size;unfold collect;refine aU (wpAny_runValue (gb entry_proto_collect' ?_));rw[g_ CF _];show wpAny _ A.in1 (newList []>>=λl=>again (.builtin "list.__iadd__" ⟨[l,.ref a],[]⟩)) _ _ s;refine aU (kO ?_);refine bg ⟨hW s_ _,gb entry_list_iadd' ?_⟩;rw[g_ s_ _];have S:(s.heap.push {cls:=.type "list",data:=.seq ([]:List Value).toArray}).get? s.heap.objs.size=some {cls:=.type "list",data:=.seq #[]}:=cz _ rfl;show wpAny _ A.in1 (Builtin.List.listExtendWith (.ref s.heap.objs.size) (.ref a) (.ref s.heap.objs.size)) _ _ _;have key:=PySem.W.kdl_extend (prog:=prog) (A:=A) (s:={s with heap:=s.heap.push {cls:=.type "list",data:=.seq ([]:List Value).toArray}})
  (R:=λ(q:Result) (s':Shared)=>∃(h':Heap) (tk:Nat) (g:Array Value) (r:Nat),q=.ok (.ret (.ref s.heap.objs.size))/\s'={s with heap:=h',toks:=tk}/\
   (∀b o,s.heap.get? b=some o->h'.get? b=some o)/\h'.get? s.heap.objs.size=some {cls:=.type "list",dict:=none,data:=.seq g r,slots:=#[]}/\ItemsOf (λi v=>∃k x,vs[i]?=some (k,x)/\m3 k v=true) g vs.length)
  (PySem.W.kdl_dict (knd:=cu prog w) (kvs:=vs) (ep:=ep) hd) hh (hm.push _) s.heap.objs.size (dN M) (dN M) (.ref s.heap.objs.size) 0 S
  (λh' tk g r I n L=>⟨h',tk,g,r,rfl,rfl,λb o e=>I b o (cf (bz e)) (bS _ e),n,L⟩) hn
 refine ee key (λfin s' x=>?_) λe s' x=>?_
 ·cases fin with
  |done f=>
   obtain⟨h',tk,g,r,e,rfl,I,n,L⟩:=x;cases e;show wpAny _ A (load s.heap.objs.size>>=_) _ _ _;refine aU (pO n ?_);exact bg (h h' tk g L I (du (bz n)))
  |again c₁=>
   refine⟨x.1,iO x.2 λq uh y=>?_⟩;obtain⟨h',tk,g,r,rfl,rfl,I,n,L⟩:=y;show wpAny _ A (load s.heap.objs.size>>=_) _ _ _;refine aU (pO n ?_);exact bg (h h' tk g L I (du (bz n)))
 ·obtain⟨_,_,_,_,e',_⟩:=x;cases e'
def DK{ss:List Str}(hh:A.handled=none)(hd:(a==sysModules)=false)(hm:s.heap.DictAt (cu prog w) a vs ep)(hv:vs.map (·.1)=ss.map Sum.inr)(Fx:ss.length<64)
  (h:∀h' tk D out n CC,(∀b o,s.heap.get? b=some o->h'.get? b=some o)->s.heap.objs.size<=D->h'.get? D=some {cls:=.type "list",data:=.seq out n}->StrsAre out.toList CC->CC.Perm ss->sortedS CC=true->
   Q (.ref D) {s with heap:=h',toks:=tk}):wpAny (model prog w) A (call (.builtin "sorted") [.ref a]) Q E s:=by
 have M:vs.length=ss.length:=by have q:=cV List.length hv;rw[bu,bu]at q;exact q
 have hz:vs.length<=sizeLine:=by rw[dW];omega
 refine call_function_entry kind_sorted plain_sorted entry_sorted (args_sorted1 _) ?_
 unfold Builtin.«sorted»;refine aU (m:=checkCount "sorted" 1 1 _) (bg ?_);refine aU (BB (A:=A.in1) hh hd hm hz λl tk acc hi hk hle=>?_);have r:StrsAre acc.toList ss:=by
  refine vA (yL (by have e:=hi.1;rw[bu,<-M,<-e,gE]) λi x u g S=>?_);rw[nQ]at S;obtain⟨k,y,e3,e4⟩:=hi.2 i u S;have I:(vs.map (·.1))[i]?=some k:=by rw[cq,e3];rfl
  rw[hv,cq]at I;rw[cq]at g;cases e6:ss[i]? with
  |none=>rw[e6]at g;cases g
  |some z=>rw[e6]at g I;cases g;cases I;exact vB e4
 have b9:acc.toList.length=ss.length:=by rw[gE,hi.1,M]
 refine aU (pM ?_ (by rw[b9,dW];omega));have L:(l.push (seqObj "list" acc.toList.toArray 0)).get? l.objs.size=some (seqObj "list" acc.toList.toArray 0):=cz _ rfl;refine aU (fK (hJ slot_list_sort ⟨_,L,rfl⟩ entry_list_sort
  (list_sort_treeK strKind_oneLt L r.keysOf (λaa4 aa5 c9 e=>keyKind_strs (by rw[<-e];exact r)) (by rw[b9];omega) λxX a1 a2=>⟨_,rfl,?_⟩) (args_list_sort _)))
 refine bg ⟨_,rfl,?_⟩;obtain⟨CC,q1,q2,q3⟩:=sorted_out_str r a1 a2;obtain⟨e,he⟩:=sortedHeap_at (out:=(arrOf xX).map (·.2)) L;refine h _ tk l.objs.size ((arrOf xX).map (·.2)) e CC (λb o q=>?_) hle he q1 q2 q3;have hb:=hk b o q;have gJ:=bz hb;rw[sortedHeap_old (cf gJ) (by rw[jE];exact lR gJ)];exact bS _ hb
end
section
theorem FA(hc:X.calm=true):gQ X (.type "list") (λxs H Q=>∃(a:Addr) (kvs:List (Key×V)),xs=[.ref a]/\Rd H a (.dK kvs)/\∀D,H D=none->Q (.ref D) (upd H D (.lst (kvs.map λp=>kV p.1)))):=by
 intro U s Z H xs us Q I r h;obtain⟨a,kvs,rfl,ha,q⟩:=h;obtain⟨u,rfl,b⟩:=vals1 r;cases(show u=Value.ref a from b);obtain⟨hz,hs,vs,rv,hm⟩:=(show cX X.prog X.w H s.heap a (.dK kvs)from ha.ok I.cW);obtain⟨ep,hm⟩:=hm.dictAt;have g:=sM rv;refine PySem.W.kdl_call (PySem.W.kdl_dict (knd:=cu X.prog X.w) (kvs:=vs) (ep:=ep) hs) (I.ok.hd hc) hm (by rw[<-g];exact hz) λh' l n L M S sO=>?_
 have hf:H s.heap.objs.size=none:=I.fresh;exact⟨.ref s.heap.objs.size,_,I.laid (t':=l) (o:=.lst (kvs.map λp=>kV p.1)) M (bA _) ⟨by rw[bu];exact hz,n.toList,L,Jj rv sO,by rw[tB];exact S⟩,rfl,q _ hf⟩
theorem BC(hc:X.calm=true):gQ X (.builtin "sorted") (λxs H Q=>∃(a:Addr) (kvs:List (Key×V)) (ss:List Str),xs=[.ref a]/\Rd H a (.dK kvs)/\kvs.map (·.1)=ss.map Sum.inr/\ss.length<64/\∀D,H D=none->Q (.ref D) (upd H D (.lst ((c_ ss).map V.str)))):=by
 intro U s Z H xs us Q I r h;obtain⟨a,kvs,ss,rfl,ha,b,l,q⟩:=h;obtain⟨u,rfl,L⟩:=vals1 r;cases(show u=Value.ref a from L);obtain⟨hz,hs,vs,rv,hm⟩:=(show cX X.prog X.w H s.heap a (.dK kvs)from ha.ok I.cW);obtain⟨ep,hm⟩:=hm.dictAt;have M:vs.map (·.1)=ss.map Sum.inr:=by
  rw[<-b];refine pq λi=>?_
  rw[cq,cq];cases e:kvs[i]? with
  |none=>
   have S:vs[i]?=none:=jq.mpr (by rw[<-sM rv];exact jq.mp e)
   rw[S];rfl
  |some p=>
   obtain⟨z,e6⟩:=Bt rv (k:=p.1) (v:=p.2) e;rw[e6];rfl
 refine DK (I.ok.hd hc) hs hm M l λh' tk D out n CC b g hg cJ hp hs=>?_
 have e:=uG hp hs;subst e;have hf:H D=none:=I.cW.fresh g;have hz:((c_ ss).map V.str).length<=sizeLine:=by
  rw[bu,(eO ss).length_eq,dW];omega
 exact⟨.ref D,_,I.laid (t':=tk) (o:=.lst ((c_ ss).map V.str)) b g ⟨hz,out.toList,n,rb cJ,by rw[tB];exact hg⟩,rfl,q _ hf⟩
noncomputable def oQ:List Tr->Option (List Str)
 |[]=>some []
 |.str z::ts=>(oQ ts).map λr=>z::r
 |_=>none
theorem vC{W:Vw}:∀{vs:List V} {ts:List Tr} {ss:List Str},bQ K W vs ts->oQ ts=some ss->vs=ss.map V.str/\∀z∈ss,z.length<=cZ
 |[],[],ss,_,e=>by cases e;exact⟨rfl,λz h=>by cases h⟩
 |[],_::_,_,h,_=>by cases h
 |v::vs,ts,ss,h,e=>by
  cases h with
  |cons h r=>
   cases h with
   |str z hz=>
    rename_i ts;have b:(oQ ts).map (λr=>z::r)=some ss:=e;cases q:oQ ts with
    |none=>rw[q]at b;cases b
    |some rs=>
     rw[q]at b;cases b;obtain⟨l,h2⟩:=vC r q;exact⟨by rw[l];rfl,λy g=>by
      rcases bH.mp g with rfl|g
      ·exact hz
      ·exact h2 y g⟩
   |_=>cases e
def v_:List (Key×Tr)->Option (List Str)
 |[]=>some []
 |(.inr z,_)::ts=>if z.length<=cZ then(v_ ts).map λr=>z::r else none
 |_=>none
theorem DL:∀{bE:List (Key×Tr)} {ss:List Str},v_ bE=some ss->bE.map (·.1)=ss.map Sum.inr/\∀z∈ss,z.length<=cZ
 |[],ss,e=>by cases e;exact⟨rfl,λz h=>by cases h⟩
 |(.inl _,_)::_,_,e=>by cases e
 |(.inr z,t)::ts,ss,e=>by
  have b:(if z.length<=cZ then(v_ ts).map λr=>z::r else none)=some ss:=e;by_cases hz:z.length<=cZ
  ·rw[aY hz]at b;cases q:v_ ts with
   |none=>rw[q]at b;cases b
   |some rs=>
    rw[q]at b;cases b;obtain⟨h1,h2⟩:=DL q;exact⟨by rw[bB,bB,h1],λy g=>by
     rcases bH.mp g with rfl|g
     ·exact hz
     ·exact h2 y g⟩
  ·rw[bc hz]at b;cases b
def As(o:Option (List Str)):Rs Tr:=match o with
 |some ss=>if ss.length<64 then .ok (.lst ((c_ ss).map .str))else .bad
 |none=>.bad
def n5:List Tr->Rs Tr
 |[.lst ts]=>As (oQ ts)
 |[.bW bE]=>As (v_ bE)
 |_=>.bad
def yM{W:Vw}(h:∀z∈ps,z.length<=cZ):bQ K W ((c_ ps).map V.str) ((c_ ps).map Tr.str):=z7 λz hz=>h z ((eO ps).mem_iff.mp hz)
def Au{o:Option (List Str)}(q:Fi X H (As o) aB):∃ss,o=some ss/\ss.length<64/\aB (.lst ((c_ ss).map .str)):=by
 unfold As at q;split at q
 ·have f:=gR q;exact⟨_,rfl,f.1,f.2⟩
 ·exact q.elim
theorem jL(hc:X.calm=true):lW X (.builtin "sorted") n5:=by
 intro U s Z H xs us Q I n ⟨B,ts,hb,r,q⟩;unfold n5 at q;split at q
 ·obtain⟨x,rfl,b⟩:=gw r;obtain⟨a,vs,rfl,h,rr⟩:=b.lst_inv;obtain⟨ss,g,l,k⟩:=Au q;obtain⟨rfl,hs⟩:=vC rr g;exact By U s Z H _ us Q I n ⟨_,ss,rfl,.of (eB h),l,λp hp=>k _ _ (bo.upd hp) (.zD hb hp (yM hs))⟩
 ·obtain⟨x,rfl,b⟩:=gw r;obtain⟨a,kvs,rfl,h,L,rr⟩:=b.nW;obtain⟨ss,g,l,k⟩:=Au q;obtain⟨M,hs⟩:=DL g;exact BC hc U s Z H _ us Q I n ⟨_,_,ss,rfl,h.same bJ,L.trans M,l,λp hp=>k _ _ (bo.upd hp) (.zD hb hp (yM hs))⟩
 ·exact q.elim
def FC:List Tr->Rs Tr
 |[.bW bE]=>(Dx bE).bind λts=>.ok (.lst ts)
 |_=>.bad
theorem DM{W:Vw}:∀{kvs:List (Key×V)} {bE:List (Key×Tr)},kvs.map (·.1)=bE.map (·.1)->bE.all (λp=>keyOk p.1)=true->bQ K W (kvs.map λp=>kV p.1) (bE.map λp=>Am p.1)
 |[],[],_,_=>.nil
 |[],_::_,e,_=>by cases e
 |_::_,[],e,_=>by cases e
 |(k1,v)::kvs,(k2,t)::bE,e,h=>by
  rw[bB,bB]at e;injection e with b g
  have l:k1=k2:=b;subst l;rw[iN,bY]at h;exact .cons (An h.1) (DM g h.2)
theorem OT(hc:X.calm=true):lW X (.type "list") FC:=by
 intro U s Z H xs us Q I b ⟨B,ts,hb,r,q⟩;unfold FC at q;split at q
 ·obtain⟨x,rfl,g⟩:=gw r;obtain⟨a,kvs,rfl,h,l,rr⟩:=g.nW;have f:=gR (Fi.bind q);exact FA hc U s Z H _ us Q I b ⟨_,_,rfl,h.same bJ,λp hp=>f.2 _ _ (bo.upd hp) (.zD hb hp (DM l f.1))⟩
 ·exact q.elim
def qi:Tr->Rs Tr
 |.lst ts=>match oQ ts with
  |some ss=>if ss.length<64 then .ok (.lst ((c_ (eV [] ss)).map .str))else .bad
  |none=>.bad
 |_=>.bad
variable {l:Expr}{p1 p2 XQ XR:Pos}
end
def wB(ts:List Tr)(x:Tr):Rs Tr:=if sH x=true/\ts.all yu=true then(match ts.findIdx? (λy=>eqT y x)with|some j=>.ok (.int j)|none=>.bad)else .bad
def OU(ts:List Tr)(x:Tr):Rs Tr:=if sH x=true/\ts.all yu=true then .ok (.int (ts.countP λy=>eqT y x:Nat))else .bad
theorem Hi{W:Vw}{x:Tr}:∀{vs:List V} {ts:List Tr} {us:List Value},bQ K W vs ts->ts.all yu=true->Vals vs us->us.map (eU x)=ts.map λy=>eqT y x
 |[],_,_,r,_,rv=>by cases r;cases rv;rfl
 |_::_,_,_,r,f,rv=>by
  cases r with
  |cons h r=>
   cases rv with
   |cons b rv=>
    rw[iN,bY]at f;rw[bB,bB,Fh h f.1 b,Hi r f.2 rv]
theorem Hj{x:Tr}{j:Nat}(e:aq.map (eU x)=ts.map λy=>eqT y x)(h:ts.findIdx? (λy=>eqT y x)=some j):∃hj:j<aq.length,eU x aq[j]=true/\∀m (hm:m<aq.length),m<j->eU x aq[m]=false:=by
 obtain⟨hj,h1,h2⟩:=CD.mp h;have b:aq.length=ts.length:=by have q:=cV List.length e;rw[bu,bu]at q;exact q
 have at_:∀(i:Nat) (h1:i<aq.length) (h2:i<ts.length),eU x aq[i]=eqT ts[i] x:=λi h1 h2=>by
  have q:=cV (λl:List Bool=>l[i]?) e;simp only[cq,bZ h1,bZ h2]at q;exact Option.some.inj q
 refine⟨by rw[b];exact hj,by rw[at_ j _ hj];exact h1,λm hm g=>?_⟩;rw[at_ m hm (by rw[<-b];exact hm)];have q:=h2 m g;cases z:eqT ts[m] x with
 |false=>rfl
 |true=>exact absurd z q
def DN{x:Tr}(q:Fi X H (wB ts x) aB):sH x=true/\ts.all yu=true/\∃j:Nat,ts.findIdx? (λy=>eqT y x)=some j/\aB (.int j):=by
 unfold wB at q;by_cases z:sH x=true/\ts.all yu=true
 ·rw[aY z]at q;cases e:ts.findIdx? (λy=>eqT y x)with
  |none=>rw[e]at q;exact fe q
  |some j=>rw[e]at q;exact⟨z.1,z.2,j,rfl,q⟩
 ·rw[bc z]at q;exact fe q
def Lz{x:Tr}(q:Fi X H (OU ts x) aB):sH x=true/\ts.all yu=true/\aB (.int (ts.countP λy=>eqT y x:Nat)):=by
 unfold OU at q;by_cases z:sH x=true/\ts.all yu=true
 ·rw[aY z]at q;exact⟨z.1,z.2,q⟩
 ·rw[bc z]at q;exact fe q
theorem count_at{x:Tr}(e:aq.map (eU x)=ts.map λy=>eqT y x):aq.countP (eU x)=ts.countP λy=>eqT y x:=by
 have a:aq.countP (eU x)=(aq.map (eU x)).countP id:=by rw[List.countP_map];rfl
 have b:(ts.countP λy=>eqT y x)=(ts.map λy=>eqT y x).countP id:=by rw[List.countP_map];rfl
 rw[a,b,e]
section
def Tv{W:Vw}{v:V}{rS:Addr->Option Nat}{Q:VK}(hu:X.A.units+1<cLine)(I:Inv X U Z H s)(h:ju X.K H a ar)(r:bQ X.K (⟨H,rS⟩:Vw) ar ts)(rx:Rep X.K (⟨H,rS⟩:Vw) v aC)(ru:RelV v af)(q:Fi X H (wB ts aC) aB)(hk:∀j:Nat,aB (.int j)->Q (.int j) H):
  wpAny (model X.prog X.w) X.A (call (.builtin "tuple.index") [.ref a,af]) (EP X U Z Q) X.xe s:=by
 obtain⟨p1,p2,j,e,q⟩:=DN q;obtain⟨cy,rv,pl,hz⟩:=I.tuple h
 ·obtain⟨l,h1,h2⟩:=Hj (Hi r p2 rv) e;obtain⟨⟨cls,dd,data,sl⟩,b,g,n,hd⟩:=(show s.heap.IsTuple a cy.toArray from pl);simp only at g hd;subst g hd;refine kW xk ⟨_,b,rfl⟩ PySem.F.entry_tuple_index (PySem.F.args_tuple_index_2 _ _) (SeqAt.zv a cy.toArray n dd sl af (eU aC) j (by simpa using l) (by simpa using h1) λm hm L=>by simpa using h2 m (by simpa using hm) L) ⟨b,λy M=>p8 I (A:=X.A.in1) hu rx p1 ru r p2 rv y (by simpa using M),?_⟩;exact⟨.int j,H,I.tok _,⟨_,rfl⟩,hk j q⟩
theorem Tw{v:V}{rS:Addr->Option Nat}{Q:VK}(hu:X.A.units+1<cLine)(I:Inv X U Z H s)(h:lT X.K H a ar)(r:bQ X.K (⟨H,rS⟩:Vw) ar ts)(rx:Rep X.K (⟨H,rS⟩:Vw) v aC)(ru:RelV v af)(q:Fi X H (wB ts aC) aB)(hk:∀j:Nat,aB (.int j)->Q (.int j) H):
  wpAny (model X.prog X.w) X.A (call (.builtin "list.index") [.ref a,af]) (EP X U Z Q) X.xe s:=by
 obtain⟨p1,p2,j,e,q⟩:=DN q;obtain⟨cy,rv,pl,hz⟩:=I.list h
 ·obtain⟨l,h1,h2⟩:=Hj (Hi r p2 rv) e;have hs:(j:Int)<2 ^63 - 1:=by
   have:=rv.length;rw[dW]at hz;omega
  obtain⟨⟨cls,dd,data,sl⟩,n,b,g,L,hd⟩:=id pl;simp only at g hd L;have M:=hd;subst g;subst M;refine kW PySem.F.slot_list_index ⟨_,b,rfl⟩ PySem.F.entry_list_index (PySem.F.args_list_index_2 _ _) (SeqAt.list_indexAt a cy.toArray n dd sl af (eU aC) j (by simpa using l) hs (by simpa using h1) λm hm S=>by simpa using h2 m (by simpa using hm) S) ⟨b,λy hy=>p8 I (A:=X.A.in1) hu rx p1 ru r p2 rv y (by simpa using hy),?_⟩;exact⟨.int j,H,I.tok _,⟨_,rfl⟩,hk j q⟩
theorem Tx{v:V}{rS:Addr->Option Nat}{Q:VK}(hu:X.A.units+1<cLine)(I:Inv X U Z H s)(h:lT X.K H a ar)(r:bQ X.K (⟨H,rS⟩:Vw) ar ts)(rx:Rep X.K (⟨H,rS⟩:Vw) v aC)(ru:RelV v af)(q:Fi X H (OU ts aC) aB)(hk:∀j:Nat,aB (.int j)->Q (.int j) H):
  wpAny (model X.prog X.w) X.A (call (.builtin "list.count") [.ref a,af]) (EP X U Z Q) X.xe s:=by
 obtain⟨p1,p2,q⟩:=Lz q;obtain⟨cy,rv,pl,hz⟩:=I.list h;rw[<-count_at (Hi r p2 rv)]at q;obtain⟨⟨cls,dd,data,sl⟩,n,b,g,l,hd⟩:=id pl;simp only at g hd l;have L:=hd;subst g;subst L;refine kW PySem.F.slot_list_count ⟨_,b,rfl⟩ PySem.F.entry_list_count (PySem.F.args_list_count_2 _ _) (SeqAt.list_countAt a cy.toArray n dd sl af (eU aC)) ⟨b,λy M=>p8 I (A:=X.A.in1) hu rx p1 ru r p2 rv y (by simpa using M),?_⟩;exact⟨.int (cy.countP (eU aC):Nat),H,I.tok _,⟨_,rfl⟩,hk _ q⟩
variable {es:List Expr}{abY dI:Pos}
def lmR(h:List Tr->Tr->Rs Tr)(r:Rs Tr)(a:Rs Tr):Rs Tr:=r.bind λt=>match t with
 |.lst ts=>a.bind λx=>h ts x
 |_=>.bad
inductive XX(X:Cx)(h:List Tr->Tr->Rs Tr)(x:V)(xs:List V)(H:Hp)(Q:VK):Prop
 |mk (B:fw) (ts:List Tr) (y:V) (ty:Tr):HB B H->Rep X.K (cn B H) x (.lst ts)->xs=[y]->Rep X.K (cn B H) y ty->(Fi X H (h ts ty) fun t=>∀v H',bo H H'->Rep X.K (cn B H') v t->Q v H')->XX X h x xs H Q
theorem Tz(hu:X.A.units+1<cLine):R0 X "list.index" (XX X wB):=by
 intro U s Z H x xs v us Q I b g ⟨B,ts,y,ty,hb,r,e,l,q⟩;subst e;obtain⟨u,rfl,n⟩:=vals1 g;cases r with
 |lst h L=>
  cases b;exact Tw (rS:=B.ix) hu I (.of (eB h)) (L.same fL) (l.same fL) n q λj z=>z _ H (bo.refl H) (.int _)
theorem TB(hu:X.A.units+1<cLine):R0 X "list.count" (XX X OU):=by
 intro U s Z H x xs v us Q I b g ⟨B,ts,y,ty,hb,r,e,l,q⟩;subst e;obtain⟨u,rfl,n⟩:=vals1 g;cases r with
 |lst h L=>
  cases b;exact Tx (rS:=B.ix) hu I (.of (eB h)) (L.same fL) (l.same fL) n q λj z=>z _ H (bo.refl H) (.int _)
theorem aa8{h:List Tr->Tr->Rs Tr}(slot:Slot "list" av ay)(NT:typeOf (.builtin ay)=pure (.type "method_descriptor"))(hm:R0 X ay (XX X h))(ho:PE X o (tP X F))(he:PE X e (tP X G))(pa:PlainAttrs "list":=by exact sZ)
  (pU:isCall o=false:=by rfl) (cJ:bC [e]=true:=by rfl) (gs:(b8.endLine==dI.line)=true:=by rfl):
  PE X (.Call (.Attribute o av b8) [e] [] dI) (tP X λY=>lmR h (F Y) (G Y)):=
 (Gy pa slot NT hm ho (Bk he GK (bt cJ).1) (gL pU) (by rw[jI cJ];rfl) gs (bO _ _ (bt cJ).1) (cS (bt cJ).2)).weak λZ H Q ⟨B,Y,hb,r,q⟩=>⟨B,Y,hb,r,q.bind.mono λt g v H1 s1 I=>by
  split at g
  ·rename_i ts;obtain⟨a,vs,rfl,l,rr⟩:=I.lst_inv;refine⟨.inl ⟨rfl,vs,.of (eB l)⟩,B,Y,hb.same s1,r.same s1,?_⟩;have b:=(Fi.bind g).same s1;refine Fi.mono (r:=yo (G Y) (.ok [])) (k:=λzs=>∃x,zs=[x]/\Fi X H (h ts x) λt=>∀v H',bo H H'->Rep X.K (cn B H') v t->Q v H') ?_ λzs ⟨x,L,M⟩ ws H2 s2 S=>?_
   ·cases n:G Y with
    |ok x=>rw[n]at b;exact⟨x,rfl,b⟩
    |_=>rw[n]at b;exact b
   ·subst L;obtain⟨y,rfl,ry⟩:=gw S;exact⟨B,ts,_,x,hb.same (s1.trans s2),.lst ((bL s2).h _ _ l) (rr.same (bL s2)),rfl,ry,(M.same (s1.trans s2)).mono λt k v H3 s3 r3=>k v H3 ((s1.trans s2).trans s3) r3⟩
  ·exact g.elim⟩
end
structure LA(K:Frag)(mg:Str->Option Value)(x:Str)(ts:List Tr):Prop where
 g:Wv K mg x (.tup ts)
 nd:∃a o,mg x=some (.ref a)/\K.lookup a=some o/\o.cls=.type "tuple"/\o.dict=none
section
variable {es:List Expr}{dI:Pos}
inductive rTI(X:Cx)(x:V)(xs:List V)(H:Hp)(Q:VK):Prop
 |mk (B:fw) (ts:List Tr) (y:V) (ty:Tr):HB B H->Rep X.K (cn B H) x (.tup ts)->xs=[y]->Rep X.K (cn B H) y ty->(Fi X H (wB ts ty) fun t=>∀v H',bo H H'->Rep X.K (cn B H') v t->Q v H')->rTI X x xs H Q
theorem LB(hu:X.A.units+1<cLine):R0 X "tuple.index" (rTI X):=by
 intro U s Z H x xs v us Q I b g ⟨B,ts,y,ty,hb,r,e,l,q⟩;subst e;obtain⟨u,rfl,n⟩:=vals1 g;cases r with
 |tup h L=>
  cases b;exact Tv (W:=cn B H) (rS:=B.ix) hu I (bo.tup bJ h) (L.same fL) (l.same fL) n q λj z=>z _ H (bo.refl H) (.int _)
def XY{B:fw}{Y:bX}(s1:bo H ac)(q:Fi X H (G Y) aB):Fi X ac (yo (G Y) (.ok [])) λzs=>∃x,zs=[x]/\aB x:=by
 have b:=Fi.same q s1;cases g:G Y with
 |ok x=>rw[g]at b;exact⟨x,rfl,b⟩
 |_=>rw[g]at b;exact b
theorem XZ(hu:X.A.units+1<cLine)(g:LA X.K X.mg x ts)(he:PE X e (tP X G))(hg:Gl X x:=by rfl) (hd:Db x:=by decide) (cJ:bC [e]=true:=by rfl) (gs:(b8.endLine==dI.line)=true:=by rfl):
  PE X (.Call (.Attribute (.Name x p) "index" b8) [e] [] dI) (tP X λY=>(G Y).bind (wB ts)):=by
 obtain⟨⟨v,u,hm,r,l⟩,a,ob,b,n,I,hn⟩:=g;rw[hm]at b;cases b;obtain⟨a',_,rfl,_⟩:=(l ⟨λ_=>none,λ_=>none⟩).dX;cases r;refine(Gy PySem.F.plainAttrs_tuple xk PySem.F.type_tuple_index (LB hu) (A7 (v:=.ref a) hg hm rfl hd) (Bk he GK (bt cJ).1) (gL rfl) (by rw[jI cJ];rfl) gs (bO _ _ (bt cJ).1) (cS (bt cJ).2)).weak λZ H Q ⟨B,Y,hb,r,q⟩=>?_
 refine⟨.inr (.inl ⟨rfl,ob,n,I,hn⟩),B,Y,hb,r,(XY (B:=B) (bo.refl H) (Fi.bind q)).mono λzs ⟨x,L,M⟩ ws H2 s2 S=>?_⟩;subst L;obtain⟨y,rfl,ry⟩:=gw S;exact⟨B,ts,_,x,hb.same s2,l _,rfl,ry,(Fi.same M s2).mono λt k v H3 s3 r3=>k v H3 (s2.trans s3) r3⟩
theorem X0{x1}(hu:X.A.units+1<cLine)(ht:PA X es (C_ X L))(he:PE X e (tP X G))(cJ:bC [e]=true:=by rfl) (gs:(b8.endLine==dI.line)=true:=by rfl):
  PE X (.Call (.Attribute (.Tuple es x1 pos) "index" b8) [e] [] dI) (tP X λY=>(L Y).bind λts=>if ts.length<=dZ then(G Y).bind (wB ts)else .bad):=by
 intro U s Z H Q I ⟨B,Y,hb,r,q⟩;refine wpAny_Call_method_late (gL rfl) (by rw[jI cJ];rfl) gs rfl (wpAny_Tuple_spliced (eN (ht pos U s Z H _ I ⟨B,Y,hb,r,q.bind.mono λts g vs H1 s1 r1=>(⟨ts,g,s1,r1⟩:∃ts,Fi X H (if ts.length<=dZ then(G Y).bind (wB ts)else .bad) _/\bo H H1/\bQ X.K (cn B H1) vs ts)⟩) λus s1 ⟨xs,H1,S,rv,ts,g,sm,r1⟩=>?_));by_cases hz:ts.length<=dZ
 ·rw[aY hz]at g;have Z_:us.length<=sizeLine:=by rw[<-rv.length,r1.length,<-je];exact hz
  refine⟨Z_,?_⟩;have hf:H1 s1.heap.objs.size=none:=S.cW.fresh (bA _);have l:=cz s1.heap (o:={cls:=.type "tuple",data:=.seq us.toArray}) rfl;have I2:Inv X U Z (upd H1 s1.heap.objs.size (.tup xs)) {s1 with heap:=s1.heap.push {cls:=.type "tuple",data:=.seq us.toArray}}:=S.laid (t':=s1.toks) (λb u e=>bS _ e) (bA _) ⟨by rw[rv.length];exact Z_,us,rv,⟨_,l,rfl,_,rfl⟩⟩;have s2:bo H (upd H1 s1.heap.objs.size (.tup xs)):=sm.trans (bo.upd hf);have rt:Rep X.K (cn B (upd H1 s1.heap.objs.size (.tup xs))) (.ref s1.heap.objs.size) (.tup ts):=.tup (.inl (.inl ((hb.same sm).new hf))) (r1.same (bL (bo.upd hf)));refine⟨"tuple","tuple.index",PySem.F.plainAttrs_tuple,xk,PySem.F.type_tuple_index,⟨_,l,rfl⟩,λa ea=>by cases ea;exact⟨_,l,rfl⟩,?_⟩;have hA:=(Bk he GK (bt cJ).1) dI U _ Z _ (λvs H3=>rTI X (.ref s1.heap.objs.size) vs H3 Q) I2 ⟨B,Y,hb.same s2,r.same s2,(XY (B:=B) s2 (Fi.bind g)).mono λzs ⟨x,ez,qx⟩ ws H3 s3 r3=>by
   subst ez;obtain⟨y,rfl,ry⟩:=gw r3;exact⟨B,ts,_,x,hb.same (s2.trans s3),rt.same (bL s3),rfl,ry,(Fi.same qx (s2.trans s3)).mono λt k v n s4 M=>k v n ((s2.trans s3).trans s4) M⟩⟩
  rw[bO _ _ (bt cJ).1]at hA⊢;refine nO (by show(false||(backTo dI (starEach [] X.env)).any (·.1))=false;rw[cS (es:=[]) rfl];rfl) (nR ?_);exact eN hA λus s4 ⟨vs,n,I4,M,q4⟩=>LB hu U s4 Z n (.ref s1.heap.objs.size) vs _ us Q I4 rfl M q4
 ·rw[bc hz]at g;exact fe g
noncomputable def X1:List Tr->Rs Tr
 |[.int i]=>.ok (.int i)
 |[.bl b]=>.ok (.int (if b then 1 else 0))
 |_=>.bad
theorem X2:lW X (.type "int") X1:=by
 intro U s Z H xs us Q I b ⟨B,ts,hb,r,q⟩;unfold X1 at q;split at q
 ·obtain⟨x,e,r⟩:=gw r;exact zT U s Z H _ us Q I b (.inl ⟨_,by rw[e,r.int_inv],q _ H (bo.refl H) (.int _)⟩)
 ·obtain⟨x,e,r⟩:=gw r;exact zT U s Z H _ us Q I b (.inr ⟨_,by rw[e,r.ym],q _ H (bo.refl H) (.int _)⟩)
 ·exact q.elim
variable {c m:Str}{st:Stmt}{f:Addr}{fd:FuncData}{k:Nat}
end
structure MethAt(K:Frag)(c m:Str)(st:Stmt)(ps:List Str)(f:Addr)(fd:FuncData):Prop where
 fn:∃qual,zt K m qual st f fd
 bd:Binds K fd ps []
 mt:Meth K (clsAt K c) m f
 cl:EW K (clsAt K c)
def EI(fs:List (Str×Tr))(m:Str):Bool:=(fs.lookup m).isNone
theorem n6{W:Vw}(f:Str):∀{iy:List (Str×V)} {fs:List (Str×Tr)},iy.map (·.1)=fs.map (·.1)->bQ K W (iy.map (·.2)) (fs.map (·.2))->(fs.lookup f=none/\iy.lookup f=none)\/∃t v,fs.lookup f=some t/\iy.lookup f=some v/\Rep K W v t
 |[],[],_,_=>.inl ⟨rfl,rfl⟩
 |[],_::_,e,_=>by cases e
 |_::_,[],e,_=>by cases e
 |(k1,v1)::iy,(k2,b)::fs,e,r=>by
  rw[bB,bB]at e;injection e with g l
  have n:k1=k2:=g;subst n;cases r with
  |cons I r=>
   by_cases z:f=k1
   ·subst z;exact .inr ⟨b,v1,by rw[cQ,bU],by rw[cQ,bU],I⟩
   ·rw[cQ,km z,cQ,km z];exact n6 f l r
section
variable {dI:Pos}{m:Str}{fd:FuncData}{k:Nat}
def wa(av m:Str)(h:List Tr->Rs Tr)(r:Rs Tr)(l:Rs (List Tr)):Rs Tr:=r.bind λt=>match t with
 |.ob x fs=>if x=av/\EI fs m=true then l.bind λts=>h (.ob x fs::ts)else .bad
 |_=>.bad
def BD{W:Vw}{iy:List (Str×V)}(e:iy.map (·.1)=bE.map (·.1))(r:bQ K W (iy.map (·.2)) (bE.map (·.2)))(hm:EI bE m=true):iy.lookup m=none:=by
 rcases n6 m e r with⟨_,z⟩|⟨t,v,z,_⟩
 ·exact z
 ·unfold EI at hm;rw[z]at hm;cases hm
theorem TC(D:MethAt X.K av m ai ps au fd)(G:eI X.prog X.w X.K X.mg X.base mH k au fd ps (spT X.K h))(hr:dk k X.A)(ho:PE X o (tP X F))(ha:PA X (e::aA) (C_ X L)){pl:Sem Bool}(cJ:bC (e::aA)=true:=by rfl)
  (ht:eval (.Call (.Attribute o m b8) (e::aA) [] pos) X.env=ud pos b8 o m (e::aA) X.env pl:=by rfl):PE X (.Call (.Attribute o m b8) (e::aA) [] pos) (tP X λY=>wa av m h (F Y) (L Y)):=
 (Gw (pl:=pl) ho D.cl D.mt G hr D.bd .nil KI ha (cJ:=bO _ _ (bt cJ).1) (oY:=cS (bt cJ).2) ht).weak λZ H Q ⟨B,Y,hb,r,q⟩=>⟨B,Y,hb,r,q.bind.mono λt g v H1 s1 I=>by
  split at g
  ·rename_i x fs;obtain⟨a,dx,iy,rfl,l,n,rr⟩:=I.Bj;split at g
   ·rename_i z;obtain⟨rfl,hm⟩:=z;refine⟨a,dx,iy,rfl,eB l,BD n rr hm,B,Y,hb.same s1,r.same s1,(Fi.same (Fi.bind g) s1).mono λts b vs H2 s2 M=>?_⟩;cases e:h (.ob x fs::ts)with
    |ok t=>
     rw[e]at b;exact⟨B,.ob x fs::ts,hb.same (s1.trans s2),by
      show bQ X.K (cn B H2) (V.ref a::(vs++[])) (.ob x fs::ts);rw[kj];exact .cons ((Rep.ob l n rr).same (bL s2)) M,t,e,λv S s3 r3=>b v S ((s1.trans s2).trans s3) r3⟩
    |exc av=>rw[e]at b;exact(b _ (bo.refl _)).elim
    |bad=>rw[e]at b;exact fe b
   ·exact g.elim
  ·exact g.elim⟩
theorem OV(D:MethAt X.K av m ai ps au fd)(G:eI X.prog X.w X.K X.mg X.base mH k au fd ps (spT X.K h))(hr:dk k X.A)(ho:PE X o (tP X F)){pl:Sem Bool}
  (ht:eval (.Call (.Attribute o m b8) [] [] pos) X.env=ud pos b8 o m [] X.env pl:=by rfl):PE X (.Call (.Attribute o m b8) [] [] pos) (tP X λY=>wa av m h (F Y) (.ok [])):=
 (CT (pl:=pl) ho D.cl D.mt G hr D.bd .nil KI ht).weak λZ H Q ⟨B,Y,hb,r,q⟩=>⟨B,Y,hb,r,q.bind.mono λt g v H1 s1 I=>by
  split at g
  ·rename_i x fs;obtain⟨a,dx,iy,rfl,l,n,rr⟩:=I.Bj;split at g
   ·rename_i z;have b:Fi X H (h [.ob x fs]) _:=g;obtain⟨rfl,hm⟩:=z;refine⟨a,dx,iy,rfl,eB l,BD n rr hm,?_⟩;cases e:h [.ob x fs]with
    |ok t=>
     rw[e]at b;exact⟨B,[.ob x fs],hb.same s1,.cons (.ob l n rr) .nil,t,e,λv L s3 M=>b v L (s1.trans s3) M⟩
    |exc av=>rw[e]at b;exact(b _ (bo.refl _)).elim
    |bad=>rw[e]at b;exact fe b
   ·exact g.elim
  ·exact g.elim⟩
end
def xcZ(K:Frag)(B:fw)(H:Hp)(E:XK):Tr->Ab->Prop:=λc A=>∀B' H',Grows B H B' H'->HA K B' A H'->E (W8 K c) none H'
inductive wb(K:Frag)(f:List Tr->Ab->Rz Tr)(vs:List V)(H:Hp)(Q:VK)(E:XK):Prop
 |mk (B:fw) (A:Ab) (ts:List Tr):HA K B A H->bQ K (cn B H) vs ts->(g6 (xcZ K B H E) (f ts A) fun t A'=>∀v B' H',Grows B H B' H'->HA K B' A' H'->Rep K (cn B' H') v t->Q v H')->wb K f vs H Q E
theorem eI.toZ {base:Heap}{k:Nat}{f:Addr}{fd:FuncData}(F:eI P w K mg base mH k f fd ps (spT K h)):eI P w K mg base (vt P w) k f fd ps (wb K λts A=>gS (h ts) A):=by
 have key:∀{vs:List V} {H:Hp} {Q:VK} {E:XK},wb K (λts A=>gS (h ts) A) vs H Q E->∀E',spT K h vs H Q E':=λ{vs H Q E} ⟨B,A,ts,ha,r,q⟩ E'=>by
  have q:g6 (xcZ K B H E) (gS (h ts) A) _:=q;cases e:h ts with
  |ok t=>rw[e]at q;exact⟨B,ts,ha.hb,r,t,e,λv H' s b=>q v B H' (.of s) (ha.same s) b⟩
  |_=>rw[e]at q;exact fe q
 refine⟨λvs H Q E q=>F.len vs H Q E (key q E),λA outer s H args us vs Q E g l hb n q=>?_⟩;refine iO (F.run A outer s H args us vs Q E g l hb n (key q E)) λr s' z=>?_
 cases r with
 |error e=>exact fe z
 |ok fl=>
  cases fl with
  |_=>exact z
def cI(r:Rz Out):Rz Tr:=r.bind λo A=>match o with
 |.nx _=>.ok .cA A
 |.ret t=>.ok t A
 |_=>.bad
def zt.okS {base:Heap}{qual:Str}{st:Stmt}{f:Addr}{fd:FuncData}{N:List Str}{k:Nat}{h:List Tr->Ab->Rz Tr}(Fn:zt K x qual st f fd)(S:hX N ps (bI st))(len:∀ts A,h ts A≠ .bad->ts.length=ps.length)
  (kZ:∀(gn:Value) (A:Around) (outer:List Env) (s:Shared) (H:Hp) (E:XK),dk k (A.deeper (envOfC qual (bI st) s.heap.objs.size f gn))->
   ∃G,o6 (oZ (vt P w) P w K mg base N qual (bI st) f gn A outer s H E) (gc st) (tZ (oZ (vt P w) P w K mg base N qual (bI st) f gn A outer s H E) G)/\∀ts A,h ts A≠ .bad->h ts A=cI (G (startT N.length ts) A)):eI P w K mg base (vt P w) (k+1) f fd ps (wb K h):=by
 obtain⟨oc,od,kV,doc,pm,an,gn,ct,Ks,rfl,lk,n⟩:=Fn.ex;have nb:∀{B:fw} {A:Ab} {H:Hp} {E:XK} {ts:List Tr} {k:Tr->Ab->Prop},g6 (xcZ K B H E) (h ts A) k->h ts A≠ .bad:=λ{B A H E ts k} q z=>by rw[z]at q;exact q
 refine Qp lk n S (λvs H Q E ⟨B,A,ts,ha,r,q⟩=>by rw[r.length];exact len ts A (nb q)) λA outer s H vs Q E I ⟨B,A1,ts,ha,r,q⟩=>?_
 obtain⟨G,L,M⟩:=kZ gn A outer s H E I;refine⟨_,L,B,H,B,A1,startT N.length ts,ha.hb,.refl,ha,cK.start r,yA,?_⟩;rw[M ts A1 (nb q)]at q;refine(g6.bind q).imp (λc A2 z B' H' g b e s x=>K8 x (z B' H' g b))|>.mono λo A2 z=>?_
 cases o with
 |nx Y=>exact λdB B' H' g b l n'=>z .cA B' H' g b .cA
 |ret t=>exact λv B' H' g b l=>z v B' H' g b l
 |_=>exact fe z
def fb(n m:Nat)(G:bX->Ab->Rz Out)(ts:List Tr)(A:Ab):Rz Tr:=if ts.length=n then cI (G (startT m ts) A)else .bad
def DO{n:Nat}{A:Ab}(h:fb n i aK ts A≠ .bad):ts.length=n:=by
 unfold fb at h;by_cases z:ts.length=n
 ·exact z
 ·rw[bc z]at h;exact absurd rfl h
def OW{A:Ab}(h:fb i az aK ts A≠ .bad):fb i az aK ts A=cI (aK (startT az ts) A):=by
 unfold fb;rw[aY (DO h)]
section
variable {h:List Tr->Ab->Rz Tr}{fd:FuncData}{k:Nat}
def FD{B1:fw}{A1:Ab}{Q:VK}(hb:HB B H)(g:Grows B H B1 ac)(ha:HA X.K B1 A1 ac)(r:bQ X.K (cn B1 ac) ar ts)(q:g6 (XE X B H) (h ts A1) λt A'=>∀v B' H',Grows B H B' H'->HA X.K B' A' H'->Rep X.K (cn B' H') v t->Q v H'):wb X.K h ar ac Q (EX X):=
 ⟨B1,A1,ts,ha,r,(q.imp λc A' z=>z.grow hb g).mono λt A' z v B' H' g' b l=>z v B' H' (g.trans hb g') b l⟩
theorem X3(D:z5 X.K X.mg x ai ps au fd)(G:eI X.prog X.w X.K X.mg X.base (vt X.prog X.w) k au fd ps (wb X.K h))(hr:dk k X.A)(ha:PA X (e::aA) (Nm X aH))(hx:X.ex=[]:=by rfl) (hg:Gl X x:=by rfl) (fQ:Db x:=by decide) (cJ:bC (e::aA)=true:=by rfl):
  PE X (.Call (.Name x p) (e::aA) [] pos) (tE X λY A=>(aH Y A).bind h):=
 (Gv (p:=p) (pos:=pos) G hr hg D.mg D.fn.kp D.bd .nil (ng hx) ha (fQ:=fQ) (he:=bO _ _ (bt cJ).1) (oY:=cS (bt cJ).2)).weak λZ H Q ⟨B,A,Y,ha,r,n,q⟩=>⟨B,A,Y,ha,r,n,q.bind.mono λts A1 b vs B1 H1 g1 g l=>by
  show wb X.K h (vs++[]) H1 Q (EX X);rw[kj];exact FD ha.hb g1 g l b⟩
variable {c m:Str}
def uH(c m:Str)(h:List Tr->Ab->Rz Tr)(r:Rz Tr)(l:Ab->Rz (List Tr)):Rz Tr:=r.bind λt A=>match t with
 |.at i=>match A[i]? with
  |some (.ins x fs)=>if x=c/\EI fs m=true then(l A).bind λts A=>h (.at i::ts) A else .bad
  |_=>.bad
 |_=>.bad
def Hk{A:Ab}(q:HA K B A H)(rM:B.ix a=some i)(e:A[i]?=some (.ins x bE))(hm:EI bE m=true):∃dx iy,H a=some (.ins (clsAt K x) dx iy)/\iy.lookup m=none:=by
 obtain⟨_,dx,iy,h1,_,_,b,g⟩:=q.get rM e;refine⟨dx,iy,h1,?_⟩;rcases n6 m b g with⟨_,z⟩|⟨t,v,z,_⟩
 ·exact z
 ·unfold EI at hm;rw[z]at hm;cases hm
theorem TF(D:MethAt X.K c m ai ps au fd)(G:eI X.prog X.w X.K X.mg X.base (vt X.prog X.w) k au fd ps (wb X.K h))(hr:dk k X.A)(ho:PE X o (tE X aI))(ha:PA X (e::aA) (Nm X aH)){pl:Sem Bool}(hx:X.ex=[]:=by rfl) (cJ:bC (e::aA)=true:=by rfl)
  (ht:eval (.Call (.Attribute o m b8) (e::aA) [] pos) X.env=ud pos b8 o m (e::aA) X.env pl:=by rfl):PE X (.Call (.Attribute o m b8) (e::aA) [] pos) (tE X λY A=>uH c m h (aI Y A) (aH Y)):=
 (Gw (pl:=pl) ho D.cl D.mt G hr D.bd .nil (ng hx) ha (cJ:=bO _ _ (bt cJ).1) (oY:=cS (bt cJ).2) ht).weak λZ H Q ⟨B,A,Y,ha,r,n,q⟩=>⟨B,A,Y,ha,r,n,q.bind.mono λt A1 b v B1 H1 g1 g I=>by
  split at b
  ·obtain⟨a,rfl,l⟩:=I.nX;split at b
   ·rename_i L;obtain⟨⟨rfl,hm⟩,M⟩:=iz b;obtain⟨dx,iy,k1,k2⟩:=Hk g l L hm;refine⟨a,dx,iy,rfl,k1,k2,B1,A1,Y,g,r.grow n g1,n,((g6.bind M).imp λc A' z=>z.grow ha.hb g1).mono λts A2 S vs B2 H2 g2 qe rs=>?_⟩;show wb X.K h (.ref a::(vs++[])) H2 Q (EX X);rw[kj];exact FD ha.hb (g1.trans ha.hb g2) qe (.cons (.at (g2.jR.x _ _ l)) rs) S
   ·exact b.elim
  ·exact b.elim⟩
theorem OX(D:MethAt X.K c m ai ps au fd)(G:eI X.prog X.w X.K X.mg X.base (vt X.prog X.w) k au fd ps (wb X.K h))(hr:dk k X.A)(ho:PE X o (tE X aI)){pl:Sem Bool}(hx:X.ex=[]:=by rfl)
  (ht:eval (.Call (.Attribute o m b8) [] [] pos) X.env=ud pos b8 o m [] X.env pl:=by rfl):PE X (.Call (.Attribute o m b8) [] [] pos) (tE X λY A=>uH c m h (aI Y A) λA=>.ok [] A):=
 (CT (pl:=pl) ho D.cl D.mt G hr D.bd .nil (ng hx) ht).weak λZ H Q ⟨B,A,Y,ha,r,n,q⟩=>⟨B,A,Y,ha,r,n,q.bind.mono λt A1 b v B1 H1 g1 g I=>by
  split at b
  ·obtain⟨a,rfl,l⟩:=I.nX;split at b
   ·rename_i L;obtain⟨⟨rfl,hm⟩,M⟩:=iz b;obtain⟨dx,iy,k1,k2⟩:=Hk g l L hm;refine⟨a,dx,iy,rfl,k1,k2,?_⟩;show wb X.K h [.ref a] H1 Q (EX X);exact FD ha.hb g1 g (.cons (.at l) .nil) M
   ·exact b.elim
  ·exact b.elim⟩
end
noncomputable abbrev bmV:List Value:=[.type "ValueError",.type "Exception",.type "BaseException",.type "object"]
structure rZ(K:Frag)(mg:Str->Option Value)(x:Str):Prop where
 mg:mg x=some (.ref (clsAt K x))
 ex:PySem.W.excIn K (clsAt K x) bmV "ValueError.__new__"=true
def OY{h:Heap}{C:Addr}(X:K.In h)(q:PySem.W.excIn K C aq ay=true):
  ∃bm N nm qn bs hd sn sub ab col dd k0 k1 k2 k3 k5 mN,h.get? C=some (excClassObj nm qn C N bs bm hd sn sub ab col dd k0 k1 k2 k3 k5 ay)/\h.Ns N mN/\mN "__init__"=none/\OwnTail h aq bm:=by
 unfold PySem.W.excIn at q;split at q
 ·rename_i L cd sl M;split at q
  ·rename_i C2 bm S j1 j2 j3 n j5 hm hs;simp only[bY,fu,pv]at q;obtain⟨⟨⟨⟨⟨e1,e2⟩,e3⟩,e4⟩,e5⟩,e6⟩:=q;subst e1 e2;obtain⟨nm,bs,mro,ns,qn,hd,sn,sub,ab,col,del⟩:=cd;have g:mro=_:=hm;have Vg:del=false:=e3;have b:PySem.W.nsOkIn K ns=true:=e5;have r:PySem.W.nsIn K ns "__init__"=some none:=e6;subst g Vg;obtain⟨l⟩:=sl;have I:l=_:=hs;subst I;exact⟨bm,ns,nm,qn,bs,hd,sn,sub,ab,col,L,S,j1,j2,j3,j5,_,X _ _ M,.of_isNs (PySem.W.isNs_of_in X b),PySem.W.nsMap_none_of_in X b r,PySem.W.tail_of_in X e4⟩
  ·cases q
 ·cases q
section
variable {np:Pos}
def FE(x:Str)(l:Rz (List Tr)):Rz Out:=l.bind λts A=>if ts.length<=dZ then .exc (.str x) A else .bad
theorem OZ(D:rZ X.K X.mg x)(ha:PA X (e::aA) (Nm X aH))(hx:X.ex=[]:=by rfl) (hc:X.calm=true:=by rfl) (hg:Gl X x:=by rfl) (fQ:Db x:=by decide) (cJ:bC (e::aA)=true:=by rfl):
  PS X (.Raise (some (.Call (.Name x np) (e::aA) [] b8)) none pos) (tZ X λY A=>FE x (aH Y A)):=by
 intro U s Z H D' I ⟨B0,H0,B,A,Y,hb,g,hA,r,n,q⟩;obtain⟨bm,N,nm,qn,bs,hd,sn,sub,ab,col,dd,k0,k1,k2,k3,k5,mN,hC,hN,M,T⟩:=OY (h:=X.base) I.ok.mod.Qf D.ex;have X4:starEach (e::aA) X.env=(false,eval e X.env)::starEach aA X.env:=bO _ _ (bt cJ).1;have oY:(backTo b8 (starEach aA X.env)).any (·.1)=false:=cS (bt cJ).2;refine wpAny_Raise_call_subU (C:=clsAt X.K x) (nm:=nm) (q:=qn) (N:=N) (bs:=bs) (bm:=bm) (hdct:=hd) (sn:=sn) (sub:=sub) (ab:=ab) (col:=col) (dd:=dd) (k0:=k0) (k1:=k1) (k2:=k2) (k3:=k3) (k5:=k5)
  CH (by decide+kernel) CH (mN:=mN) (T.hasType (by decide+kernel)) (I.ok.hd hc) (by rw[X4];show(false||(backTo b8 (starEach aA X.env)).any (·.1))=false;rw[oY];rfl) M
  (qV I hg D.mg ⟨rfl,?_⟩ fQ)
 have L:=ha b8 U s Z H (λvs H2=>vs.length<=sizeLine/\EX X (.ref (clsAt X.K x)) none H2) I ⟨B,A,Y,hA,r,n,((g6.bind q).imp λc A' z=>z.grow hb g).mono λts A2 qt vs B2 H2 g2 qe rs=>by
  obtain⟨S,q2⟩:=iz qt;exact⟨by rw[rs.length,<-je];exact S,(show XE X B0 H0 (.str x) A2 from q2) B2 H2 (g.trans hb g2) qe⟩⟩
 rw[X4]at L⊢;refine nR (eN L λus s2 ⟨vs,H2,l,rv,S,hE⟩=>⟨rfl,by rw[<-rv.length];exact S,l.bk _ _ hC,hN.keeps l.bk,T.keeps l.bk,λh' a hm=>hE _ _ ?_⟩);obtain⟨t,e1,e2,e3⟩:=hm.there;refine⟨a,U,Z,s2.heap,rfl,l.kept (t':=s2.toks) hm.keeps,⟨⟨_,_,_,e1,rfl,rfl,rfl,.inl rfl⟩,?_,hm.new⟩,λb n=>l.Du hx n,λp hp=>⟨_,(l.pin p (kg _ hp)).1⟩,λb nb=>by
  cases z:s2.heap.get? b with
  |none=>rfl
  |some o=>rw[hm.keeps b o z]at nb;cases nb⟩
 cases z:H2 a with
 |none=>rfl
 |some o=>
  obtain⟨u,e4⟩:=(l.cW a o z).get;rw[hm.new]at e4;cases e4
end
def Jk{env:Env}:swapsWith e (some (.Subscript o tg p)) az env=pure false:=by cases e<;>rfl
def Jl{f:Str}{env:Env}:swapsWith e (some (.Attribute o f p)) i env=pure false:=by cases e<;>rfl
noncomputable def Av(f:Str)(t:Tr):List (Str×Tr)->List (Str×Tr)
 |[]=>[(f,t)]
 |(g,x)::r=>if g=f then(g,t)::r else(g,x)::Av f t r
theorem DP{W:Vw}{f:Str}{v:V}{t:Tr}(q:Rep K W v t):∀{iy:List (Str×V)} {fs:List (Str×Tr)},iy.map (·.1)=fs.map (·.1)->bQ K W (iy.map (·.2)) (fs.map (·.2))->(m5 f v iy).map (·.1)=(Av f t fs).map (·.1)/\bQ K W ((m5 f v iy).map (·.2)) ((Av f t fs).map (·.2))
 |[],[],_,_=>⟨rfl,.cons q .nil⟩
 |[],_::_,e,_=>by cases e
 |_::_,[],e,_=>by cases e
 |(k1,v1)::iy,(k2,I)::fs,e,r=>by
  rw[bB,bB]at e;injection e with g b
  have l:k1=k2:=g;subst l;cases r with
  |cons n r=>
   unfold m5 Av;by_cases z:k1=f
   ·rw[aY z,aY z];exact⟨by rw[bB,bB,b],.cons q r⟩
   ·rw[bc z,bc z];obtain⟨p1,p2⟩:=DP q b r;exact⟨by rw[bB,bB,p1],.cons n p2⟩
def lookup_some{W:Vw}{iy:List (Str×V)}{t:Tr}(h:iy.map (·.1)=bE.map (·.1))(r:bQ K W (iy.map (·.2)) (bE.map (·.2)))(e:bE.lookup x=some t):∃v,iy.lookup x=some v/\Rep K W v t:=by
 rcases n6 x h r with⟨z,_⟩|⟨t',v,z,ev,rv⟩
 ·cases e.symm.trans z
 ·cases e.symm.trans z;exact⟨v,ev,rv⟩
structure ja(K:Frag)(xs:List Str)(f:Str):Prop where
 all:∀x∈xs,EW K (clsAt K x)/\sC K (clsAt K x) f
section
variable {f:Str}
def j_(ps:List Str)(f:Str):Tr->Rs Tr
 |.ob x fs=>if ps.contains x=true then lh (fs.lookup f)else .bad
 |_=>.bad
theorem TH(T:ja X.K ps f)(he:PE X e (tP X F))(hb:attributeBase e f X.env (eval e X.env)=eval e X.env:=by first|exact gL rfl|rfl):PE X (.Attribute e f pos) (tP X λY=>(F Y).bind (j_ ps f)):=
 (Kp he hb).weak λZ H Q ⟨B,Y,hb,r,q⟩=>⟨B,Y,hb,r,q.bind.mono λt b v H1 s1 rv=>by
  unfold j_ at b;split at b
  ·obtain⟨a,dx,iy,rfl,h,g,rr⟩:=rv.Bj;split at b
   ·rename_i l;obtain⟨t,n,k⟩:=gM b;have c:=T.all _ (eY.mp l);obtain⟨v,ev,rv⟩:=lookup_some g rr n;exact⟨a,_,dx,iy,v,rfl,eB h,c.1,c.2,ev,k v H1 s1 rv⟩
   ·exact b.elim
  ·exact b.elim⟩
def uI(ps:List Str)(f:Str)(r:Rz Tr):Rz Tr:=r.bind λt A=>match t with
 |.at i=>match A[i]? with
  |some (.ins x fs)=>if ps.contains x=true then gS (lh (fs.lookup f)) A else .bad
  |_=>.bad
 |_=>.bad
theorem TJ(T:ja X.K ps f)(he:PE X e (tE X aJ))(hb:attributeBase e f X.env (eval e X.env)=eval e X.env:=by first|exact gL rfl|rfl):PE X (.Attribute e f pos) (tE X λY A=>uI ps f (aJ Y A)):=
 (Kp he hb).weak λZ H Q ⟨B,A,Y,ha,r,n,q⟩=>⟨B,A,Y,ha,r,n,q.bind.mono λt A1 b v B1 H1 g1 g rv=>by
  split at b
  ·obtain⟨a,rfl,l⟩:=rv.nX;split at b
   ·rename_i I;obtain⟨L,M⟩:=iz b;obtain⟨_,dx,iy,h1,_,_,S,h5⟩:=g.get l I;have c:=T.all _ (eY.mp L);obtain⟨t,et,k⟩:=gM (nh (X:=X) (H:=H1) M);obtain⟨v,ev,rv⟩:=lookup_some S h5 et;exact⟨a,_,dx,iy,v,rfl,h1,c.1,c.2,ev,k v B1 H1 g1 g rv⟩
   ·exact b.elim
  ·exact b.elim⟩
def X5(ps:List Str)(f:Str)(v:Rz Tr)(o:Ab->Rz Tr)(Y:bX):Rz Out:=v.bind λtv A=>(o A).bind λt A=>match t with
 |.at i=>match A[i]? with
  |some (.ins x fs)=>if ps.contains x=true/\fs.length<1000 then .ok (.nx Y) (A.set i (.ins x (Av f tv fs)))else .bad
  |_=>.bad
 |_=>.bad
theorem X6(T:ja X.K ps f)(ho:PE X o (tE X aJ))(hv:PE X tg (tE X aI)):PS X (.Assign [.Attribute o f p] tg pos) (tZ X λY A=>X5 ps f (aI Y A) (aJ Y) Y):=
 (RT ho hv Jl).weak λD Z H ⟨B0,H0,B,A,Y,hb,g,ha,r,n,q⟩=>qd hb g ha r n q.bind λtv A1 v B1 H1 q1 g1 nL r1 rv _=>qd hb g1 nL r1 n (g6.bind q1) λt A2 w B2 H2 b g2 S r2 pT l=>by
  split at b
  ·obtain⟨a,rfl,I⟩:=pT.nX;split at b
   ·rename_i i _ x fs eo;obtain⟨⟨hx,hl⟩,q3⟩:=iz b;obtain⟨hd,dx,iy,h1,h2,L,h4,h5⟩:=S.get I eo;have c:=T.all x (eY.mp hx);have b9:iy.length=fs.length:=by have:=cV List.length h4;rw[bu,bu]at this;exact this
    obtain⟨p1,p2⟩:=DP (f:=f) (rv.same l.jR) h4 h5;have M:dx≠a:=λz=>by rw[z,show B2.ix a=some i from I]at L;cases L
    obtain⟨g3,h6⟩:=S.write (o:=.ins x (Av f tv fs)) (u:=.ins (clsAt X.K x) dx (m5 f v iy)) I ⟨hd,dx,_,bP,by rw[bq M];exact h2,L,p1,by rw[jx hd];exact p2⟩;exact⟨a,_,dx,iy,rfl,h1,c.1,c.2,by rw[b9];exact hl,q3 Z B2 _ (g2.trans hb g3) h6 (r2.grow n g3) n⟩
   ·exact b.elim
  ·exact b.elim
end
def O0{xc:Tr->Ab->Prop}{r:Rs Tr}{A:Ab}{k:Tr->Ab->Prop}(q:g6 xc (vZ r A) k):Fi X H r λt=>JX t=true/\k t A:=by
 cases r with
 |ok t=>exact iz q
 |exc c=>exact fe q
 |bad=>exact q
section
variable {a b i:Expr}{E:bX->Ab->Rz Tr}{h:Tr->Tr->Rs Tr}
def O1(h:Tr->Tr->Rs Tr)(a:Rz Tr)(b:Ab->Rz Tr):Rz Tr:=a.bind λx A=>(b A).bind λy A=>vZ (h (aZ 1 A x) (aZ 1 A y)) A
def Jm{Q:VK}(q:tE X (λY A=>O1 h (aI Y A) (aJ Y)) Z H Q):RK (rT X h) (tE X aI) (tE X aJ) Z H Q:=by
 obtain⟨B,A,Y,ha,r,n,q⟩:=q;refine⟨B,A,Y,ha,r,n,q.bind.mono λx A1 g v B1 H1 g1 l I=>⟨B1,A1,Y,l,r.grow n g1,n,((g6.bind g).imp λc A' z=>z.grow ha.hb g1).mono λy A2 L u B2 H2 g2 b M=>?_⟩⟩;refine⟨B2.un,aZ 1 A2 x,aZ 1 A2 y,Ds b.hb,jK b 1 (I.same g2.jR),jK b 1 M,(O0 L).mono λt ⟨S,k⟩ w H3 s3 pT=>?_⟩;exact k w B2 H3 ((g1.trans ha.hb g2).trans ha.hb (.of s3)) (b.same s3) (Aj (b.same s3) pT S)
def aa9(hu:X.A.units+1<cLine)(h1:PE X a (tE X aI))(h2:PE X b (tE X aJ))(hs:um b:=by exact λ_ _=>rfl):PE X (.Subscript a b pos) (tE X λY A=>O1 lj (aI Y A) (aJ Y)):=(Qq (WX hu) h1 h2 hs).weak λ_ _ _ q=>Jm q
def DQ(A:Ab)(t q tv:Tr):Option Ab:=match t,ko q with
 |.at i,some k=>match A[i]? with
  |some (.bW bE)=>if bE.length<dZ then some (A.set i (.bW (ll bE k tv)))else none
  |_=>none
 |_,_=>none
def TK(v:Rz Tr)(o k:Ab->Rz Tr)(Y:bX):Rz Out:=v.bind λtv A=>(o A).bind λt A=>(k A).bind λb A=>match DQ A t b tv with
 |some A'=>.ok (.nx Y) A'
 |none=>.bad
theorem d6.length {W:Vw}{kvs:List (Key×V)}{bE:List (Key×Tr)}(h:d6 K W kvs bE):kvs.length=bE.length:=by
 have e:=cV List.length h.keys;rw[bu,bu]at e;exact e
def FF{A A':Ab}{tk tv:Tr}(e:DQ A aC tk tv=some A'):∃j bE key,aC=.at j/\ko tk=some key/\A[j]?=some (.bW bE)/\bE.length<dZ/\A'=A.set j (.bW (ll bE key tv)):=by
 unfold DQ at e;split at e
 ·rename_i b;split at e
  ·rename_i g;split at e
   ·rename_i l;cases e;exact⟨_,_,_,rfl,b,g,l,rfl⟩
   ·cases e
  ·cases e
 ·cases e
theorem TL(hu:X.A.units+1<cLine)(ho:PE X o (tE X aI))(hi:PE X i (tE X aJ))(hv:PE X tg (tE X E)):
  PS X (.Assign [.Subscript o i p] tg pos) (tZ X λY A=>TK (E Y A) (aI Y) (aJ Y) Y):=
 (N0 hu ho hi hv Jk).weak λD Z H ⟨B0,H0,B,A,Y,hb,g,ha,r,n,q⟩=>qd hb g ha r n q.bind λtv A1 v B1 H1 q1 g1 nL r1 rv _=>qd hb g1 nL r1 n (g6.bind q1) λt A2 w B2 H2 q2 g2 qe r2 pT l=>qd hb g2 qe r2 n (g6.bind q2) λtk A3 y B3 H3 I g3 S r3 ry b=>by
  have L:=pT.same b.jR;have M:=(rv.same l.jR).same b.jR;split at I
  ·rename_i ed;obtain⟨j,bE,key,rfl,ek,eo,hl,rfl⟩:=FF ed;obtain⟨c,rfl,rM⟩:=L.nX;obtain⟨hd,kvs,h1,h2⟩:=S.get rM eo;cases nY ry ek;obtain⟨g4,h6⟩:=S.write (o:=.bW (ll bE key tv)) (u:=.dK (putK kvs key v)) rM ⟨hd,_,bP,by rw[jx hd];exact h2.put key M⟩;exact⟨c,_,rfl,E4.k h1 (by rw[h2.length,<-je];exact hl),I Z B3 _ (g3.trans hb g4) h6 (r3.grow n g4) n⟩
  ·exact I.elim
end
noncomputable def iT(bE:List (Key×Tr))(k:Key):List (Key×Tr):=bE.filter λb=>decide (b.1≠k)
theorem d6.drop {W:Vw}(k:Key):∀{kvs:List (Key×V)} {bE:List (Key×Tr)},d6 K W kvs bE->d6 K W (rQ kvs k) (iT bE k)
 |[],[],_=>.nil
 |[],_::_,h=>by cases h.keys
 |_::_,[],h=>by cases h.keys
 |(k1,v1)::kvs,bE,h=>by
  obtain⟨t,r,rfl,rv,g⟩:=h.inv;have b:=d6.drop k g;unfold rQ iT at b⊢;by_cases z:k1=k
  ·rw[ke (by simp[z]),ke (by simp[z])];exact b
  ·rw[lN (by simp[z]),lN (by simp[z])];exact .cons rv b
def nr(A:Ab)(i:Nat):Bool:=match A[i]? with
 |some (.bW _)=>true
 |_=>false
def rg{A:Ab}(q:HA K B A H)(e:B.ix a=some i)(h:nr A i=true):∃bE kvs,A[i]?=some (.bW bE)/\B.hd a=true/\H a=some (.dK kvs)/\d6 K (cn B H) kvs bE:=by
 obtain⟨o,b,g⟩:=q.ex e;unfold nr at h;rw[b]at h;cases o with
 |bW bE=>obtain⟨hd,kvs,h1,h2⟩:=g;exact⟨bE,kvs,b,hd,h1,h2⟩
 |_=>cases h
def dkZ{α:Type}(o:Rz Tr)(k:Ab->Rz Tr)(f:Nat->Key->Ab->Rz α):Rz α:=o.bind λt A=>match t with
 |.at i=>if nr A i=true then(k A).bind λb A=>match ko b with
  |some key=>f i key A
  |none=>.bad
  else .bad
 |_=>.bad
def o5(A:Ab)(i:Nat):List (Key×Tr):=match A[i]? with
 |some (.bW bE)=>bE
 |_=>[]
def LC(o:Rz Tr)(k:Ab->Rz Tr):Rz Tr:=dkZ o k λi key A=>if nr A i=true then match e_ (o5 A i) key with
 |some v=>.ok v (A.set i (.bW (iT (o5 A i) key)))
 |none=>.bad
 else .bad
section
variable {dI:Pos}{E:bX->Ab->Rz Tr}
def BE{A:Ab}{bE:List (Key×Tr)}(h:A[i]?=some (.bW bE)):o5 A i=bE:=by unfold o5;rw[h]
theorem TM(ho:PE X o (tE X aI))(he:PE X e (tE X aJ))(hb:isCall o=false:=by rfl) (cJ:bC [e]=true:=by rfl) (hl:(b8.endLine==dI.line)=true:=by rfl):PE X (.Call (.Attribute o "pop" b8) [e] [] dI) (tE X λY A=>LC (aI Y A) (aJ Y)):=
 (KD ho he (QL hb cJ hl)).weak λZ H Q ⟨B,A,Y,ha,r,n,q⟩=>⟨B,A,Y,ha,r,n,q.bind.mono λt A1 l v B1 H1 g1 L rv=>by
  split at l
  ·obtain⟨a,rfl,M⟩:=rv.nX;rename_i i;obtain⟨hd,q2⟩:=iz l;obtain⟨bE,kvs,e1,e2,e3,e4⟩:=rg L M hd;refine⟨a,rfl,.inl ⟨_,.inl e3⟩,B1,A1,Y,L,r.grow n g1,n,((g6.bind q2).imp λc A' z=>z.grow ha.hb g1).mono λtk A2 g y B2 H2 g2 S ry=>?_⟩;have BF:=g2.jR.x _ _ M;cases I:ko tk with
   |none=>simp only[I]at g;exact fe g
   |some key=>
    simp only[I]at g;obtain⟨hd2,b⟩:=iz g;obtain⟨TN,LD,f1,f2,f3,f4⟩:=rg S BF hd2;rw[BE f1]at b;have ey:=nY ry I;subst ey;rcases qZ key f4.keys f4.vals with⟨z,_⟩|⟨t,w,z,ev,pT⟩
    ·simp only[z]at b;exact fe b
    ·simp only[z]at b;obtain⟨g4,h6⟩:=S.write (o:=.bW (iT TN key)) (u:=.dK (rQ LD key)) BF ⟨f2,_,bP,by rw[jx f2];exact f4.drop key⟩;exact⟨LD,key,w,f3,rfl,ev,b w B2 _ ((g1.trans ha.hb g2).trans ha.hb g4) h6 (by rw[jx f2];exact pT)⟩
  ·exact l.elim⟩
def LF(o:Rz Tr)(k x:Ab->Rz Tr):Rz Tr:=dkZ o k λi key A=>(x A).bind λtx A=>if nr A i=true then match e_ (o5 A i) key with
 |some v=>.ok v (A.set i (.bW (iT (o5 A i) key)))
 |none=>.ok tx A
 else .bad
theorem TQ(ho:PE X o (tE X aI))(he:PE X e (tE X aJ))(hf:PE X tg (tE X E))(hb:isCall o=false:=by rfl) (cJ:bC [e,tg]=true:=by rfl) (hl:(b8.endLine==dI.line)=true:=by rfl):PE X (.Call (.Attribute o "pop" b8) [e,tg] [] dI) (tE X λY A=>LF (aI Y A) (aJ Y) (E Y)):=
 (KG ho he hf (QM hb cJ hl)).weak λZ H Q ⟨B,A,Y,ha,r,n,q⟩=>⟨B,A,Y,ha,r,n,q.bind.mono λt A1 M v B1 H1 g1 nL rv=>by
  split at M
  ·obtain⟨a,rfl,rM⟩:=rv.nX;rename_i i;obtain⟨hd,q2⟩:=iz M;obtain⟨bE,kvs,e1,e2,e3,e4⟩:=rg nL rM hd;refine⟨a,rfl,.inl ⟨_,.inl e3⟩,B1,A1,Y,nL,r.grow n g1,n,((g6.bind q2).imp λc A' z=>z.grow ha.hb g1).mono λtk A2 L y B2 H2 g2 qe ry=>?_⟩;have b:=g1.trans ha.hb g2;cases S:ko tk with
   |none=>simp only[S]at L;exact fe L
   |some key=>
    simp only[S]at L;refine⟨B2,A2,Y,qe,r.grow n b,n,((g6.bind L).imp λc A' z=>z.grow ha.hb b).mono λtx A3 qx z B3 H3 g3 Ha rz=>?_⟩;have X7:=g3.jR.x _ _ (g2.jR.x _ _ rM);obtain⟨hd3,g⟩:=iz qx;obtain⟨aba,X8,f1,f2,f3,f4⟩:=rg Ha X7 hd3;rw[BE f1]at g;have ey:=nY ry S;subst ey;refine⟨X8,key,f3,rfl,λw ev=>?_,λev=>?_⟩
    ·rcases qZ key f4.keys f4.vals with⟨_,l⟩|⟨t,w2,l,I,pT⟩
     ·rw[ev]at l;cases l
     ·rw[ev]at I;cases I;simp only[l]at g;obtain⟨g4,h6⟩:=Ha.write (o:=.bW (iT aba key)) (u:=.dK (rQ X8 key)) X7 ⟨f2,_,bP,by rw[jx f2];exact f4.drop key⟩;exact g w B3 _ ((b.trans ha.hb g3).trans ha.hb g4) h6 (by rw[jx f2];exact pT)
    ·rcases qZ key f4.keys f4.vals with⟨z1,_⟩|⟨t,w2,l,I,_⟩
     ·simp only[z1]at g;exact g z B3 H3 (b.trans ha.hb g3) Ha rz
     ·rw[ev]at I;cases I
  ·exact M.elim⟩
variable {c:Str}{h:List Tr->Ab->Rz Tr}{fa:Addr}{fd:FuncData}{k:Nat}
def yN(c:Str)(h:List Tr->Ab->Rz Tr)(l:Rz (List Tr)):Rz Tr:=l.bind λts A=>(h (.at A.length::ts) (A++[.ins c []])).bind λt A'=>if Z2 t=true then .ok (.at A.length) A' else .bad
structure yO(K:Frag)(mg:Str->Option Value)(c:Str)(ps:List Str)(fa:Addr)(fd:FuncData):Prop where
 X_:Mk K (clsAt K c) fa
 bd:Binds K fd ps []
 mg:mg c=some (.ref (clsAt K c))
def Hl{B1:fw}{A1:Ab}{vs:List V}{ts:List Tr}{Q:VK}(hb:HB B H)(g:Grows B H B1 ac)(ha:HA X.K B1 A1 ac)(rs:bQ X.K (cn B1 ac) vs ts)
  (q:g6 (XE X B H) ((h (.at A1.length::ts) (A1++[.ins c []])).bind λt A'=>if Z2 t=true then .ok (.at A1.length) A' else .bad) λt A'=>∀v B' H',Grows B H B' H'->HA X.K B' A' H'->Rep X.K (cn B' H') v t->Q v H')
  (x dx:Addr) (h1:ac x=none) (h2:ac dx=none) (h3:dx≠x):wb X.K h (.ref x::vs) (upd (upd ac dx (.own x)) x (.ins (clsAt X.K c) dx [])) (λv H2=>v=.cA/\Q (.ref x) H2) (EX X):=by
 have s1:bo ac (upd (upd ac dx (.own x)) x (.ins (clsAt X.K c) dx [])):=((bo.upd h2).trans (bo.upd (by rw[bq (Ne.symm h3)];exact h1)));obtain⟨g1,b⟩:=ha.push (p:=x) (o:=.ins c []) h1 s1 ⟨q_,dx,[],bP,by rw[bq h3,bP],by rw[iR h3];exact ha.free h2,rfl,.nil⟩;refine⟨_,_,_,b,.cons (.at iQ) (rs.same g1.jR),((g6.bind q).imp λc A' z=>z.grow hb (g.trans hb g1)).mono λt A' z v B' H' g' l n=>?_⟩;obtain⟨r,I⟩:=iz z;refine⟨?_,I (.ref x) B' H' ((g.trans hb g1).trans hb g') l (.at (g'.jR.x _ _ iQ))⟩;have e:=GY n;rw[r]at e;exact eR e
theorem TR(D:yO X.K X.mg c ps fa fd)(aJ:eI X.prog X.w X.K X.mg X.base (vt X.prog X.w) k fa fd ps (wb X.K h))(hr:dk (k+1) X.A)(ha:PA X (e::aA) (Nm X aH))(hx:X.ex=[]:=by rfl) (hg:Gl X c:=by rfl) (fQ:Db c:=by decide) (cJ:bC (e::aA)=true:=by rfl):
  PE X (.Call (.Name c p) (e::aA) [] pos) (tE X λY A=>yN c h (aH Y A)):=
 (NM (p:=p) (pos:=pos) D.X_ aJ hr hg D.mg D.bd .nil (ng hx) ha (fQ:=fQ) (he:=bO _ _ (bt cJ).1) (oY:=cS (bt cJ).2)).weak λZ H Q ⟨B,A,Y,ha,r,n,q⟩=>⟨B,A,Y,ha,r,n,q.bind.mono λts A1 b vs B1 H1 g1 g rs x dx l h2 I=>by
  show wb X.K h (.ref x::(vs++[])) _ _ _;rw[kj];exact Hl ha.hb g1 g rs b x dx l h2 I⟩
theorem O2(D:yO X.K X.mg c ps fa fd)(aJ:eI X.prog X.w X.K X.mg X.base (vt X.prog X.w) k fa fd ps (wb X.K h))(hr:dk (k+1) X.A)(hx:X.ex=[]:=by rfl) (hg:Gl X c:=by rfl) (fQ:Db c:=by decide):
  PE X (.Call (.Name c p) [] [] pos) (tE X λ_ A=>yN c h (.ok [] A)):=
 (Kr (p:=p) (pos:=pos) D.X_ aJ hr hg D.mg D.bd .nil (ng hx) (fQ:=fQ)).weak λZ H Q ⟨B,A,Y,ha,r,n,q⟩ x dx b h2 g=>Hl (vs:=[]) (ts:=[]) ha.hb .refl ha .nil q x dx b h2 g
end
def O3(ok:X.Ok):∀b∈X.fs,b∈j8 X.stack:=λb hb=>by
 rcases ok.Ni with e|⟨e,_⟩
 ·rw[e];exact hb
 ·rw[e];obtain⟨v,g,hf⟩:=lQ.mp hb;exact lQ.mpr ⟨v,cw _ g,hf⟩
def Inv.TU {h':Heap}{hs:List Addr}(I:Inv X U Z H s)(hx:X.ex=[])
  (kp:∀b o,b∉hs->b∉j8 X.stack->s.heap.get? b=some o->h'.get? b=some o) (sl:∀b o,b∈j8 X.stack->s.heap.get? b=some o->∃sl,h'.get? b=some {o with slots:=sl})
  (hn:∀b∈hs,H b=none/\X.gH.heap.get? b=none/\(∀p∈X.pn++U,p.1≠b)/\((∃o ws,s.heap.get? b=some o/\o.data=.fields ws)\/s.heap.get? b=none)):Inv X U Z H {s with heap:=h'}:=by
 have S:∀b:Addr,b∉X.ex:=λb=>by rw[hx];simp
 have any:∀b o,b∉hs->s.heap.get? b=some o->∃sl,h'.get? b=some {o with slots:=sl}:=λb o nb e=>by
  by_cases m:b∈j8 X.stack
  ·exact sl b o m e
  ·exact⟨o.slots,kp b o nb m e⟩
 have hsF:∀b o,s.heap.get? b=some o->(∀ws,o.data≠ .fields ws)->b∉hs:=λb o e d m=>by
  rcases(hn b m).2.2.2 with⟨o2,ws,g,d2⟩|g
  ·rw[e]at g;cases g;exact d ws d2
  ·rw[e]at g;cases g
 have cellK:∀c v,s.heap.IsCell c v->h'.IsCell c v:=λc v ⟨o,ho,hd⟩=>by
  obtain⟨s1,L⟩:=any c o (hsF c o ho λws z=>by rw[hd]at z;cases z) ho;exact⟨_,L,hd⟩
 have old:∀b o,X.gH.heap.get? b=some o->b∉hs:=λb o e m=>by rw[(hn b m).2.1]at e;cases e
 refine⟨I.ok,I.os,I.bare,⟨λb o e n hb _=>?_,λb o e n hb _=>?_,I.base.free,λb o e _=>?_,I.base.m4,I.base.lK,I.base.nU⟩,?_,λx c e=>?_,I.free,I.gq,λp hp=>?_,λb u e=>?_,I.len⟩
 ·refine kp b o (old b o e) (λm=>?_) (I.base.keep b o e n hb (S b));rcases bH.mp (I.xU b m)with z|z
  ·exact absurd (dc (bz e) I.ok.above) (by rw[z];exact eZ _)
  ·exact hb z
 ·obtain⟨s1,L⟩:=I.base.slot b o e n hb (S b);obtain⟨s2,g⟩:=sl b _ (O3 I.ok b hb) L;exact⟨s2,g⟩
 ·obtain⟨o1,L⟩:=I.base.there b o e (S b);obtain⟨s2,g⟩:=any b o1 (old b o e) L;exact⟨_,g⟩
 ·obtain⟨m,hm,hl⟩:=I.loc;refine⟨m,?_,λi x v L g e3=>?_⟩
  ·obtain⟨o,es,ep,ho,hd,r⟩:=hm;obtain⟨s1,L⟩:=any _ o (hsF _ o ho λws z=>by rw[hd]at z;cases z) ho;exact⟨_,es,ep,L,hd,r⟩
  ·obtain⟨u,r,l⟩:=hl i x v L g e3;refine⟨u,r,?_⟩;rcases l with l|⟨k,c,e,z⟩
   ·exact .inl l
   ·exact .inr ⟨k,c,e,cellK c _ z⟩
 ·obtain⟨v,z⟩:=I.cell x c e;exact⟨v,cellK c v z⟩
 ·obtain⟨e,n,ne,nf,d⟩:=I.pin p hp;refine⟨kp p.1 p.2 (λm=>(hn _ m).2.2.1 p hp rfl) (λm=>?_) e,n,ne,nf,d⟩;rcases bH.mp (I.xU _ m)with z|z
  ·exact ne z
  ·exact nf z
 ·refine(I.cW b u e).pQ (λc v M q=>kp c v (λm=>?_) (λm=>?_) q) (λ_ q=>q) λ_ _ q=>q
  ·have n:=(hn c m).1;rcases M with rfl|M
   ·rw[n]at e;cases e
   ·rw[n]at M;cases M
  ·have n:=I.wK c m;rcases M with rfl|M
   ·rw[n]at e;cases e
   ·rw[n]at M;cases M
def X'(h0:Heap)(H:Hp)(h:Heap)(a:Addr)(cls:Value):Prop:=∃b vs a0 T g ts,h.get? a=some b/\b.cls=cls/\b.data=.fields vs/\vs[0]?=some a0/\vs[1]?=some (.ref T)/\T≠a/\h0.get? T=none/\H T=none/\h.get? T=some g/\g.data=.fields ts/\ts[3]?=some .none
structure Nq(X:Cx)(h0:Heap)(Z:St)(H:Hp)(s:Shared)(a:Addr)(cls:Value):Prop where
 inv:Inv X [] Z H s
 G9:QV h0 H s.heap a cls
 old:∀b,h0.get? b=none->X.gH.heap.get? b=none
 pn:∀p∈X.pn,∃o,h0.get? p.1=some o
 gr:∀b,s.heap.get? b=none->h0.get? b=none
def XS.cau {cls e:Value}(x:XS X H cls e s):∃a Z h0,e=.ref a/\Nq X h0 Z H s a cls:=by
 obtain⟨a,U,Z,h0,rfl,I,G9,old,pn,gr⟩:=x;exact⟨a,Z,h0,rfl,I.kn (λp hp=>I.pin p (kg _ (by simpa using hp))),G9,old,pn,gr⟩
def Nq.step {h0:Heap}{cls a0:Value}{h':Heap}{hs:List Addr}(C:Nq X h0 Z H s a cls)(hx:X.ex=[])(ha:a∈hs)(q:∀b∈hs,H b=none/\h0.get? b=none/\∃o ws,s.heap.get? b=some o/\o.data=.fields ws)
  (k1:(PySem.W.hideAll s.heap (hs++j8 X.stack)).StaysIn h') (k4:∀b o,s.heap.get? b=some o->(∀ws,o.data≠ .fields ws)->∃sl,h'.get? b=some {o with slots:=sl})
  (k3:h'.TracedW (PySem.W.hideAll s.heap (hs++j8 X.stack)) a cls a0) (fr':∀b∈j8 X.stack,∃o,h'.get? b=some o/\∀ws,o.data≠ .fields ws):Nq X h0 Z H {s with heap:=h'} a cls/\X' h0 H h' a cls:=by
 have hk:=C.inv.stack;have Vn:∀L∈j8 X.stack,∃o,s.heap.get? L=some o/\∀ws,o.data≠ .fields ws:=λL hL=>(hk.mem hL).2;have gp:∀b,h0.get? b=none->∀p∈X.pn++[],p.1≠b:=λb n p hp z=>by
  obtain⟨o,e⟩:=C.pn p (by simpa using hp);rw[z,n]at e;cases e
 have kp:∀b o,b∉hs->b∉j8 X.stack->s.heap.get? b=some o->h'.get? b=some o:=λb o n1 n2 e=>k1 b o (mL _ e λm=>(dF.mp m).elim n1 n2);have sl:∀b o,b∈j8 X.stack->s.heap.get? b=some o->∃sl,h'.get? b=some {o with slots:=sl}:=λb o m e=>by
  obtain⟨o2,e2,d2⟩:=Vn b m;rw[e]at e2;cases e2;exact k4 b o e d2
 have tr:X' h0 H h' a cls:=by
  obtain⟨l,vs,T,oT,ts,r,⟨I,M⟩,S,q5,g,q7,q8,q9,q10⟩:=k3;have hTf:T∉j8 X.stack:=λm=>by
   obtain⟨o,e,d⟩:=fr' T m;rw[q8]at e;cases e;exact d ts q9
  have key:h0.get? T=none/\H T=none:=by
   by_cases m:T∈hs
   ·exact⟨(q T m).2.1,(q T m).1⟩
   ·have n:s.heap.get? T=none:=by
     cases z:s.heap.get? T with
     |none=>rfl
     |some o=>rw[mL _ z λmm=>(dF.mp mm).elim m hTf]at g;cases g
    refine⟨C.gr T n,?_⟩;cases z:H T with
    |none=>rfl
    |some o=>obtain⟨u,e⟩:=(C.inv.cW T o z).get;rw[n]at e;cases e
  exact⟨l,vs,a0,T,oT,ts,r,I,S,M,q5,q7,key.1,key.2,q8,q9,q10⟩
 refine⟨⟨C.inv.TU hx kp sl λb m=>⟨(q b m).1,C.old b (q b m).2.1,gp b (q b m).2.1,.inl (q b m).2.2⟩,⟨?_,C.G9.fr,C.G9.nw⟩,C.old,C.pn,λb n=>?_⟩,tr⟩
 ·obtain⟨l,vs,b0,T,oT,ts,r,I,M,S,q5,g⟩:=tr;exact⟨l,vs,b0,r,I,M,S,.inr ⟨T,oT,ts,q5,g⟩⟩
 ·by_cases m:b∈hs
  ·exact(q b m).2.1
  ·refine C.gr b ?_
   cases z:s.heap.get? b with
   |none=>rfl
   |some o=>
    have n':h'.get? b=none:=n;by_cases m2:b∈j8 X.stack
    ·obtain⟨s1,e1⟩:=sl b o m2 z;rw[n']at e1;cases e1
    ·rw[kp b o m m2 z]at n';cases n'
section
variable {h0:Heap}{cls:Value}{M:Model}
theorem O4(C:Nq X h0 Z H s a cls)(hx:X.ex=[])(cJ:X.stack=X.env::X.outer)(hf:X.env.frame=some X.env.locals)(hA:A.frames=some X.stack){Q:Unit->Shared->Prop}(q:∀s',Nq X h0 Z H s' a cls->X' h0 H s'.heap a cls->Q () s'):
  wpAny M A (noteFrame (.ref a) X.env) (λ_ s2=>wpAny M A (setFlight (.ref a) none) Q E s2) E s:=by
 obtain⟨⟨oe,vs,a0,he,S,hd,g,h1⟩,fr,nw⟩:=C.G9;have hk:s.heap.FunFrames X.base X.stack:=C.inv.stack;have lL:∀e∈X.stack,∀b,e.frame=some b->b∈j8 X.stack:=λe he b hb=>lQ.mpr ⟨e,he,hb⟩;have after:∀(hs:List Addr) (h':Heap),a∈hs->(∀b∈hs,H b=none/\h0.get? b=none/\∃o ws,s.heap.get? b=some o/\o.data=.fields ws)->Heap.NotedW (PySem.W.hideAll s.heap (hs++j8 X.stack)) X.stack a cls a0 (rawInt X.env.locals) s.heap h'->wpAny M A (setFlight (.ref a) none) Q E {s with heap:=h'}:=by
  intro hs h' n hh ⟨k1,k2,k3,k4⟩;refine wpAny_setFlight_noneW (s:={s with heap:=h'}) k1 k2 k3 λh2 j1 j2 j3 j4=>?_
  obtain⟨c1,c2⟩:=C.step hx n hh j1 (λb o e d=>by obtain⟨sl,e1⟩:=k4 b o e d;exact⟨sl,j4 b _ e1 d⟩) j3 λb m=>(j2.mem m).2;exact q _ c1 c2
 rcases h1 with h1|⟨T,oT,ts,h1,r,I,Nl,hT,Z4,h3⟩
 ·have L:s.heap.FunFrames (PySem.W.hideAll s.heap ([a]++j8 X.stack)) (X.env::X.outer):=by rw[<-cJ];exact pd hk λe he b hb=>dD _ (lL e he b hb)
  unfold noteFrame;simp only[hf];refine aU (gG he hd h1 ?_);rw[bc (by decide)];refine wpAny_entryW (base:=PySem.W.hideAll s.heap ([a]++j8 X.stack)) (by rw[hA,cJ]) L hf he (λb o z=>mO _ z) (lO _ (kg _ (de.mpr rfl))) hd (Array.getElem?_eq_some_iff.mp h1).1 g λh' l=>?_
  rw[S,<-cJ]at l;refine after [a] h' (de.mpr rfl) (λb m=>?_) l;cases de.mp m;exact⟨fr,nw,oe,vs,he,hd⟩
 ·have L:s.heap.FunFrames (PySem.W.hideAll s.heap ([a,T]++j8 X.stack)) (X.env::X.outer):=by rw[<-cJ];exact pd hk λe he b hb=>dD _ (lL e he b hb)
  refine wpAny_noteFrame_onW (base:=PySem.W.hideAll s.heap ([a,T]++j8 X.stack)) (cls:=cls) (a0:=a0) (by rw[hA,cJ]) L hf ⟨oe,vs,T,oT,ts,he,⟨S,g⟩,hd,h1,lO _ (kg _ (by simp)),r,hT,Z4,h3⟩ (λb o z=>mO _ z) (lO _ (kg _ (by simp))) λh' l=>?_
  rw[<-cJ]at l;refine after [a,T] h' (by simp) (λb m=>?_) l;simp only[bH,cM,cN]at m;rcases m with rfl|rfl
  ·exact⟨fr,nw,oe,vs,he,hd⟩
  ·exact⟨Nl,I,oT,ts,hT,Z4⟩
theorem Jn(C:Nq X h0 Z H s a cls)(T:X' h0 H s.heap a cls)(hx:X.ex=[])(q:∀s',Nq X h0 Z H s' a cls->X' h0 H s'.heap a cls->ae () s'):wpAny M A (setFlight (.ref a) none) ae E s:=by
 obtain⟨oe,vs,a0,T,oT,ts,n,L,r,S,e5,e6,e7,e8,I,g,l⟩:=T;have hk:s.heap.FunFrames X.base X.stack:=C.inv.stack;have lL:∀e∈X.stack,∀b,e.frame=some b->b∈j8 X.stack:=λe he b hb=>lQ.mpr ⟨e,he,hb⟩;have hl:s.heap.FunFrames (PySem.W.hideAll s.heap ([a,T]++j8 X.stack)) X.stack:=pd hk λe he b hb=>dD _ (lL e he b hb);refine wpAny_setFlight_noneW (base:=PySem.W.hideAll s.heap ([a,T]++j8 X.stack)) (cls:=cls) (a0:=a0) (fl:=.none) (λb o z=>mO _ z) hl ⟨oe,vs,T,oT,ts,n,⟨L,S⟩,r,e5,lO _ (kg _ (by simp)),e6,I,g,l⟩ λh2 j1 j2 j3 j4=>?_
 obtain⟨c1,c2⟩:=C.step hx (hs:=[a,T]) (by simp) (λb m=>by
  simp only[bH,cM,cN]at m;rcases m with rfl|rfl
  ·exact⟨C.G9.fr,C.G9.nw,oe,vs,n,r⟩
  ·exact⟨e8,e7,oT,ts,I,g⟩) j1 (λb o e d=>⟨o.slots,j4 b o e d⟩) j3 λb m=>(j2.mem m).2
 exact q _ c1 c2
def Nq.Ya (C:Nq X h0 Z H s a cls)(hx:X.ex=[]):∃oe:Obj,oe.cls=cls/\s.heap.get? a=some oe/\Inv X [] Z (upd H a (.ext λh=>h.get? a=some oe)) s:=by
 obtain⟨⟨oe,vs,a0,he,l,hd,_⟩,fr,nw⟩:=C.G9;have I:=C.inv;refine⟨oe,l,he,I.ok,I.os,I.bare,⟨I.base.keep,I.base.slot,λb o e n hb=>?_,I.base.there,λb ts e=>?_,λb o u e=>?_,λb p e=>?_⟩,I.loc,I.cell,?_,λy c e=>?_,λp hp=>?_,λb u e=>?_,I.len⟩
 ·rw[bq λz=>?_]
  ·exact I.base.free b o e n hb
  ·rw[z,C.old a nw]at e;cases e
 ·rw[bq λz=>?_]
  ·exact I.base.m4 b ts e
  ·have q:=I.base.m4 b ts e;rw[z,fr]at q;cases q
 ·rw[bq λz=>?_]
  ·exact I.base.lK b o u e
  ·have q:=I.base.lK b o u e;rw[z,fr]at q;cases q
 ·obtain⟨more,q⟩:=I.base.nU b p e;exact⟨more,by rw[bq λz=>(by rw[z,fr]at q;cases q)];exact q⟩
 ·rw[bq λz=>?_]
  ·exact I.free
  ·obtain⟨m,⟨o,es,ep,g,hd2,_⟩,_⟩:=I.loc;rw[z,he]at g;cases g;rw[hd]at hd2;cases hd2
 ·rw[bq λz=>?_]
  ·exact I.gq y c e
  ·obtain⟨v,o,g,hd2⟩:=I.cell y c e;rw[z,he]at g;cases g;rw[hd]at hd2;cases hd2
 ·obtain⟨r,L,M⟩:=I.pin p hp;refine⟨r,?_,M⟩;rw[bq λz=>?_]
  ·exact L
  ·obtain⟨o,e⟩:=C.pn p (by simpa using hp);rw[z,nw]at e;cases e
 ·by_cases z:b=a
  ·subst z;rw[bP]at e;cases e;exact⟨he,⟨oe,he⟩,λS h2 p k=>k _ p⟩
  ·rw[bq z]at e;exact(I.cW b u e).pQ (λ_ _ _ q=>q) (λc q=>by rw[bq (bV q fr)];exact q) λc xs q=>by rw[bq (bV q fr)];exact q
theorem Aw{n:Str}(I:Inv X U Z H s)(hN:X.N.Nodup)(hi:X.N[i]?=some n)(hl:X.env.scope.names.lookup n=some .local)(q:∀s',Inv X U (Z.set i none) H s'->ae () s'):wpAny M A (do bindName X.env n .none;unbindBehindTheSuite X.env n pos) ae E s:=by
 obtain⟨m,hn,hlk⟩:=id I.loc;have GG:(X.env.scope.kind== .class||(X.env.scope.kind== .module&&X.env.locals !=X.env.globals))=false:=by rw[I.ok.kind];rfl
 obtain⟨oL,_,_,Gm,_⟩:=id hn;refine wpAny_nameGoes_keeps hl hn GG λh' v Qh hs=>q _ ?_
 have ne:∀b o,X.gH.heap.get? b=some o->b≠X.env.locals:=λb o e=>cf (dc (bz e) I.ok.above);refine⟨I.ok,I.os,I.bare,⟨λb o e n hb L=>?_,λb o e n hb L=>?_,I.base.free,λb o e L=>?_,I.base.m4,I.base.lK,I.base.nU⟩,⟨_,Qh,λj y w g S e3=>?_⟩,λy c e=>?_,I.free,I.gq,λp hp=>?_,λb u e=>?_,by rw[kS];exact I.len⟩
 ·exact(hs.2 b (ne b o e)).trans (I.base.keep b o e n hb L)
 ·obtain⟨sl,g⟩:=I.base.slot b o e n hb L;exact⟨sl,(hs.2 b (ne b o e)).trans g⟩
 ·obtain⟨o1,g⟩:=I.base.there b o e L;exact⟨o1,(hs.2 b (ne b o e)).trans g⟩
 ·by_cases hj:j=i
  ·subst hj;have hjl:j<Z.length:=by rw[I.len];exact(gD.mp hi).1
   rw[pb hjl]at S;cases S
  ·rw[mK (Ne.symm hj)]at S;obtain⟨u,r,l⟩:=hlk j y w g S e3;refine⟨u,r,?_⟩;rcases l with⟨k,e⟩|⟨k,c,e,z⟩
   ·refine .inl ⟨k,?_⟩;have hy:y≠n:=λz=>hj (ue hN g (z▸hi));show(if y=n then v else m y)=some u;rw[bc hy];exact e
   ·exact .inr ⟨k,c,e,z.sameBut hs (I.Ig y c e)⟩
 ·obtain⟨w,z⟩:=I.cell y c e;exact⟨w,z.sameBut hs (I.Ig y c e)⟩
 ·obtain⟨e,n2,ne2,nf,d⟩:=I.pin p hp;exact⟨(hs.2 p.1 ne2).trans e,n2,ne2,nf,d⟩
 ·refine(I.cW b u e).pQ (λc w hc z=>(hs.2 c λy=>?_).trans z) (λ_ z=>z) λ_ _ z=>z;subst y;rcases hc with z2|z2
  ·rw[<-z2,I.free]at e;cases e
  ·rw[I.free]at z2;cases z2
end
theorem cK.none:cK K B H Z (List.replicate Z.length .no):=by
 have no:∀(i:Nat) (c:Cell),(List.replicate Z.length Cell.no)[i]?=some c->c=.no:=λi c e=>by
  rw[sY]at e;split at e
  ·exact(Option.some.inj e).symm
  ·cases e
 exact⟨xo,(λi t e=>by cases no i _ e),(λi ts e=>by cases no i _ e),(λi j ts us D _ e=>by cases no i _ e)⟩
def cK.unset {Y:bX}(h:cK K B H Z Y)(n:fV Y)(i:Nat):cK K B H (Z.set i Option.none) (Y.set i .no):=by
 refine⟨by rw[kS,kS];exact h.len,λj t e=>?_,λj ts e=>?_,λj k ts us D _ e=>?_⟩
 ·rcases fU e with⟨_,_,z⟩|⟨b,e⟩
  ·cases z
  ·obtain⟨v,g,r⟩:=h.sh j t e;exact⟨v,by rw[mK b];exact g,r⟩
 ·rcases fU e with⟨_,_,z⟩|⟨b,e⟩
  ·cases z
  ·exact absurd e (n j ts)
 ·rcases fU e with⟨_,_,z⟩|⟨b,e⟩
  ·cases z
  ·exact absurd e (n j ts)
def fV.unset {Y:bX}(h:fV Y)(i:Nat):fV (Y.set i .no):=λj ts e=>by
 rcases fU e with⟨_,_,z⟩|⟨b,e⟩
 ·cases z
 ·exact h j ts e
noncomputable abbrev Cx.lr (X:Cx)(pn:List (Addr×Obj))(E':Value->Shared->Prop):Cx:={X with pn:=pn,xe:=E'}
noncomputable abbrev Cx.qj (X:Cx)(pn:List (Addr×Obj))(e:Value):Cx:={X with A:=X.A.mark (some e),calm:=false,pn:=pn,xe:=fun _ _=>False}
section
variable {pn:List (Addr×Obj)}
theorem Cx.Ok.lr (ok:X.Ok):(X.lr pn E).Ok:=⟨ok.mod,ok.kind,ok.glob,ok.blt,ok.above,ok.inj,ok.has,ok.Qg,ok.hd,ok.frames,ok.Ni,ok.Vc,ok.bs,ok.Ie,ok.AZ,ok.CM,ok.rK,ok.J8⟩
def Cx.Ok.my (ok:(X.lr pn E).Ok):X.Ok:=⟨ok.mod,ok.kind,ok.glob,ok.blt,ok.above,ok.inj,ok.has,ok.Qg,ok.hd,ok.frames,ok.Ni,ok.Vc,ok.bs,ok.Ie,ok.AZ,ok.CM,ok.rK,ok.J8⟩
theorem Cx.Ok.qj (ok:X.Ok):(X.qj pn af).Ok:=⟨ok.mod,ok.kind,ok.glob,ok.blt,ok.above,ok.inj,ok.has,ok.Qg,(λz=>by cases z),ok.frames,ok.Ni,ok.Vc,ok.bs,ok.Ie,ok.AZ,ok.CM,ok.rK,ok.J8⟩
theorem Inv.lr (I:Inv X U Z H s):Inv (X.lr (X.pn++U) E) [] Z H s:=⟨I.ok.lr,I.os,I.bare,I.base,I.loc,I.cell,I.free,I.gq,λp hp=>I.pin p (by simpa using hp),I.cW,I.len⟩
theorem Inv.my (I:Inv (X.lr (X.pn++U) E) [] Z H s):Inv X U Z H s:=⟨I.ok.my,I.os,I.bare,I.base,I.loc,I.cell,I.free,I.gq,λp hp=>I.pin p (by simpa using hp),I.cW,I.len⟩
theorem Inv.qj (I:Inv (X.lr pn E) [] Z H s):Inv (X.qj pn af) [] Z H s:=⟨I.ok.my.qj,I.os,I.bare,I.base,I.loc,I.cell,I.free,I.gq,I.pin,I.cW,I.len⟩
def Inv.LG (ok:X.Ok)(I:Inv (X.qj (X.pn++U) af) [] Z H s):Inv X U Z H s:=⟨ok,I.os,I.bare,I.base,I.loc,I.cell,I.free,I.gq,λp hp=>I.pin p (by simpa using hp),I.cW,I.len⟩
theorem SP.my {D:Ends}{f:Flow}(h:SP (X.lr (X.pn++U) E) [] D f s):SP X U D f s:=by
 cases f with
 |next=>obtain⟨dB,H',I,q⟩:=h;exact⟨dB,H',I.my,q⟩
 |brk=>obtain⟨dB,H',I,q⟩:=h;exact⟨dB,H',I.my,q⟩
 |cont=>obtain⟨dB,H',I,q⟩:=h;exact⟨dB,H',I.my,q⟩
 |ret u=>obtain⟨v,dB,H',I,r,q⟩:=h;exact⟨v,dB,H',I.my,r,q⟩
end
structure rh(K:Frag)(mg:Str->Option Value)(c:Str)(xs:List Str):Prop where
 mg:mg c=some (.ref (clsAt K c))
 all:∀x∈xs,PySem.W.exmOne K (.ref (clsAt K x)) (.ref (clsAt K c))=some true
noncomputable def Yb(N i:Nat)(xs:List Str)(x:Str)(A:Ab)(G2:bX->Ab->Rz Out):Rz Out:=if xs.contains x=true then match G2 ((List.replicate N Cell.no).set i (.sh (.at A.length))) (A++[.EH x])with
 |.ok (.nx Y) A=>.ok (.nx (Y.set i .no)) A
 |.ok (.ret t) A=>.ok (.ret t) A
 |_=>.bad
 else .bad
def FG(N i:Nat)(xs:List Str)(r:Rz Out)(G2:bX->Ab->Rz Out):Rz Out:=match r with
 |.ok o A=>.ok o A
 |.exc (.str x) A=>Yb N i xs x A G2
 |_=>.bad
section
variable {c:Str}{tp hp:Pos}{G2:bX->Ab->Rz Out}
theorem QV.Yc {h0 h:Heap}{c:Value}(u:QV h0 H h a c):PySem.W.Looks (model P w) h (typeOf (.ref a)) c:=by
 obtain⟨⟨b,vs,a0,he,rfl,_⟩,_,_⟩:=u;exact(mY (M:=model P w) (part:=none) he).andThen (f:=λo:Obj=>pure o.cls) .now
theorem LH(Tc:rh X.K X.mg c ps)(hb:∀pn E',o6 (X.lr pn E') ah (tZ (X.lr pn E') aK))(hs:∀pn e,o6 (X.qj pn e) (ai::aj) (tZ (X.qj pn e) G2))(hN:X.N.Nodup)(hi:X.N[i]?=some av)(hl:X.env.scope.names.lookup av=some .local)
  (cJ:X.stack=X.env::X.outer) (hf:X.env.frame=some X.env.locals) (hx:X.ex=[]) (Nz:zr X av) (hg:Gl X c) (fQ:Db c):
  PS X (.Try ah [.ExceptHandler (some (.Name c tp)) (some av) (ai::aj) hp] [] [] pos) (tZ X λY A=>FG X.N.length i ps (aK Y A) G2):=by
 intro U s Z H D I ⟨B0,H0,B,A,Y,CA,g,ha,r,no,q⟩;have l:=I.ok;refine wpAny_Try_except (ee (hb (X.pn++U) _ [] s Z H D I.lr ⟨B0,H0,B,A,Y,CA,g,ha,r,no,?_⟩) (λf s1 h1=>?_) λe s1 z=>z)
 ·have b:g6 (XE X B0 H0) (FG X.N.length i ps (aK Y A) G2) (v5 X D B0 H0):=q;cases eG:aK Y A with
  |bad=>rw[eG]at b;exact fe b
  |ok o A1=>rw[eG]at b;cases o<;>exact b
  |exc t A1=>
   rw[eG]at b;cases t with
   |str x=>
    obtain⟨hxs,n⟩:=iz b;intro B' H' g' j9 e s1 xs1;obtain⟨a,ZP,h0,rfl,C⟩:=xs1.cau;refine O4 C hx cJ hf l.frames λs3 S T3=>?_
    refine wpAny_handleBy_cons (codeAny_handlers_test ?_) (by intro z;cases z);refine xl l.kind hg (Calls.loadGlobal_global (by rw[l.glob];exact l.mod.glob.keeps S.inv.bk) Tc.mg ?_) fQ;refine PySem.W.exm_one S.inv.ml S.G9.Yc (Tc.all x (by simpa using hxs)) _ _ _ s3 (λ_ _ z=>z) ?_
    refine codeAny_handlers_suite_as ?_
    refine Jn S T3 hx λs4 C4 T4=>?_
    refine hide λP go=>?_
    obtain⟨L,hc4,he4,I4⟩:=C4.Ya hx;refine go ?_
    have M:H' a=none:=C4.G9.fr;refine xV (X:=X.lr (X.pn++U) _) I4 hN hi (.inl hl) (v:=.ref a) rfl (λs5 I5=>?_) Nz;have g5:=j9.push (p:=a) (o:=.EH x) M (bo.upd M) ⟨q_,L,bP,hc4⟩;have b9:ZP.length=X.N.length:=C4.inv.len;have r5:cK X.K (p9 B' a A1.length) (upd H' a (.ext λh=>h.get? a=some L)) (ZP.set i (some (.ref a))) ((List.replicate X.N.length Cell.no).set i (.sh (.at A1.length))):=by
     rw[<-b9];exact cK.none.set i (.at iQ)
    have no5:fV ((List.replicate X.N.length Cell.no).set i (.sh (.at A1.length))):=fV.set (λj ts z=>by
     rw[sY]at z;split at z<;>cases z) i _
    have key:g6 (λ_ _=>False) (G2 ((List.replicate X.N.length Cell.no).set i (.sh (.at A1.length))) (A1++[.EH x])) λo A2=>match o with
      |.nx Y=>v5 X D B0 H0 (.nx (Y.set i .no)) A2
      |.ret t=>v5 X D B0 H0 (.ret t) A2
      |_=>False:=by
     cases e2:G2 ((List.replicate X.N.length Cell.no).set i (.sh (.at A1.length))) (A1++[.EH x])with
     |bad=>simp only[e2]at n;exact n
     |exc c1 A2=>simp only[e2]at n;exact n
     |ok o A2=>
      simp only[e2]at n;cases o<;>exact n
    refine ee (hs (X.pn++U) (.ref a) [] s5 _ _ {nx:=λwL H2=>D.nx (wL.set i none) H2,rt:=D.rt} I5.qj ⟨B0,H0,p9 B' a A1.length,A1++[.EH x],_,CA,g'.trans CA g5.1,g5.2,r5,no5,?_⟩) (λf s6 h6=>?_) λ_ _ z=>(show False from z).elim
    ·refine(key.imp λ_ _ z=>z.elim).mono λo A2 z=>?_
     cases o with
     |nx iH=>exact λwL B2 H2 g2 qe r2 n2=>z (wL.set i none) B2 H2 g2 qe (r2.unset n2 i) (n2.unset i)
     |ret t=>exact z
     |_=>exact z.elim
    ·cases f with
     |next=>
      obtain⟨σ6,H6,I6,q6⟩:=h6;exact Aw (I6.LG l) hN hi hl λs7 I7=>⟨_,H6,I7,q6⟩
     |ret u=>
      obtain⟨v,σ6,H6,I6,rv,q6⟩:=h6;exact Aw (I6.LG l) hN hi hl λs7 I7=>⟨v,_,H6,I7,rv,q6⟩
     |_=>obtain⟨_,_,_,z⟩:=h6;exact fe z
   |_=>exact fe b
 ·cases f with
  |next=>exact t8 h1.my
  |_=>exact h1.my
end
section
variable {es:List Expr}{E:bX->Ab->Rz Tr}{keys:List (Option Expr)}{P:bX->Ab->Rz (List (Tr×Tr))}
structure TV(X:Cx)(pos:Pos)(keys:List (Option Expr))(aA:List Expr)(P:bX->Ab->Rz (List (Tr×Tr))):Prop where
 h:∃Bf,Vf X pos keys aA Bf/\∀Z H Q,(∃B A Y,HA X.K B A H/\cK X.K B H Z Y/\fV Y/\g6 (XE X B H) (P Y A) fun SV A'=>∀OB B' H',Grows B H B' H'->HA X.K B' A' H'->yy X.K (cn B' H') OB SV->Q OB H')->ya Bf Z H Q
theorem LJ:TV X pos [] [] λ_ A=>.ok [] A:=⟨[],GC,λZ H Q ⟨B,A,Y,ha,r,n,q⟩=>q [] B H .refl ha .nil⟩
def Q9(k:Rz Tr)(v:Ab->Rz Tr)(r:Ab->Rz (List (Tr×Tr))):Rz (List (Tr×Tr)):=k.bind λx A=>(v A).bind λy A=>(r A).bind λps A=>.ok ((x,y)::ps) A
theorem LK(hk:PE X e (tE X aI))(hv:PE X o (tE X aJ))(hr:TV X pos keys aA P):TV X pos (some e::keys) (o::aA) λY A=>Q9 (aI Y A) (aJ Y) (P Y):=by
 obtain⟨Bf,h1,h2⟩:=hr.h;refine⟨_,C6 hk hv h1,λZ H Q ⟨B,A,Y,ha,r,n,q⟩=>?_⟩;refine⟨B,A,Y,ha,r,n,(g6.bind q).mono λx A1 b u B1 H1 g1 g l=>⟨B1,A1,Y,g,r.grow n g1,n,((g6.bind b).imp λc A' z=>z.grow ha.hb g1).mono λy A2 I w B2 H2 g2 L M=>h2 _ _ _ ⟨B2,A2,Y,L,(r.grow n g1).grow n g2,n,((g6.bind I).imp λc A' z=>z.grow ha.hb (g1.trans ha.hb g2)).mono λps A3 S OB B3 H3 g3 Ha r3=>?_⟩⟩⟩;exact S _ B3 H3 ((g1.trans ha.hb g2).trans ha.hb g3) Ha (.cons ((l.same g2.jR).same g3.jR) (M.same g3.jR) r3)
def isE(A:Ab)(i:Nat):Bool:=match A[i]? with
 |some (.bW [])=>true
 |_=>false
def Yd(P:Ab->Rz (List (Tr×Tr)))(A:Ab):Rz Tr:=(P (A++[.bW []])).bind λps A2=>if ps.length<=15/\isE A2 A.length=true then(gS (yx ps) A2).bind λbE A2=>.ok (.at A.length) (A2.set A.length (.bW (mr [] bE)))else .bad
theorem O5(h:TV X pos keys aA P)(vf:keys.all (·.isSome)=true:=by rfl) (hl:keys.length=aA.length:=by rfl) (h0:keys.isEmpty=false:=by rfl) (N1:keys.length<=15:=by decide):PE X (.Dict keys aA pos) (tE X λY A=>Yd (P Y) A):=by
 obtain⟨Bf,h1,h2⟩:=h.h;refine(GD h1 vf hl (λz=>by rw[z]at h0;cases h0) N1).weak λZ H Q ⟨B,A,Y,ha,r,n,q⟩ p hp=>?_
 obtain⟨g1,nL⟩:=ha.push (p:=p) (o:=.bW []) hp (bo.upd (o:=.dK []) hp) ⟨q_,[],bP,.nil⟩;have rM:(p9 B p A.length).ix p=some A.length:=iQ;refine h2 Z _ _ ⟨_,_,Y,nL,r.grow n g1,n,((g6.bind q).imp λc A' z=>z.grow ha.hb g1).mono λSV A2 g OB B2 H2 g2 qe r2=>?_⟩;obtain⟨⟨hz,he⟩,g⟩:=iz g;have I:=g2.jR.x _ _ rM;have L:A2[A.length]?=some (.bW []):=by
  unfold isE at he;split at he
  ·assumption
  ·cases he
 obtain⟨hd,l,e0,M⟩:=(show sI X.K B2 H2 p (.bW [])from qe.get I L);have S:l=[]:=by
  have e:=M.keys;cases l with
  |nil=>rfl
  |cons a b=>cases e
 subst S;cases ep:yx SV with
 |ok bE=>
  rw[ep]at g;obtain⟨kvs,Ye,k1,e1,rd⟩:=Ae (X:=X) (H0:=H2) (k:=λz=>z=bE) r2 (by rw[ep];rfl);subst k1;refine⟨e0,kvs,e1,?_,?_⟩
  ·have e2:=cV List.length e1;rw[bu,r2.length]at e2;rw[<-e2];exact hz
  ·obtain⟨g4,h6⟩:=qe.write (o:=.bW (mr [] Ye)) (u:=.dK (jd [] kvs)) I ⟨hd,_,bP,by rw[jx hd];exact d6.merge rd d6.nil⟩;exact(show∀v B' H',Grows B H B' H'->HA X.K B' (A2.set A.length (.bW (mr [] Ye))) H'->Rep X.K (cn B' H') v (.at A.length)->Q v H' from g) (.ref p) B2 _ ((g1.trans ha.hb g2).trans ha.hb g4) h6 (.at I)
 |_=>rw[ep]at g;exact fe g
end
section
variable {a b:Expr}{es:List Expr}{ix:List (Option Nat)}{T:o4}
def FH{Q:VK}(hT:jT T)(q:tF X (λY=>vX ix T aF F (L Y) Y) Z H Q):Vh (tJ X L) ix (Qz X.K T) (Qy X.K aF) (Qx X.K F) Z H (λv H'=>lp X H' (Q v)):=by
 obtain⟨B,Y,hb,r,q⟩:=q;refine⟨B,Y,hb,r,q.bind.mono λts b J H1 g gt D l=>?_⟩;by_cases hz:ts.length<=dZ
 ·rw[aY hz]at b;exact wO hT (wN ix Y) (g.hb hb) gt hz ((g.IM r).comp ix (k_ l)) l (Fi.bind b) λys H' k s' n=>by
   obtain⟨M,S,I,ku⟩:=g.QY hb s';exact ku _ (k _ M S (I n) λp e=>by cases e;exact .lst (g.free l) (I n))
 ·rw[bc hz]at b;exact b.elim
theorem LL(Lk:g0 X ps ix ax)(hit:PI X tg am (tJ X L))(lL:Oe X ax ps tg o aA T aF F)(hT:jT T)(hN:X.N.Nodup:=by assumption) (hc:X.calm=true:=by rfl) (hi:X.N[i]?=some x:=by rfl) (hx:Loc X.env.scope x:=by first|exact Or.inl rfl|exact Or.inr rfl)
  (Iu:swapsWith (.ListComp o [⟨tg,am,aA,0⟩] ax pos) (some (.Name x p)) b8.line X.env=pure true:=by rfl) (hs:isSet am=false:=by rfl) (hf:zr X x:=by first|exact .inl rfl|exact .inr rfl|assumption):
  PS X (.Assign [.Name x p] (.ListComp o [⟨tg,am,aA,0⟩] ax pos) b8) (tZ X λY A'=>Br i (vv (vX ix T aF F (L (dw A' Y)) (dw A' Y)) A') Y):=
 (yg Lk hc hN hi hx hit lL.Vl Iu (gK hs) hf).Vo.weak λD Z H ⟨B0,H0,B,A',Y,hb,g,ha,r,n,q⟩=>FH (Q:=λv H'=>D.nx (Z.set i (some v)) H') hT (sJ (F:=λY=>vX ix T aF F (L Y) Y) (qd (F:=λY A'=>vv (vX ix T aF F (L (dw A' Y)) (dw A' Y)) A') hb g ha r n q.bind λt A2 v B' H' b g' l I M _=>b _ B' H' g' l (I.set i M) (n.set i t)))
end
section
variable {P:bX->Ab->Rz Bool}{hp:Pos}{G2:bX->Ab->Rz Out}
def TX(r:Rz Tr):Rz Bool:=r.bind λt A=>gS (pZ t) A
theorem TY(h:PE X e (tE X aI))(he:m9 e=true:=by rfl):PT X e (QX X λY A=>TX (aI Y A)):=
 (CO h (yk he)).weak λZ H Q ⟨B,A,Y,ha,r,av,q⟩=>⟨B,A,Y,ha,r,av,q.bind.mono λt A1 b v B1 H1 g1 g l=>by
  obtain⟨o,h1,h2⟩:=yn (l.same fL) (nh (X:=X) (H:=H1) b);exact⟨o,h1,h2 B1 H1 g1 g⟩⟩
def TZ(r:Rz Bool):Rz Bool:=r.bind λo A=>.ok (!o) A
theorem eq_not(h:PT X e (QX X P)):PT X (.UnaryOp .Not e pos) (QX X λY A=>TZ (P Y A)):=
 (Ka h).weak λZ H Q ⟨B,A,Y,ha,r,av,q⟩=>⟨B,A,Y,ha,r,av,q.bind⟩
variable {st:Stmt}
def Yf:PE X e (tP X λ_=>.bad):=λ_ _ _ _ _ _ ⟨_,_,_,_,q⟩=>(show False from q).elim
def Yg:PS X st (tS X λ_=>.bad):=λ_ _ _ _ _ _ ⟨_,_,_,_,_,_,_,q⟩=>(show False from q).elim
end
open PySem.W
structure BG(K:Frag)(D:Addr):Prop where
 ga:findIn K (.ref D) "__getattribute__"=some (some (.builtin "BaseException.__getattribute__"))
 gh:findIn K (.ref D) "__getattr__"=some none
 cl:findIn K (.ref D) "__class__"=some (some (.builtin "object.__class__"))
 ob:mroIn K D (.type "object")=some true
 be:mroIn K D (.type "BaseException")=some true
section
variable {g:Array GenState}{d:Drawn}{t:Nat}{os:OsState}{o:Obj}{K:Frag}
theorem T1(G:BG K au)(X:K.In aa)(q:aa.get? a=some o)(hc:o.cls=.ref au)(hq:aw (.ok (.ret (.ref au))) ⟨aa,g,d,t,os⟩):
  codeAny (model P w) A (.call (.builtin "getset_descriptor.__get__") ⟨[.builtin "object.__class__",.ref a,af],[]⟩) aw ⟨aa,g,d,t,os⟩:=by
 have b:(⟨aa,g,d,t,os⟩:Shared).TypeIs (.builtin "object.__class__") "getset_descriptor":=xu;have l:Looks (model P w) aa (typeOf (.ref a)) (.ref au):=hc▸(mY q).andThen .now;have n:Looks (model P w) aa (isSubtype (.ref au) (.type (".".intercalate ("object.__class__".cutAt '.').dropLast))) true:=by rw[show".".intercalate ("object.__class__".cutAt '.').dropLast="object" by decide+kernel];exact looks_mroIn X G.ob
 refine xB F.slot_gs_get.plain F.entry_gs_get (F.slot_gs_get.check _ _ _ _ _ _ _ _ b (F.args_gs_get _ _ _) ?_)
 repeat(any_goals (first|assumption|(with_reducible refine l.at ?_)|(with_reducible refine n.at ?_)|wp_step))
 refine⟨Code.quiet_builtin _ (by decide+kernel),gb F.entry_object_class ?_⟩
 repeat(any_goals (first|assumption|(with_reducible refine l.at ?_)|wp_step))
theorem LM{tk:Tok}{Q:Fin->Shared->Prop}(G:BG K au)(X:K.In aa)(q:aa.get? a=some o)(hc:o.cls=.ref au)(hq:Q (.done (.ret (.ref au))) ⟨aa,g,d,t,os⟩):
  wpAny (model P w) A (Builtin.«object.__getattribute__» ⟨[.ref a,.str "__class__" tk],[]⟩) Q E ⟨aa,g,d,t,os⟩:=by
 have b:Looks (model P w) aa (typeOf (.ref a)) (.ref au):=hc▸(mY q).andThen .now;have l:=t_ (M:=model P w) X G.cl;have n:(⟨aa,g,d,t,os⟩:Shared).TypeIs (.builtin "object.__class__") "getset_descriptor":=xu;have r:=xu;have I:=F.slot_gs_get.lookup;have L:=F.slot_gs_set.lookup
 repeat(any_goals (first|assumption|(with_reducible refine b.at ?_)|(with_reducible refine l.at ?_)|wp_step))
 refine T1 G X q hc ?_
 repeat(any_goals (first|assumption|wp_step))
theorem LN{M:Model}(G:BG K au)(X:K.In aa)(q:aa.get? a=some o)(hc:o.cls=.ref au)(hq:ae () ⟨aa,g,d,t,os⟩):wpAny M A (checkBuiltinCall "BaseException.__getattribute__" ⟨[.ref a,af],[]⟩) ae E ⟨aa,g,d,t,os⟩:=by
 have b:Looks M aa (typeOf (.ref a)) (.ref au):=hc▸(mY q).andThen .now;have l:=looks_mroIn (M:=M) X G.be;have k1:builtinKind "BaseException.__getattribute__"=some .slot:=by decide+kernel
 have k2:splitId "BaseException.__getattribute__"=some ("BaseException","__getattribute__"):=by decide+kernel
 have n:=F.args_bexc_ga (.ref a) af;simp only[checkBuiltinCall,k1,k2];refine aU ?_
 unfold isInstance
 repeat(any_goals (first|assumption|(with_reducible refine b.at ?_)|(with_reducible refine l.at ?_)|wp_step))
theorem O6{tk:Tok}(G:BG K au)(X:K.In aa)(q:aa.get? a=some o)(hc:o.cls=.ref au)(hq:aw (.ok (.ret (.ref au))) ⟨aa,g,d,t,os⟩):
  codeAny (model P w) A (.call (.builtin "BaseException.__getattribute__") ⟨[.ref a,.str "__class__" tk],[]⟩) aw ⟨aa,g,d,t,os⟩:=
 xB (by decide+kernel) F.entry_bexc_ga (LN G X q hc (LM G X q hc hq))
theorem Yh{tk:Tok}(FB:Slot "ValueError" "__getattribute__" "BaseException.__getattribute__")(G:BG K au)(X:K.In aa)(q:aa.get? a=some o)(hc:o.cls=.ref au)(hq:Q (.ref au) ⟨aa,g,d,t,os⟩):
  wpAny (model P w) A (getAttrBy (.ref a) (.str "__class__" tk) false) Q E ⟨aa,g,d,t,os⟩:=by
 have b:Looks (model P w) aa (typeOf (.ref a)) (.ref au):=hc▸(mY q).andThen .now;have l:=t_ (M:=model P w) X G.ga;have L2:=t_ (M:=model P w) X G.gh;have n:=FB.bind (.ref a);have k0:onTheHeap (Value.builtin "BaseException.__getattribute__")=false:=rfl;have k2:(Value.builtin "BaseException.__getattribute__"==Value.builtin "object.__getattribute__")=false:=by decide+kernel
 have k1:(onTheHeap (Value.ref au)&&Value.builtin "BaseException.__getattribute__"==Value.builtin "object.__getattribute__")=false:=by rw[k2];rfl
 repeat(any_goals (first|assumption|(with_reducible refine b.at ?_)|(with_reducible refine l.at ?_)|(with_reducible refine L2.at ?_)|wp_step))
 refine O6 G X q hc ?_
 repeat(any_goals (first|assumption|wp_step))
def O7(FB:Slot "ValueError" "__getattribute__" "BaseException.__getattribute__")(G:BG K au)(X:K.In aa)(q:aa.get? a=some o)(hc:o.cls=.ref au)(hq:aM (some (.ref au)) ⟨aa,g,d,t+1,os⟩):
  wpAny (model P w) A (getAttr? (.ref a) "__class__") aM E ⟨aa,g,d,t,os⟩:=by
 unfold getAttr? getAttrBy?
 repeat(any_goals (first|assumption|with_reducible apply Yh FB G X q hc|wp_step))
theorem LO(G:BG K au)(GG:(clsIn K au).isSome=true):KitX K (.ref a) (.ref au) (λaa=>∃o,aa.get? a=some o/\o.cls=.ref au) where
 ty:=λM aa X ⟨o,b,l⟩=>l▸(mY b).andThen .now
 it:=λM aa X _=>by
  unfold clsIn at GG;split at GG
  ·rename_i S d' r VJ I;intro A' Q' E' s' k q;unfold isType loadHead;exact aU (wpAny_loadPart (k _ _ (X _ _ I)) (bg q))
  ·cases GG
 ne:=λaa tp dd cy n sl X L=>by
  refine Bool.eq_false_iff.mpr λq=>?_
  have e:au=tp:=Value.ref.inj (fu.mp q);subst e;unfold clsIn at GG;split at GG
  ·rename_i S d' r VJ I;cases(X _ _ I).symm.trans L
  ·cases GG
 ca:=λ{P w A E Q s} X ⟨o,b,l⟩ k=>by
  obtain⟨aa,g,d,t,os⟩:=s;exact O7 F.excAttr_ValueError.ga G X b l k
end
structure jb(K:Frag)(u:Value)(tab:List (Str×Bool)):Prop where
 all:∀x b,tab.lookup x=some b->kitOne K (.ref (clsAt K x)) u=some b/\BG K (clsAt K x)/\(clsIn K (clsAt K x)).isSome=true
noncomputable def Jo(tab:List (Str×Bool)):Tr->Rs Tr
 |.z6 x=>match tab.lookup x with
  |some b=>.ok (.bl b)
  |none=>.bad
 |_=>.bad
section
variable {p2:Pos}{c:Str}{tab:List (Str×Bool)}{cv:V}
theorem DR(T:jb X.K af tab)(hu:∀u',RelV cv u'->u'=af):gQ X (.builtin "isinstance") (λxs H Q=>∃B y t,HB B H/\xs=[y,cv]/\Rep X.K (cn B H) y t/\Fi X H (Jo tab t) λt=>∀v H',bo H H'->Rep X.K (cn B H') v t->Q v H'):=by
 intro U s Z H xs us Q I r ⟨B,y,t,hb,ex,L,q⟩;subst ex;obtain⟨v,M,rfl,r1,r2⟩:=vals2 r;cases hu M r2;cases L with
 |@z6 a n x h S=>
  cases r1;have g:=q;unfold Jo at g;dsimp only at g;cases l:tab.lookup x with
  |none=>rw[l]at g;exact fe g
  |some b=>
   rw[l]at g;obtain⟨k1,k2,k3⟩:=T.all x b l;obtain⟨ho,_⟩:=(show cX X.prog X.w H s.heap a (.ext λh=>h.get? a=some n)from I.cW a _ (eB h));exact fq (LO k2 k3) I.ml ⟨n,ho,S⟩ k1 (λz=>nomatch z) λtk=>⟨.bl b,H,I.tok _,rfl,(show∀v H',bo H H'->Rep X.K (cn B H') v (.bl b)->Q v H' from g) _ H (bo.refl H) (.bl b)⟩
 |_=>exact fe q
def DT(hv:PE X (.Name c p2) (tC cv))(he:PE X e (tP X F))(cJ:isStar e=false):PA X [e,.Name c p2] (λZ H Q=>∃B Y,HB B H/\cK X.K B H Z Y/\Fi X H (F Y) λt=>∀v H',bo H H'->Rep X.K (cn B H') v t->Q [v,cv] H'):=
 (lU he (lU hv sD (bO _ _ rfl)) (bO _ _ cJ)).weak λZ H Q ⟨B,Y,hb,r,q⟩=>⟨B,Y,hb,r,q.mono λt b v H1 s1 g=>b v H1 s1 g⟩
theorem T2(T:jb X.K (.ref (clsAt X.K c)) tab)(hm:X.mg c=some (.ref (clsAt X.K c)))(hi:X.mg "isinstance"=none)(he:PE X e (tP X F))(hg:Gl X c:=by rfl) (LP:Gl X "isinstance":=by rfl) (fQ:Db c:=by decide) (cJ:bC [e,.Name c p2]=true:=by rfl):
  PE X (.Call (.Name "isinstance" p) [e,.Name c p2] [] pos) (tP X λY=>(F Y).bind (Jo tab)):=
 (pS (DR (cv:=.ref (clsAt X.K c)) T λu' z=>z) LP hi rfl (DT (A7 (v:=.ref (clsAt X.K c)) hg hm rfl fQ) he (bt cJ).1) (by decide) (by decide) (bO _ _ (bt cJ).1) (cS (bt cJ).2)).weak λZ H Q ⟨B,Y,hb,r,q⟩=>⟨B,Y,hb,r,q.bind.mono λt b v H1 s1 rv=>⟨B,v,t,hb.same s1,rfl,rv,(b.same s1).mono λt k v H2 s2 g=>k v H2 (s1.trans s2) g⟩⟩
theorem T5(T:jb X.K (.type ay) tab)(hm:X.mg c=none)(hi:X.mg "isinstance"=none)(he:PE X e (tP X F))(hv:bootBuiltins c=some (.type ay):=by rfl) (hg:Gl X c:=by rfl) (hn:c≠"__name__":=by decide) (LP:Gl X "isinstance":=by rfl) (fQ:Db c:=by decide) (cJ:bC [e,.Name c p2]=true:=by rfl):
  PE X (.Call (.Name "isinstance" p) [e,.Name c p2] [] pos) (tP X λY=>(F Y).bind (Jo tab)):=
 (pS (DR (cv:=.ty ay) T λu' z=>z) LP hi rfl (DT (Gn (v:=.ty ay) hg hm hv rfl hn fQ) he (bt cJ).1) (by decide) (by decide) (bO _ _ (bt cJ).1) (cS (bt cJ).2)).weak λZ H Q ⟨B,Y,hb,r,q⟩=>⟨B,Y,hb,r,q.bind.mono λt b v H1 s1 rv=>⟨B,v,t,hb.same s1,rfl,rv,(b.same s1).mono λt k v H2 s2 g=>k v H2 (s1.trans s2) g⟩⟩
end
noncomputable def r6:List Tr->Option (List Int)
 |[]=>some []
 |.int i::ts=>(r6 ts).map λr=>i::r
 |_=>none
theorem Ax{W:Vw}:∀{vs:List V} {ts:List Tr} {ns:List Int},bQ K W vs ts->r6 ts=some ns->vs=ns.map V.int
 |[],[],ns,_,e=>by cases e;rfl
 |[],_::_,_,h,_=>by cases h
 |v::vs,ts,ns,h,e=>by
  cases h with
  |cons h r=>
   cases h with
   |int i=>
    rename_i ts;have b:(r6 ts).map (λr=>i::r)=some ns:=e;cases q:r6 ts with
    |none=>rw[q]at b;cases b
    |some rs=>
     rw[q]at b;cases b;rw[Ax r q];rfl
   |_=>cases e
noncomputable def r8(ns:List Int):Int:=ns.getD (argBest (λi j=>decide (ns.getD i 0>ns.getD j 0)) (ns.length - 1)) 0
def LQ:List Tr->Rs Tr
 |[.lst ts]=>match r6 ts with
  |some ns=>if 0<ns.length then .ok (.int (r8 ns))else .bad
  |none=>.bad
 |[.int i,.int j]=>.ok (.int (if j>i then j else i))
 |_=>.bad
section
theorem Jp(hc:X.calm=true):gQ X (.builtin "max") (λxs H Q=>∃(a:Addr) (ns:List Int),xs=[.ref a]/\lT X.K H a (ns.map V.int)/\0<ns.length/\Q (.int (r8 ns)) H):=by
 intro U s Z H xs us Q I r h;obtain⟨a,ns,rfl,ha,ik,q⟩:=h;obtain⟨u,rfl,g⟩:=vals1 r;cases(show u=Value.ref a from g);obtain⟨cy,rv,pl,_⟩:=I.list ha;have l:cy.length=ns.length:=by have e:=rv.length;rw[bu]at e;exact e.symm
 have L:∀(i:Nat) (v:Value),cy.toArray[i]?=some v->∃t,v=.int (ns.getD i 0) t:=λi v hv=>by
  have M:cy[i]?=some v:=by simpa using hv
  have hi:i<ns.length:=by rw[<-l];exact(gD.mp M).1
  obtain⟨u,S,g⟩:=rv.get (i:=i) (x:=V.int ns[i]) (by rw[cq,bZ hi];rfl);rw[M]at S;cases S;obtain⟨t,rfl⟩:=(show∃t,v=Value.int ns[i] t from g);exact⟨t,by rw[eQ,bZ hi];rfl⟩
 have n:=pl.isList;have gJ:a<s.heap.objs.size:=by obtain⟨_,e,_⟩:=n;exact bz e
 refine call_max_walk (kP n ?_);refine⟨_,_,_,_,_,_,_,rfl,Walks.list (A:=X.A.in1) (I.ok.hd hc) _ a (cf gJ) cy.toArray,⟨⟨_,cz _ rfl,rfl,rfl⟩,n.push _⟩,λb hb=>?_,by simpa[l]using ik,CmpOf.ints_gt (λi=>ns.getD i 0) L,λv h' tk hP hk=>?_⟩
 ·show b<(s.heap.push _).objs.size;rw[jE];rcases bH.mp hb with rfl|hb
  ·exact pw _
  ·rw[de.mp hb];exact lR gJ
 ·obtain⟨t,rfl⟩:=L _ v hP;have e:cy.toArray.size=ns.length:=by rw[cU];exact l
  rw[e];refine⟨.int (r8 ns),H,I.kept (t':=tk) λb o e=>?_,⟨t,rfl⟩,q⟩;refine hk b o (λhm=>?_) (bS _ e);rw[de.mp hm]at e;exact absurd (bz e) (eZ _)
def LR(q:Fi X H (LQ ts) aB):(∃us ns,ts=[.lst us]/\r6 us=some ns/\0<ns.length/\aB (.int (r8 ns)))\/∃i j:Int,ts=[.int i,.int j]/\aB (.int (if j>i then j else i)):=by
 unfold LQ at q;split at q
 ·rename_i us;cases e:r6 us with
  |none=>rw[e]at q;exact fe q
  |some ns=>
   rw[e]at q;obtain⟨h0,z⟩:=gR q;exact .inl ⟨us,ns,rfl,e,h0,z⟩
 ·exact .inr ⟨_,_,rfl,q⟩
 ·exact fe q
theorem Q_(hc:X.calm=true):lW X (.builtin "max") LQ:=by
 intro U s Z H xs us Q I b ⟨B,ts,hb,r,q⟩;rcases LR q with⟨g,ns,rfl,e,h0,k⟩|⟨i,j,rfl,k⟩
 ·obtain⟨x,rfl,h⟩:=gw r;obtain⟨a,vs,rfl,h,rr⟩:=h.lst_inv;cases Ax rr e;exact Jp hc U s Z H _ us Q I b ⟨_,ns,rfl,.of (eB h),h0,k _ H (bo.refl H) (.int _)⟩
 ·obtain⟨x,y,e,h1,h2⟩:=z8 r;exact Il hc U s Z H _ us Q I b ⟨i,j,by rw[e,h1.int_inv,h2.int_inv],k _ H (bo.refl H) (.int _)⟩
variable {l:Expr}{p1 p2 XQ XR:Pos}
def DU(q:Fi X H (qi aC) aB):∃ts ss,aC=.lst ts/\oQ ts=some ss/\ss.length<64/\aB (.lst ((c_ (eV [] ss)).map .str)):=by
 unfold qi at q;split at q
 ·rename_i ts;cases e:oQ ts with
  |none=>rw[e]at q;exact fe q
  |some ss=>
   rw[e]at q;obtain⟨h0,z⟩:=gR q;exact⟨ts,ss,rfl,e,h0,z⟩
 ·exact fe q
theorem yP:∀(xs ss:List Str),(eV ss xs).length<=ss.length+xs.length
 |[],ss=>bA _
 |x::xs,ss=>by
  have b:=yP xs (gW ss x);have h2:=yF ss x;show(eV (gW ss x) xs).length<=_;rw[dA];omega
def FI{ss:List Str}(h:av∈gW ss x):av∈ss\/av=x:=by
 unfold gW at h;split at h
 ·exact .inl h
 ·rcases dF.mp h with h|h
  ·exact .inl h
  ·exact .inr (de.mp h)
theorem yQ:∀{xs ss:List Str} {z:Str},z∈eV ss xs->z∈ss\/z∈xs
 |[],ss,z,h=>.inl h
 |x::xs,ss,z,h=>by
  rcases yQ (xs:=xs) (ss:=gW ss x) h with h|h
  ·rcases FI h with h|h
   ·exact .inl h
   ·exact .inr (bH.mpr (.inl h))
  ·exact .inr (cw _ h)
theorem T6(hs:X.mg "sorted"=none)(hm:X.mg "set"=none)(hl:PE X l (tP X F))(hc:X.calm=true:=by rfl) (hg:Gl X "sorted":=by rfl) (LP:Gl X "set":=by rfl) (cJ:bC [l]=true:=by rfl):
  PE X (.Call (.Name "sorted" p1) [.Call (.Name "set" p2) [l] [] XR] [] XQ) (tP X λY=>(F Y).bind qi):=
 (pS (yH hc) hg hs rfl (lU (vk (Jc hc) LP hm rfl (lU hl sD (bO _ _ (bt cJ).1)) (by decide) (by decide) (bO _ _ (bt cJ).1) (cS (bt cJ).2)) sD (bO _ _ rfl)) (by decide) (by decide) (bO _ _ rfl) (cS (es:=[]) rfl)).weak λZ H Q ⟨B,Y,hb,r,q⟩=>⟨B,Y,hb,r,q.bind.mono λt g v H1 s1 n=>by
  obtain⟨ts,ss,rfl,I,S,k⟩:=DU g;cases n with
  |lst h L=>
   obtain⟨rfl,hs⟩:=vC L I;refine⟨_,ss,rfl,.of (eB h),?_,λa M=>⟨a,eV [] ss,rfl,bP,?_,λD b=>?_⟩⟩
   ·have:scanBound=9007199254740992\/ss.length+1<scanBound:=by
     right;show ss.length+1<scanBound;have N3:65<scanBound:=by decide
     omega
    rcases this with h|h
    ·omega
    ·exact h
   ·have:=yP ss [];simp at this;omega
   ·have s2:bo H1 (upd H1 a (Ja X.w a (eV [] ss))):=bo.upd M;have s3:bo (upd H1 a (Ja X.w a (eV [] ss))) (upd (upd H1 a (Ja X.w a (eV [] ss))) D (.lst ((c_ (eV [] ss)).map V.str))):=bo.upd b;exact k _ _ ((s1.trans s2).trans s3) (.zD ((hb.same s1).same s2) b (yM λz hz=>hs z ((yQ hz).resolve_left (by simp))))⟩
end
def abb:V->List V->Hp->VK->Prop:=λx xs H Q=>∃a b kvs more,x=.ref a/\xs=[.ref b]/\a≠b/\H a=some (.dK kvs)/\Rd H b (.dK more)/\kvs.length+more.length<=sizeLine/\Q .cA (upd H a (.dK (jd kvs more)))
theorem Jq:R0 X "dict.update" abb:=by
 intro U s Z H x xs v us Q I L M ⟨a,b,kvs,more,S,e2,Ff,ha,hb,hz,q⟩;subst S e2;obtain⟨u,rfl,ru⟩:=vals1 M;cases L;cases(show u=Value.ref b from ru);obtain⟨z1,s1,l,r1,r⟩:=(show cX X.prog X.w H s.heap a (.dK kvs)from I.cW a _ ha);obtain⟨z2,s2,n,r2,d2⟩:=(show cX X.prog X.w H s.heap b (.dK more)from hb.ok I.cW);refine jF PySem.F.slot_dict_update r.typeIs PySem.F.entry_dict_update (PySem.F.args_dict_update_2 _ _) (meets_dict_update (cu X.prog X.w) a b Ff s2) ⟨l,n,r,d2,by rw[<-KV.length r1,<-KV.length r2];exact hz,λh' g _ hs=>?_⟩;have he:∃q,h'.get? a=some q:=let⟨q,_,_,hq,_⟩:=g;⟨q,hq⟩
 have hl:(jd kvs more).length<=sizeLine:=cB (by have:=jv more kvs;omega) hz;exact⟨.cA,_,uv I (by rw[ha];exact True.intro) hs he (x_ hl s1 (r2.merge r1) g),rfl,q⟩
def Yi(o:Rz Tr)(k:Ab->Rz Tr):Rz Tr:=o.bind λt A=>match t with
 |.at i=>if nr A i=true then(k A).bind λb A=>match b with
  |.bW Fl=>if nr A i=true/\(o5 A i).length+Fl.length<=dZ then .ok .cA (A.set i (.bW (mr (o5 A i) Fl)))else .bad
  |_=>.bad
  else .bad
 |_=>.bad
theorem Yj(ho:PE X o (tE X aI))(he:PE X e (tE X aJ))(hb:isCall o=false:=by rfl) (cJ:bC [e]=true:=by rfl) (hl:(b8.endLine==p.line)=true:=by rfl):PE X (.Call (.Attribute o "update" b8) [e] [] p) (tE X λY A=>Yi (aI Y A) (aJ Y)):=
 (Gy qT PySem.F.slot_dict_update PySem.F.type_dict_update Jq ho (Hc he La (bt cJ).1) (gL hb) (by rw[jI cJ];rfl) hl (bO _ _ (bt cJ).1) (cS (bt cJ).2)).weak λZ H Q ⟨B,A,Y,ha,r,n,q⟩=>⟨B,A,Y,ha,r,n,q.bind.mono λt A1 I v B1 H1 g1 S rv=>by
  split at I
  ·obtain⟨a,rfl,rM⟩:=rv.nX;rename_i i;obtain⟨hd,q2⟩:=iz I;obtain⟨bE,kvs,e1,e2,e3,e4⟩:=rg S rM hd;refine⟨.inr (.inr (.inl ⟨rfl,.inl ⟨_,e3⟩⟩)),B1,A1,Y,S,r.grow n g1,n,?_⟩;have l:=(g6.bind q2).imp (λc A' (z:XE X B H c A')=>z.grow ha.hb g1);have step:g6 (XE X B1 H1) (Hb (aJ Y A1) λA=>.ok [] A) (λts A2=>∃L,ts=[L]/\g6 (XE X B H) (match L with
     |.bW Fl=>if nr A2 i=true/\(o5 A2 i).length+Fl.length<=dZ then .ok .cA (A2.set i (.bW (mr (o5 A2 i) Fl)))else .bad
     |_=>.bad) λt A'=>∀v B' H',Grows B H B' H'->HA X.K B' A' H'->Rep X.K (cn B' H') v t->Q v H'):=by
    cases eg:aJ Y A1 with
    |ok x A2=>rw[eg]at l;exact⟨x,rfl,l⟩
    |_=>rw[eg]at l;exact l
   refine step.mono λts A2 ⟨L,et,M⟩ vs B2 H2 g2 qe rs=>?_
   subst et;obtain⟨y,rfl,ry⟩:=gw rs;have BF:=g2.jR.x _ _ rM;split at M
   ·obtain⟨b,g,rfl,hm,em,rm⟩:=ry.nW;rename_i Fl _;obtain⟨⟨hd2,hz⟩,q4⟩:=iz M;obtain⟨TN,LD,f1,f2,f3,f4⟩:=rg qe BF hd2;rw[BE f1]at hz q4;have Ff:a≠b:=λz=>by
     have n:(cn B2 H2).H a=none:=by show(if B2.hd a=true then none else H2 a)=none;rw[aY f2]
     rw[<-z]at hm;rcases hm with h|⟨o,h⟩<;>(rw[n]at h;cases h)
    have b9:g.length=Fl.length:=by have:=cV List.length em;rw[bu,bu]at this;exact this
    obtain⟨g4,h6⟩:=qe.write (o:=.bW (mr TN Fl)) (u:=.dK (jd LD g)) BF ⟨f2,_,bP,by rw[jx f2];exact d6.merge ⟨em,rm⟩ f4⟩;exact⟨a,b,LD,g,rfl,rfl,Ff,f3,hm.same bJ,by rw[f4.length,b9,<-je];exact hz,q4 .cA B2 _ ((g1.trans ha.hb g2).trans ha.hb g4) h6 .cA⟩
   ·exact M.elim
  ·exact I.elim⟩
def Itk(ks:List Str):It:=⟨λi _=>i<ks.length,λi H x H'=>H'=H/\∃z,ks[i]?=some z/\x=.str z,λi _=>ks.length<=i⟩
theorem FJ(a it:Addr)(kvs:List (Str×Value))(o:Obj)(es:Array DictEntry)(ep:Nat)(lk:K.lookup a=some o)(ex:o.ExactDict)(hd:o.data=.dict es ep)(hk:KeysOf (PySem.strKind P w) es/\Pairs (PySem.strKind P w) es.toList kvs/\(kvs.map (·.1)).Nodup):Turn P w K tg (Itk (kvs.map (·.1))) [it] it (λi h=>h.IsKeyIter it a i kvs.length ep) where
 mem:=by simp
 obj:=λi h st b hb=>by
  have e:b=it:=by simpa using hb
  subst e;obtain⟨o,e,c,d⟩:=st;exact⟨o,e,λv z=>by rw[d]at z;cases z⟩
 keep:=λi h h' st k=>by
  obtain⟨o,e,c⟩:=st;exact⟨o,k it (by simp) o e,c⟩
 item:=by
  intro X l hw n hc i U s Z H E I hf st r;subst l hw n;have hi:i<kvs.length:=by have q:i<(kvs.map (·.1)).length:=r;rw[bu]at q;exact q
  have L:s.heap.get? a=some o:=I.ml a o lk;obtain⟨f0,f1,f2,M,f4,S⟩:=hf it (by simp);have g:kvs[i]?=some (kvs[i].1,kvs[i].2):=by simp[hi]
  refine wpAny_pyNext_dict_item (knd:=PySem.strKind X.prog X.w) st ⟨o,es,L,ex,hd,hk⟩ g λkey h' hk1 xX sb=>?_
  have I1:Inv X U Z H {s with heap:=h'}:=I.turned (t':=s.toks) (λb o hb e=>(sb.2 b hb).trans e) f0 f1 M f4 S;obtain⟨oi,e,c,d⟩:=id xX;refine⟨key,rfl,zR (s:={s with heap:=h'}) e c d (by decide) ⟨.str kvs[i].1,H,I1,?_,⟨rfl,kvs[i].1,by rw[cq,g];rfl,rfl⟩,xX,λb hb=>(hf b hb).1⟩⟩;exact vB (k:=.inr kvs[i].1) hk1
 done:=by
  intro X l hw n hc i U s Z H E I hf st r;subst l hw n;have hi:kvs.length<=i:=by have q:(kvs.map (·.1)).length<=i:=r;rw[bu]at q;exact q
  have L:s.heap.get? a=some o:=I.ml a o lk;obtain⟨f0,f1,f2,M,f4,S⟩:=hf it (by simp);exact wpAny_pyNext_dict_end (knd:=PySem.strKind X.prog X.w) (I.ok.hd hc) st ⟨o,es,L,ex,hd,hk⟩ (List.getElem?_eq_none hi) λh' eb=>⟨rfl,I.turned (t':=s.toks) (λb o hb e=>eb b o hb e) f0 f1 M f4 S⟩
 self:=λ_ _ _ _ _ st h=>wpAny_pyIter_keyiter st h
def BH(K:Frag)(w:World)(mg:Str->Option Value)(x:Str)(ks:List Str):Prop:=∃a kvs,mg x=some (.ref a)/\C9 K w a kvs/\kvs.map (·.1)=ks/\∀z∈ks,z.length<=cZ
theorem T7(T:BH X.K X.w X.mg x ps)(hg:Gl X x:=by rfl) (fQ:Db x:=by decide):PI X tg (.Name x p) (tI X λ_=>.ok (ps.map .str)):=by
 obtain⟨a,kvs,hm,⟨hs,o,es,ep,lk,ex,hd,g⟩,rfl,hz⟩:=T;intro U s Z H R I ⟨B,Y,hb,r,q⟩;refine qV I hg hm ?_ fQ
 have n:s.heap.get? a=some o:=I.ml a o lk;refine wpAny_pyIter_dict (knd:=PySem.strKind X.prog X.w) hs ⟨o,es,n,ex,hd,g X.prog⟩ ?_
 refine⟨s.heap.objs.size,[s.heap.objs.size],_,Itk (kvs.map (·.1)),H,rfl,I.kept (t':=s.toks) λb o e=>bS _ e,FJ a _ kvs o es ep lk ex hd (g X.prog),⟨_,cz _ rfl,rfl,rfl⟩,λb hb=>?_,?_⟩
 ·have e:b=s.heap.objs.size:=by simpa using hb
  subst e;exact I.xW (bA _) (I.cW.fresh (bA _))
 ·refine(show∀J H',bo H H'->lX X.K B J H' ((kvs.map (·.1)).map .str)->R J H' from q) _ H (bo.refl H) ⟨λi B' H' hi _ _=>?_,λi B' H' y S hi s2 OL ⟨L,z,l,M⟩=>?_,λB' H' _=>?_⟩
  ·have e:i<((kvs.map (·.1)).map Tr.str).length:=hi;rw[bu]at e;exact e
  ·subst L M;exact⟨bo.refl _,.str z,by rw[cq,l];rfl,.str z (hz z (d8 l))⟩
  ·show(kvs.map (·.1)).length<=((kvs.map (·.1)).map Tr.str).length;rw[bu (f:=Tr.str)];exact bA _
noncomputable def BI:Heap:={}
def qm(b:Addr):BI.get? b=none:=by
 cases e:BI.get? b with
 |none=>rfl
 |some o=>exact absurd (bz e) (xH _)
noncomputable def FK(h:Heap)(L:Addr):List (Addr×Obj):=(List.range h.objs.size).filterMap λb=>if b=L then none else(h.get? b).map λo=>(b,o)
def FL{o:Obj}:(au,o)∈FK aa a↔au≠a/\aa.get? au=some o:=by
 unfold FK;rw[lQ];constructor
 ·rintro ⟨c,_,e⟩
  by_cases z:c=a
  ·rw[aY z]at e;cases e
  ·rw[bc z]at e;cases q:aa.get? c with
   |none=>rw[q]at e;cases e
   |some u=>rw[q]at e;cases e;exact⟨z,q⟩
 ·rintro ⟨n,e⟩
  exact⟨au,t7.mpr (bz e),by rw[bc n,e];rfl⟩
theorem Inv.LS {m:Str->Option Value}{h':Heap}{tk:Nat}(I:Inv X U Z H s)(hn0:s.heap.Ns X.env.locals m)(hn:h'.Ns X.env.locals m)(kp:∀b o,b≠X.env.locals->s.heap.get? b=some o->h'.get? b=some o):Inv X U Z H {s with heap:=h',toks:=tk}:=by
 obtain⟨m0,L,hl⟩:=id I.loc;have Ig:=I.Ig;have lo:∀{b:Addr} {o:Obj},X.gH.heap.get? b=some o->b≠X.env.locals:=λ{b o} e=>cf (dc (bz e) I.ok.above);have em:m0=m:=by
  obtain⟨o1,wx,ep1,a1,b1,_,d1⟩:=L;obtain⟨o2,es2,ep2,a2,b2,_,d2⟩:=hn0;rw[a1]at a2;cases a2;rw[b1]at b2;cases b2;funext x;rw[<-d1 x,<-d2 x]
 subst em;refine⟨I.ok,I.os,I.bare,⟨λb o e n hb g=>kp b o (lo e) (I.base.keep b o e n hb g),λb o e n hb g=>?_,I.base.free,λb o e g=>?_,I.base.m4,I.base.lK,I.base.nU⟩,⟨m0,hn,λj y v' l e2 e3=>?_⟩,λy c e=>?_,I.free,I.gq,λp hp=>?_,λb u e=>?_,I.len⟩
 ·obtain⟨sl,l⟩:=I.base.slot b o e n hb g;exact⟨sl,kp b _ (lo e) l⟩
 ·obtain⟨o',l⟩:=I.base.there b o e g;exact⟨o',kp b o' (lo e) l⟩
 ·obtain⟨u',r',q⟩:=hl j y v' l e2 e3;refine⟨u',r',?_⟩;rcases q with⟨k,e⟩|⟨k,c,e,z⟩
  ·exact .inl ⟨k,e⟩
  ·obtain⟨oc,M,S⟩:=id z;exact .inr ⟨k,c,e,oc,kp c oc (Ig y c e) M,S⟩
 ·obtain⟨w',z⟩:=I.cell y c e;obtain⟨oc,M,S⟩:=id z;exact⟨w',oc,kp c oc (Ig y c e) M,S⟩
 ·obtain⟨e,n,ne,nf,d⟩:=I.pin p hp;exact⟨kp p.1 p.2 ne e,n,ne,nf,d⟩
 ·refine(I.cW b u e).pQ (λc w' r q=>kp c w' ?_ q) (λ_ q=>q) λ_ _ q=>q
  rintro rfl
  rcases r with rfl|r
  ·rw[I.free]at e;cases e
  ·rw[I.free]at r;cases r
def Ay:List Tr->Rs Tr
 |[.bW bE]=>.ok (.int bE.length)
 |ts=>Ox ts
theorem jg:lW X (.builtin "len") Ay:=by
 intro U s Z H xs us Q I b ⟨B,ts,hb,r,q⟩;by_cases z:∃bE,ts=[.bW bE]
 ·obtain⟨bE,rfl⟩:=z;cases r with
  |cons h r=>
   cases r;cases h with
   |@bW a kvs _ h g M=>
    obtain⟨u,rfl,l⟩:=vals1 b;cases l;have n:kvs.length=bE.length:=by have:=cV List.length g;rw[bu,bu]at this;exact this
    exact Wd I (h.same bJ) λt s' L=>⟨.int kvs.length,H,L,⟨t,rfl⟩,(show∀v H',bo H H'->Rep X.K (cn B H') v (.int bE.length)->Q v H' from q) _ H (bo.refl H) (by rw[n];exact .int _)⟩
 ·have e:Ay ts=Ox ts:=by
   unfold Ay;split
   ·exact absurd ⟨_,rfl⟩ z
   ·rfl
  rw[e]at q;exact WY U s Z H xs us Q I b ⟨B,ts,hb,r,q⟩
def Jr:typeLookup (.type "list") "keys"=pure none:=by rw[typeLookup_type,xt];kernel_rfl
section
variable {k:Nat}{sl:Array (Option Value)}
theorem FN(q:s.heap.get? a=some {cls:=.type "list",dict:=none,data:=.seq ak k,slots:=sl}) (hA:A.handled=none)
  (h:∀h' tk,(∀b o,s.heap.get? b=some o->h'.get? b=some o)->aM none {s with heap:=h',toks:=tk}):wpAny (model P w) A (getAttr? (.ref a) "keys") aM E s:=by
 obtain⟨hp,g,d,tk,os⟩:=s;have I:∀l,(⟨hp,g,d,l,os⟩:Shared).TypeIs (.ref a) "list":=λ_=>⟨_,q,rfl⟩;have f1:=sub_AttributeError;have L:=xp.lookup;have f4:=xp.bind (.ref a);have M:=am_list_getattr_none;unfold getAttr? getAttrBy? getAttrBy
 repeat(any_goals (first|assumption|exact I _|((with_reducible show wpAny _ _ (call (Value.builtin "list.__getattribute__") _ _) _ _ _);refine kW xp (I _) am_entry_list_getattribute (F.args_list_getattribute_2 _ _) (meets_getattribute_miss_list a ak k sl "keys" _ Jr (by decide+kernel) (by size_fits)) ⟨q,hA,λh' l e n=>?_⟩)|wp_step))
 obtain⟨t',u',he⟩:=n.there;have r:∀l,(⟨h',g,d,l,os⟩:Shared).TypeIs (.ref e) "AttributeError":=λ_=>⟨_,he,rfl⟩;show wpAny _ _ (getattributeRaised _ _ _ _ _ _ _) _ _ _;unfold getattributeRaised
 repeat(any_goals (first|assumption|exact r _|wp_step))
 exact h h' l n.of.keeps
def Az:entryFor table "dict.update.loop"=some Builtin.«dict.update.loop»:=entryFor_of_tree (by kernel_rfl)
def ri:plainId "dict.update.loop"=true:=by decide+kernel
theorem LU{h0:Heap}{d I:Addr}{pairs:List (Key×Value)}(hh:A.handled=none)(hl:h0.IsList a aq.toArray)(b9:aq.length=pairs.length)(hp:∀(j:Nat) (t:Value),aq[j]?=some t->∃ad key k v,t=.ref ad/\h0.IsTuple ad #[key,v]/\m3 k key=true/\pairs[j]?=some (k,v))
  (XU:h0.get? d=none) (hI0:h0.get? I=none) (q:d≠I) (hz:pairs.length<=100000)
  (hR:∀h' wA,(∀b o,h0.get? b=some o->h'.get? b=some o)->h'.DictOf (cu P w) d (merged [] pairs)->aw (.ok (.ret .none)) {s with heap:=h',toks:=wA}):
  ∀(r i:Nat) (h:Heap) (tk:Nat) (kvs:List (Key×Value)),pairs.length - i=r->i<=pairs.length->kvs.length<=i->merged kvs (pairs.drop i)=merged [] pairs->(∀b o,h0.get? b=some o->h.get? b=some o)->h.IsListIter I a i->h.DictOf (cu P w) d kvs->
   codeAny (model P w) A (.builtin "dict.update.loop" ⟨[.ref d,.ref I,rawInt i,.none],[]⟩) aw {s with heap:=h,toks:=tk}:=by
 have l:∀{h:Heap},(∀b o,h0.get? b=some o->h.get? b=some o)->h.IsList a aq.toArray:=λ{h} k=>by obtain⟨o,e,x⟩:=hl;exact⟨o,k _ _ e,x⟩
 have nd:∀{b:Addr} {o:Obj},h0.get? b=some o->b≠d:=λ{b o} e z=>by rw[z,XU]at e;cases e
 have nI:∀{b:Addr} {o:Obj},h0.get? b=some o->b≠I:=λ{b o} e z=>by rw[z,hI0]at e;cases e
 intro r
 induction r with
 |zero=>
  intro i h tk kvs hr hi hk hm kp it dd;have e:i=pairs.length:=by omega
  subst e;refine gb Az ?_
  rw[g_ ri _];show wpAny _ A.in1 (pyNext (.ref I)>>=_) _ _ _;refine aU (wpAny_pyNext_list_end hh it (l kp) (by simp[b9]) λh' eb=>?_);rw[pA]at hm;have S:h'.DictOf (cu P w) d kvs:=by
   obtain⟨o,es,ep,e,x⟩:=dd;exact⟨o,es,ep,eb d o q e,x⟩
  show wpAny _ A.in1 (Builtin.Dict.addKeywords d []>>=_) _ _ _;refine aU (bg (bg ?_));exact hR h' tk (λb o e=>eb b o (nI e) (kp b o e)) (by rw[<-hm];exact S)
 |succ r ih=>
  intro i h tk kvs hr hi hk hm kp it dd;have gJ:i<pairs.length:=by omega
  have L:i<aq.length:=by omega
  obtain⟨ad,key,k,v,et,tp,Kl,ep⟩:=hp i aq[i] (by simp[L]);have J_:pairs[i]=(k,v):=by rw[bZ gJ]at ep;exact Option.some.inj ep
  refine gb Az ?_
  rw[g_ ri _];show wpAny _ A.in1 (pyNext (.ref I)>>=_) _ _ _;refine aU (wpAny_pyNext_list_item it (l kp) (x:=.ref ad) (by simp[L,et]) λh' it' sb=>?_);have g:∀b o,h0.get? b=some o->h'.get? b=some o:=λb o e=>(sb.2 b (nI e)).trans (kp b o e);have S:h'.DictOf (cu P w) d kvs:=by
   obtain⟨o,es,ep,e,x⟩:=dd;exact⟨o,es,ep,(sb.2 d q).trans e,x⟩
  obtain⟨ot,e1,e2,n,e3⟩:=tp;have hT:Shared.TypeIs {s with heap:=h',toks:=tk} (.ref ad) "tuple":=⟨ot,g _ _ e1,e2⟩;refine aU ?_
  refine fK ?_
  refine aU (kU ?_);unfold Builtin.Dict.pairItems;refine aU (ub hT ?_);rw[aY (by decide)];refine aU (hV (g _ _ e1) e3 ?_);refine bg ?_
  show wpAny _ A.in1 (holding [key,v] (dictSet d key v)) _ _ _;refine fK (wpAny_dictSet_pairs (knd:=cu P w) (hsz:=by rw[dW];omega) Kl S λh2 U' M=>?_);show wpAny _ A.in1 (pure _) _ _ _;refine bg ⟨hW ri _,?_⟩;have hc:rawInt ((i:Int)+1)=rawInt ((i+1:Nat):Int):=by push_cast;rfl
  rw[hc];refine ih (i+1) h2 _ (stored kvs k v) (by omega) gJ ?_ ?_ (λb o e=>(M.2 b (nd e)).trans (g b o e)) ?_ U'
  ·exact cB (stored_length_le kvs k v) (by omega)
  ·rw[o8 gJ,J_]at hm;exact hm
  ·obtain⟨o,e,x⟩:=it';exact⟨o,(M.2 I (Ne.symm q)).trans e,x⟩
theorem FO{pairs:List (Key×Value)}{q:Array (Option Value)}(hh:A.handled=none)(hx:s.heap.get? a=some {cls:=.type "list",dict:=none,data:=.seq aq.toArray i,slots:=q}) (b9:aq.length=pairs.length)
  (hp:∀(j:Nat) (t:Value),aq[j]?=some t->∃ad key k v,t=.ref ad/\s.heap.IsTuple ad #[key,v]/\m3 k key=true/\pairs[j]?=some (k,v)) (hz:pairs.length<=100000)
  (h:∀h' wA,(∀b o,s.heap.get? b=some o->h'.get? b=some o)->h'.DictOf (cu P w) s.heap.objs.size (merged [] pairs)->Q (.ref s.heap.objs.size) {s with heap:=h',toks:=wA}):
  wpAny (model P w) A (call (.type "dict") [.ref a]) Q E s:=by
 refine callType_codes (Q₁:=λobj I=>obj=.ref s.heap.objs.size/\I={s with heap:=s.heap.push {cls:=.type "dict",data:=.dict #[]}}) F.kt_called_dict (F.kt_typeCall_dict_1 _) F.entry_dict_init (kt_code_dict_new _ ⟨rfl,rfl⟩) ?_
 rintro obj I ⟨rfl,rfl⟩
 have n:(s.heap.push {cls:=.type "dict",data:=.dict #[]}).DictOf (cu P w) s.heap.objs.size []:=Heap.DictOf.new s.heap;have l:=bS {cls:=.type "dict",data:=.dict #[]} hx;have L:Shared.TypeIs {s with heap:=s.heap.push {cls:=.type "dict",data:=.dict #[]}} (.ref a) "list":=⟨_,l,rfl⟩;refine⟨n.typeIs,F.args_dict_init_2 _ _,?_⟩;unfold Builtin.«dict.__init__»;refine aU ?_
 unfold Builtin.Dict.selfAndRest;refine aU (wpAny_notOrdered_dict n.typeIs ?_);show wpAny _ _ (pure (s.heap.objs.size,[Value.ref a])) _ _ _;refine bg ?_
 show wpAny _ _ (Builtin.Dict.updateFrom "dict.__init__" s.heap.objs.size (.ref a) [] .none) _ _ _;unfold Builtin.Dict.updateFrom;refine aU (ub L ?_);rw[aY (by decide)];refine aU (FN l hh λg M k1=>?_);rw[aY (show(none:Option Value).isNone=true from rfl)];have k2:∀b o,s.heap.get? b=some o->g.get? b=some o:=λb o e=>k1 b o (bS _ e);have S:g.get? s.heap.objs.size=some {cls:=.type "dict",data:=.dict #[]}:=k1 _ _ (cz _ rfl);have r:g.DictOf (cu P w) s.heap.objs.size []:=by
  obtain⟨o,es,ep,e,x⟩:=n;exact⟨o,es,ep,k1 _ _ e,x⟩
 have gJ:s.heap.objs.size<g.objs.size:=bz S;have hl:s.heap.IsList a aq.toArray:=⟨_,hx,rfl,_,rfl⟩;refine aU (fP ?_);refine aU (kP (show g.IsList a aq.toArray from⟨_,k2 _ _ hx,rfl,_,rfl⟩) ?_);refine bg ⟨hW ri _,?_⟩;refine LU (s:=s) (h0:=s.heap) (A:=A.in1) hh hl b9 hp (by
   cases e:s.heap.get? s.heap.objs.size with
   |none=>rfl
   |some o=>exact absurd (bz e) (eZ _)) (by
   cases e:s.heap.get? g.objs.size with
   |none=>rfl
   |some o=>exact absurd (bz (k2 _ _ e)) (eZ _)) (cf gJ) hz (λh' wA kp dd=>⟨rfl,h h' wA kp dd⟩) _ 0 _ _ [] rfl (d_ _) (bA _) rfl (λb o e=>bS _ (k2 b o e)) ⟨_,cz _ rfl,rfl,rfl⟩ ?_
 obtain⟨o,es,ep,e,x⟩:=r;exact⟨o,es,ep,bS _ e,x⟩
end
def BJ:List Tr->Option (List (Key×Tr))
 |[]=>some []
 |.tup [k,v]::r=>match ko k,BJ r with
  |some key,some l=>some ((key,v)::l)
  |_,_=>none
 |_=>none
def FP:List Tr->Rs Tr
 |[.lst ts]=>match BJ ts with
  |some bE=>if bE.length<=100000 then .ok (.bW (mr [] bE))else .bad
  |none=>.bad
 |_=>.bad
def Js(h:BJ (aC::ts)=some aG):∃k v key l,aC=.tup [k,v]/\ko k=some key/\BJ ts=some l/\aG=(key,v)::l:=by
 unfold BJ at h;split at h
 ·cases‹aC::ts=[]›
 ·rename_i k v r e;cases e;cases b:ko k with
  |none=>rw[b]at h;cases h
  |some key=>
   cases g:BJ ts with
   |none=>rw[b,g]at h;cases h
   |some l=>rw[b,g]at h;cases h;exact⟨k,v,key,l,rfl,b,rfl,rfl⟩
 ·cases h
theorem Hm(I:Inv X U Z H s):∀{vs:List V} {ts:List Tr} {bE:List (Key×Tr)} {cy:List Value},bQ X.K (cn B H) vs ts->BJ ts=some bE->Vals vs cy->
  ∃(kvs:List (Key×V)) (ps:List (Key×Value)),d6 X.K (cn B H) kvs bE/\KV kvs ps/\cy.length=ps.length/\∀(j:Nat) (t:Value),cy[j]?=some t->∃ad key k v,t=.ref ad/\s.heap.IsTuple ad #[key,v]/\m3 k key=true/\ps[j]?=some (k,v)
 |[],[],_,_,_,e,rv=>by cases e;cases rv;exact⟨[],[],.nil,.nil,rfl,λj t e=>by simp at e⟩
 |[],_::_,_,_,h,_,_=>by cases h
 |v::vs,ts,bE,cy,h,e,rv=>by
  cases h with
  |cons h r=>
   obtain⟨k,w',key,l,rfl,n,L,rfl⟩:=Js e;cases rv with
   |cons M rv=>
    obtain⟨kvs,ps,S,q,q3,q4⟩:=Hm I r L rv;obtain⟨ad,us,rfl,hq,rr⟩:=h.dX;cases M;obtain⟨x1,x2,rfl,rk,pT⟩:=z8 rr;obtain⟨x9,Np,pl,_⟩:=I.tuple (bo.tup bJ hq);obtain⟨u1,b,rfl,r1,r2⟩:=vals2 Np;cases nY rk n;refine⟨(key,_)::kvs,(key,b)::ps,.cons pT S,.cons ⟨rfl,r2⟩ q,by rw[dA,dA,q3],λj t g=>?_⟩;cases j with
    |zero=>cases g;exact⟨ad,u1,key,b,rfl,pl,pW (P:=X.prog) (w:=X.w) r1,rfl⟩
    |succ j=>exact q4 j t g
theorem Hn(hc:X.calm=true):gQ X (.type "dict") (rF X FP):=by
 intro U s Z H xs us Q I rv ⟨B,ts,hb,r,q⟩;have key:∃b bE,ts=[.lst b]/\BJ b=some bE/\bE.length<=100000/\∀v H',bo H H'->Rep X.K (cn B H') v (.bW (mr [] bE))->(∀p,v=.ref p->S2 H H' p)->Q v H':=by
  unfold FP at q;split at q
  ·rename_i b;cases e:BJ b with
   |none=>rw[e]at q;exact fe q
   |some bE=>
    rw[e]at q;obtain⟨h0,z⟩:=gR q;exact⟨b,bE,rfl,e,h0,z⟩
  ·exact fe q
 obtain⟨b,bE,rfl,ep,hz,k⟩:=key;obtain⟨x,rfl,h⟩:=gw r;obtain⟨a,vs,rfl,h,rr⟩:=h.lst_inv;obtain⟨u,rfl,ru⟩:=vals1 rv;cases(show u=Value.ref a from ru);obtain⟨z0,cy,n0,g,hx⟩:=(show cX X.prog X.w H s.heap a (.lst vs)from I.cW a _ (eB h));obtain⟨kvs,ps,l,S,q3,q4⟩:=Hm I rr ep g;have hl:kvs.length=bE.length:=l.length;have n:ps.length<=100000:=by rw[<-KV.length S,hl];exact hz
 refine FO (I.ok.hd hc) hx q3 q4 n λh' wA kp dd=>?_
 have hf:H s.heap.objs.size=none:=I.fresh;have L:(jd [] kvs).length<=sizeLine:=by have:=jv kvs [];rw[xG]at this;rw[dW];omega
 have M:(s.heap.objs.size==sysModules)=false:=by
  have:=I.big;exact km (dN this)
 refine⟨.ref s.heap.objs.size,_,I.laid (t':=wA) (o:=.dK (jd [] kvs)) kp (bA _) (x_ L M (S.merge .nil) dd),rfl,k _ _ (bo.upd hf) (.bW (.inl (hb.new hf)) ?_ ?_) λp' e=>by cases e;exact .upd hf (λ_ _ z=>by cases z)⟩
 ·exact(d6.merge l d6.nil).keys
 ·exact(d6.merge l d6.nil).vals.same (bL (bo.upd hf))
section
variable {prog:Program}
noncomputable def jU(x y:Int×Int):Bool:=decide (x.1<y.1\/(x.1=y.1/\x.2<y.2))
theorem int_lt{x y:Int}{t u:Tok}(h:Q (.bool (decide (x<y))) s):wpAny (model prog w) A (richCompare .Lt (.int x t) (.int y u)) Q E s:=
 CmpOf.ints_lt (prog:=prog) (w:=w) (A:=A) (P:=λi v=>∃t,v=.int ([x,y].getD i 0) t) (λi=>[x,y].getD i 0) (λi v h=>h) 0 1 _ _ _ _ _ ⟨t,rfl⟩ ⟨u,rfl⟩ h
theorem BK{x y:Int×Int}{t1 t2 u1 u2:Tok}{oa ob:Obj}{P:PySem.Fin->Shared->Prop}
  (Yk:s.heap.get? a=some oa) (q:oa.data=.seq #[.int x.1 t1,.int x.2 t2] i) (ON:s.heap.get? au=some ob) (fQ:ob.data=.seq #[.int y.1 u1,.int y.2 u2] az) (hTb:s.TypeIs (.ref au) "tuple")
  (h:P (.done (.ret (.bool (jU x y)))) s):wpAny (model prog w) A (Builtin.«tuple.__lt__» ⟨[.ref a,.ref au],[]⟩) P E s:=by
 show wpAny _ _ (isInstance (.ref au) (.type "tuple")>>=_) _ _ s;refine aU (pF hTb isSubtype_tuple_tuple ?_);simp only[dg,cH,cg];refine aU (wpAny_tupleItemsOf Yk q ?_);refine aU (wpAny_tupleItemsOf ON fQ ?_);refine aU ?_
 show wpAny _ _ (forIn [(Value.int x.1 t1,Value.int y.1 u1),(Value.int x.2 t2,Value.int y.2 u2)] _ _) _ _ s;rw[pD];refine aU (aU (wpAny_eqBool_int ?_));by_cases b:x.1=y.1
 ·rw[fu.mpr b];simp only[dg,cH,cg];refine bg ?_
  dsimp only;rw[pD];refine aU (aU (wpAny_eqBool_int ?_));by_cases g:x.2=y.2
  ·rw[fu.mpr g];simp only[dg,cH,cg];refine bg ?_
   dsimp only;rw[xR];refine bg (bg ?_);have e:jU x y=false:=by unfold jU;exact fo (by omega)
   rw[e]at h;exact h
  ·rw[km g];simp only[d9,cj];have e:jU x y=decide (x.2<y.2):=by unfold jU;exact xE.mpr (by omega)
   rw[e]at h;exact aU (fP (aU (int_lt (aU (bg (bg (bg (bg h))))))))
 ·rw[km b];simp only[d9,cj];have e:jU x y=decide (x.1<y.1):=by unfold jU;exact xE.mpr (by omega)
  rw[e]at h;exact aU (fP (aU (int_lt (aU (bg (bg (bg (bg h))))))))
theorem O8{x y:Int×Int}{t1 t2 u1 u2:Tok}{q ob:Obj}(hu:A.units<cLine)
  (Yk:s.heap.get? a=some q) (hca:q.cls=.type "tuple") (hda:q.data=.seq #[.int x.1 t1,.int x.2 t2] i) (ON:s.heap.get? au=some ob) (hcb:ob.cls=.type "tuple") (fQ:ob.data=.seq #[.int y.1 u1,.int y.2 u2] az)
  (h:Q (.bool (jU x y)) s):wpAny (model prog w) A (richCompare .Lt (.ref a) (.ref au)) Q E s:=
 wpAny_richCompare_same_room (op:=.Lt) (T:="tuple") ⟨q,Yk,hca⟩ ⟨ob,ON,hcb⟩ F.slot_tuple_lt (hJ F.slot_tuple_lt ⟨q,Yk,hca⟩ F.entry_tuple_lt (BK Yk hda ON fQ ⟨ob,ON,hcb⟩ ⟨_,rfl,(λe=>nomatch e),h⟩) (F.args_tuple_lt_2 _ _)) hu
end
def dt(kf:Nat->Int×Int):Nat->Nat
 |0=>0
 |j+1=>if jU (kf (j+1)) (kf (dt kf j))=true then j+1 else dt kf j
section
variable {f l S I:Addr}{fd:FuncData}{k:Nat}{kf:Nat->Int×Int}
theorem DV(G:eI X.prog X.w X.K X.mg X.base mH k f fd ps (spT X.K h))(bd:Binds X.K fd ps [])(hr:dk (k+1) X.A){v:V}{t:Tr}{p:Int×Int}
  (q:Inv X U Z H s) (hq:(au,PySem.W.methodObj (.ref f) (.ref a))∈U) (hb:HB B H) (ro:Rep X.K (cn B H) (.ref a) aC) (rt:Rep X.K (cn B H) v t) (rv:RelV v af) (he:h [aC,t]=.ok (.tup [.int p.1,.int p.2])):
  wpAny (model X.prog X.w) X.A.in1 (call (.ref au) [af]) (λw' s'=>∃kb H',w'=.ref kb/\Inv X U Z H' s'/\bo H H'/\ju X.K H' kb [.int p.1,.int p.2]) E s:=by
 have l:spT X.K h [.ref a,v] H (λv' H'=>bo H H'/\Rep X.K (cn B H') v' (.tup [.int p.1,.int p.2])) E0:=⟨B,[aC,t],hb,.cons ro (.cons rt .nil),_,he,λv' H' b r=>⟨b,r⟩⟩;have I:([.ref a,af]++[]:List Value).length=ps.length:=G.len _ _ _ _ l;refine pP (PySem.W.method_call (q.pin _ (dD _ hq)).1 ?_);refine iO (G.run X.A.in1 X.stack s H ⟨[.ref a,af],[]⟩ [.ref a,af] [.ref a,v] _ E0 hr.in1 q.RW.in1 (bd s [.ref a,af] q.ml I) (.cons rfl (.cons rv .nil)) l) λr s' g=>?_
 match r,g with
 |.ok (.ret w'),g=>
  obtain⟨v',H',L,M,b,rep⟩:=q.after g;obtain⟨kb,vs,rfl,n,rr⟩:=rep.dX;obtain⟨x,y,rfl,r1,r2⟩:=z8 rr;rw[r1.int_inv,r2.int_inv]at n;exact⟨kb,H',M,L,b,bo.tup bJ n⟩
end
section
variable {f l S I:Addr}{fd:FuncData}{k:Nat}{kf:Nat->Int×Int}
theorem DW{p:Int×Int}(Iv:Inv X U Z H s)(hT:ju X.K H a [.int p.1,.int p.2]):∃q t1 t2 n,s.heap.get? a=some q/\q.cls=.type "tuple"/\q.data=.seq #[.int p.1 t1,.int p.2 t2] n:=by
 obtain⟨cy,rv,⟨q,e,b,n,hd⟩,_⟩:=Iv.tuple hT;obtain⟨g,l,rfl,r1,r2⟩:=vals2 rv;obtain⟨t1,rfl⟩:=(show∃t,g=Value.int p.1 t from r1);obtain⟨t2,rfl⟩:=(show∃t,l=Value.int p.2 t from r2);exact⟨q,t1,t2,n,e,b,hd⟩
def Ho{c:HO}{vs:List V}(ik:a≠S)(q:ju K H a vs):ju K (upd H S c) a vs:=by
 rcases q with(q|⟨b,q⟩)|q
 ·exact .inl (.inl (by rw[bq ik];exact q))
 ·exact .inl (.inr ⟨b,by rw[bq ik];exact q⟩)
 ·exact .inr q
def LV{l:List V}(Iv:Inv X U Z H s)(q:ju X.K H a ar)(e:H S=some (.lst l)):a≠S:=λz=>by
 subst z;rcases q with(q|⟨aC,q⟩)|⟨aC,cy,n,b,_⟩
 ·rw[e]at q;cases q
 ·rw[e]at q;cases q
 ·rw[(Iv.bs _ _ (Iv.ok.mod.Qf _ _ b)).2]at e;cases e
theorem Jt(hc:X.calm=true)(G:eI X.prog X.w X.K X.mg X.base mH k f fd ps (spT X.K h))(bd:Binds X.K fd ps [])(hr:dk (k+1) X.A)(hq:(au,PySem.W.methodObj (.ref f) (.ref a))∈U)
  (hS:ac S=none) (hb:HB B ac) (ro:Rep X.K (cn B ac) (.ref a) aC) (rx:bQ X.K (cn B ac) ar ts) (hl:lT X.K ac l ar) (Yl:l≠I)
  (hk:∀i t,ts[i]?=some t->h [aC,t]=.ok (.tup [.int (kf i).1,.int (kf i).2]))
  (hR:∀q u H s,ar[dt kf (ar.length - 1)]?=some q->Inv X U Z H s->bo ac H->RelV q u->aw (.ok (.ret u)) s):
  ∀(r j:Nat) (s:Shared) (H:Hp) (q:V) (kb:Addr),ar.length - (j+1)=r->j+1<=ar.length->Inv X U Z H s->bo ac H->H S=some (.lst [q,.ref kb])->ar[dt kf j]?=some q->
   ju X.K H kb [.int (kf (dt kf j)).1,.int (kf (dt kf j)).2]->s.heap.IsListIter I l (j+1)->kY X U H I->
   codeAny (model X.prog X.w) X.A (.builtin "min.loop" ⟨[.ref I,.ref au,.ref S],[]⟩) aw s:=by
 have DX:(toString "min"++toString ".loop":String)="min.loop":=by decide
 intro r
 induction r with
 |zero=>
  intro j s H q kb LW hj g n Vt DY hT hit L;have lL:j+1=ar.length:=by omega
  obtain⟨cy,rv,pl,_⟩:=g.list (bo.seq n hl);have b9:cy.length=ar.length:=rv.length.symm;have W:=Walks.list (prog:=X.prog) (w:=X.w) (A:=X.A.in1) (g.ok.hd hc) I l Yl cy.toArray;obtain⟨_,x9,n2,Np,_,eS⟩:=g.zz Vt;obtain⟨u,u2,rfl,ru,XJ⟩:=vals2 Np;cases(show u2=Value.ref kb from XJ);refine gb xn ?_
  rw[g_ nN _];show wpAny _ X.A.in1 (seqItems? (.ref S)>>=_) _ _ _;refine aU (hV eS rfl ?_);show wpAny _ X.A.in1 (tryCatch (pyNext (.ref I)) _>>=_) _ _ _;refine aU (kU (W.done _ _ _ ⟨by rw[cU,b9,<-lL];exact hit,pl.isList⟩ λh' wA OO=>?_));have I1:Inv X U Z H {s with heap:=h',toks:=wA}:=g.rf (ch:=[I]) (λb hb=>by rw[de.mp hb];exact L) OO;obtain⟨_,Ym,n3,rv3,_,eS'⟩:=I1.zz Vt;have M:=I1.NU (uf:=[]) (f:=λ_=>(#[]:Array Value)) (t':=wA) Vt eS' rfl .nil (d_ _);show wpAny _ X.A.in1 (updateSeq S (λ_=>#[])>>=_) _ _ _;refine aU (pI eS' rfl (aU (mX (bg ?_))));refine hR q u _ _ ?_ M (n.Bh hS) ru
  rw[<-lL];exact DY
 |succ r ih=>
  intro j s H q kb LW hj g n Vt DY hT hit L;have gJ:j+1<ar.length:=by omega
  obtain⟨cy,rv,pl,_⟩:=g.list (bo.seq n hl);have b9:cy.length=ar.length:=rv.length.symm;have W:=Walks.list (prog:=X.prog) (w:=X.w) (A:=X.A.in1) (g.ok.hd hc) I l Yl cy.toArray;obtain⟨_,x9,n2,Np,_,eS⟩:=g.zz Vt;obtain⟨u,u2,rfl,ru,XJ⟩:=vals2 Np;cases(show u2=Value.ref kb from XJ);refine gb xn ?_
  rw[g_ nN _];show wpAny _ X.A.in1 (seqItems? (.ref S)>>=_) _ _ _;refine aU (hV eS rfl ?_);show wpAny _ X.A.in1 (tryCatch (pyNext (.ref I)) _>>=_) _ _ _;refine aU (kU (W.item (j+1) _ _ _ (by rw[cU,b9];exact gJ) ⟨hit,pl.isList⟩ λv h' wA hP Lj OO=>?_));refine hide λP go=>?_
  have hv:cy[j+1]?=some v:=by simpa using hP
  obtain⟨xv,T8⟩:∃y,ar[j+1]?=some y:=⟨_,bZ gJ⟩
  obtain⟨v',Km,Yn⟩:=rv.get T8;cases hv.symm.trans Km;obtain⟨tv,htv,rtv⟩:=rx.yh T8;have I1:Inv X U Z H {s with heap:=h',toks:=wA}:=g.rf (ch:=[I]) (λb hb=>by rw[de.mp hb];exact L) OO;obtain⟨oI,hoI,RC,Vu⟩:=id Lj.1;have I1p:Inv X ((I,oI)::U) Z H {s with heap:=h',toks:=wA}:=I1.kn λp hp=>by
   rcases bH.mp hp with rfl|hp
   ·exact⟨hoI,L.1,L.2.1,L.2.2.1,λv z=>by rw[Vu]at z;cases z⟩
   ·exact I1.pin p (dD _ hp)
  refine go ?_
  show wpAny _ X.A.in1 (tryCatch (holding [v] (call (.ref au) [v])) _>>=_) _ _ _;refine aU (kU (fK (ee (DV G bd hr I1p (cw _ hq) (hb.same n) (ro.same (bL n)) (rtv.same (bL n)) Yn (hk _ _ htv)) (λw' s2 hw=>?_) λ_ _ x=>x)));obtain⟨kb2,H2,rfl,T9,JY,Vv⟩:=hw;refine hide λP go=>?_
  have nI:=T9.pin (I,oI) (dD _ (cG ..));have M:Inv X U Z H2 s2:=T9.kn λp hp=>T9.pin p (dD _ (cw _ hp));have zH:H2 S=some (.lst [q,.ref kb]):=JY _ _ Vt;obtain⟨_,Ym,n3,rv3,_,Yo⟩:=M.zz zH;obtain⟨oa,t1,t2,na,ea,ca,da⟩:=DW M Vv;obtain⟨ob,t3,t4,nb,eb,cb,db⟩:=DW M (JY.tup hT);have hu:X.A.in1.units<cLine:=xr (by show X.A.units+1<=X.A.units+16*(k+1)+200;omega) hr.un;have abc:kY X U H2 I:=⟨nI.2.1,L.2⟩;have T_:bo ac H2:=n.trans JY;refine go ?_
  show wpAny _ X.A.in1 (tryCatch (holding [v,.ref kb2] (richCompare .Lt (.ref kb2) (.ref kb)>>=_)) _>>=_) _ _ _;refine aU (kU (fK (aU (O8 (x:=kf (j+1)) (y:=kf (dt kf j)) hu ea ca da eb cb db ?_))));refine aU (fK (pB ?_));refine aU (mX (bg ?_));by_cases JV:jU (kf (j+1)) (kf (dt kf j))=true
  ·have Yp:dt kf (j+1)=j+1:=aY JV;have I3:=M.NU (uf:=[v,.ref kb2]) (f:=λ_=>(#[v,.ref kb2]:Array Value)) (ys:=[xv,.ref kb2]) (t':=s2.toks) zH Yo rfl (.cons Yn (.cons rfl .nil)) (by show 2<=sizeLine;decide);simp only[JV,cj];refine aU (pI Yo rfl (aU (mX ?_)));rw[DX];have Nn:S≠I:=λz=>by rw[z,nI.2.1]at zH;cases zH
   have hkS:kb2≠S:=LV M Vv zH;refine bg ⟨hW nN _,ih (j+1) _ _ xv kb2 (by omega) gJ I3 (T_.Bh hS) bP (by rw[Yp];exact T8) ?_ ⟨oI,(nP s2.heap _ Nn).trans nI.1,RC,Vu⟩ ⟨by rw[bq Nn.symm];exact nI.2.1,L.2⟩⟩;rw[Yp];exact Ho hkS Vv
  ·have Yp:dt kf (j+1)=dt kf j:=bc JV;simp only[JV,cg];refine aU (mX ?_);rw[DX];refine bg ⟨hW nN _,ih (j+1) s2 H2 q kb (by omega) gJ M T_ zH (by rw[Yp];exact DY) (by rw[Yp];exact JY.tup hT) ⟨oI,nI.1,RC,Vu⟩ abc⟩
end
section
variable {f l S I:Addr}{fd:FuncData}{k:Nat}{xs:List V}{kf:Nat->Int×Int}
theorem Ju(hc:X.calm=true)(G:eI X.prog X.w X.K X.mg X.base mH k f fd ps (spT X.K h))(bd:Binds X.K fd ps [])(hr:dk (k+1) X.A)(hq:(au,PySem.W.methodObj (.ref f) (.ref a))∈U)
  (q:Inv X U Z H s) (hb:HB B H) (ro:Rep X.K (cn B H) (.ref a) aC) (rx:bQ X.K (cn B H) xs ts) (hl:lT X.K H l xs) (ik:0<xs.length)
  (hk:∀i t,ts[i]?=some t->h [aC,t]=.ok (.tup [.int (kf i).1,.int (kf i).2])) {Q:VK}
  (hQ:∀xb H',xs[dt kf (xs.length - 1)]?=some xb->bo H H'->Q xb H'):
  wpAny (model X.prog X.w) X.A (call (.builtin "min") [.ref l] [(Str.ofString "key",.ref au)]) (EP X U Z Q) X.xe s:=by
 have DX:(toString "min"++toString ".loop":String)="min.loop":=by decide
 obtain⟨cy,rv,pl,_⟩:=q.list hl;have b9:cy.length=xs.length:=rv.length.symm;have Vs:=pl.isList;obtain⟨ol,Q1,_⟩:=id Vs;have hll:l<s.heap.objs.size:=bz Q1;refine kmk_tree PySem.F.kind_min PySem.F.plain_min PySem.F.entry_min (kmk_min_key _ _) ?_
 show wpAny _ X.A.in1 (Builtin.Builtins.bindParams "min" ["key","default"] 0 ⟨[],[(Str.ofString "key",.ref au)]⟩>>=_) _ _ s;refine aU (wpAny_of_eq (show Builtin.Builtins.bindParams "min" ["key","default"] 0 ⟨[],[(Str.ofString "key",.ref au)]⟩=pure [some (.ref au),none]from rfl) ?_);refine aU (bg ?_);refine aU (kP Vs ?_);refine aU (pM ?_ (d_ _));rw[DX];have Yl:l≠s.heap.objs.size:=cf hll;have I1:Inv X U Z H {s with heap:=s.heap.push {cls:=.type "list_iterator",data:=.fields #[.ref l,.int 0 0]}}:=q.kept (t':=s.toks) λb u e=>bS _ e;have M:=I1.NV (cy:=[]) (ys:=[]) (t':=s.toks) .nil (d_ _);have hSe:(s.heap.push {cls:=.type "list_iterator",data:=.fields #[.ref l,.int 0 0]}).objs.size=s.heap.objs.size+1:=size_push' ..;have Nn:(s.heap.push {cls:=.type "list_iterator",data:=.fields #[.ref l,.int 0 0]}).objs.size≠s.heap.objs.size:=by rw[hSe];exact mT _
 have g:H (s.heap.push {cls:=.type "list_iterator",data:=.fields #[.ref l,.int 0 0]}).objs.size=none:=I1.fresh;have gI:((s.heap.push {cls:=.type "list_iterator",data:=.fields #[.ref l,.int 0 0]}).push {cls:=.type "list",data:=.seq (List.toArray [])}).get? s.heap.objs.size=some {cls:=.type "list_iterator",data:=.fields #[.ref l,.int 0 0]}:=
  bS _ (cz _ rfl)
 generalize hS:(s.heap.push {cls:=.type "list_iterator",data:=.fields #[.ref l,.int 0 0]}).objs.size=S at M Nn g;have n:kY X U (upd H S (.lst [])) s.heap.objs.size:=q.xW (bA _) (by rw[bq Nn.symm];exact q.fresh);have r:bo H (upd H S (.lst [])):=bo.upd g;refine bg ⟨hW nN _,?_⟩;have W:=Walks.list (prog:=X.prog) (w:=X.w) (A:=X.A.in1) (q.ok.hd hc) s.heap.objs.size l Yl cy.toArray;obtain⟨_,x9,n2,Np,_,eS⟩:=M.zz bP;cases Np;obtain⟨uf,IJ,I,_⟩:=M.list (bo.seq r hl);have ei:uf=cy:=by
  obtain⟨o1,n1,e1,_,_,d1⟩:=pl;obtain⟨o2,n2,e2,_,_,d2⟩:=I;have e3:((s.heap.push {cls:=.type "list_iterator",data:=.fields #[.ref l,.int 0 0]}).push {cls:=.type "list",data:=.seq (List.toArray [])}).get? l=some o1:=bS _ (bS _ e1);have L:((s.heap.push {cls:=.type "list_iterator",data:=.fields #[.ref l,.int 0 0]}).push {cls:=.type "list",data:=.seq (List.toArray [])}).get? l=some o2:=e2;rw[e3]at L;cases L;rw[d1]at d2;injection d2 with d3 _
  simpa using(cV Array.toList d3).symm
 subst ei;refine gb xn ?_
 rw[g_ nN _];show wpAny _ X.A.in1 (seqItems? (.ref S)>>=_) _ _ _;refine aU (hV eS rfl ?_);show wpAny _ X.A.in1 (tryCatch (pyNext (.ref s.heap.objs.size)) _>>=_) _ _ _;refine aU (kU (W.item 0 _ _ _ (by rw[cU,b9];exact ik) ⟨⟨_,gI,rfl,rfl⟩,I.isList⟩ λv h' wA hP Lj OO=>?_));refine hide λP go=>?_
 have hv:uf[0]?=some v:=by simpa using hP
 obtain⟨xv,T8⟩:∃y,xs[0]?=some y:=⟨_,bZ ik⟩
 obtain⟨v',Km,Yn⟩:=rv.get T8;cases hv.symm.trans Km;obtain⟨tv,htv,rtv⟩:=rx.yh T8;have J1:=M.rf (h':=h') (t':=wA) (ch:=[s.heap.objs.size]) (λb hb=>by rw[de.mp hb];exact n) OO;obtain⟨oI,hoI,RC,Vu⟩:=id Lj.1;have J1p:=J1.kn (J':=(s.heap.objs.size,oI)::U) λp hp=>by
  rcases bH.mp hp with rfl|hp
  ·exact⟨hoI,n.1,n.2.1,n.2.2.1,λv z=>by rw[Vu]at z;cases z⟩
  ·exact J1.pin p (dD _ hp)
 refine go ?_
 show wpAny _ X.A.in1 (tryCatch (holding [v] (call (.ref au) [v])) _>>=_) _ _ _;refine aU (kU (fK (ee (DV G bd hr J1p (cw _ hq) (hb.same r) (ro.same (bL r)) (rtv.same (bL r)) Yn (hk _ _ htv)) (λw' s2 hw=>?_) λ_ _ x=>x)));obtain⟨kb2,H2,rfl,T9,JY,Vv⟩:=hw;refine hide λP go=>?_
 have nI:=T9.pin (s.heap.objs.size,oI) (dD _ (cG ..));have J2:Inv X U Z H2 s2:=T9.kn λp hp=>T9.pin p (dD _ (cw _ hp));have zH:H2 S=some (.lst []):=JY _ _ bP;obtain⟨_,Ym,n3,rv3,_,Yo⟩:=J2.zz zH;have J3:=J2.NU (uf:=[v,.ref kb2]) (f:=λ_=>(#[v,.ref kb2]:Array Value)) (ys:=[xv,.ref kb2]) (t':=s2.toks) zH Yo rfl (.cons Yn (.cons rfl .nil)) (by show 2<=sizeLine;decide);have hkS:kb2≠S:=LV J2 Vv zH;have T_:bo H H2:=r.trans JY;refine go ?_
 show wpAny _ X.A.in1 (updateSeq S (λ_=>#[v,.ref kb2])>>=_) _ _ _;refine aU (pI Yo rfl ?_);rw[DX];refine bg ⟨hW nN _,?_⟩;exact Jt hc G bd hr hq g hb ro rx hl Yl hk (λxb u H' s' hx I' sm' ru=>⟨xb,H',I',ru,hQ xb H' hx sm'⟩) (xs.length - 1) 0 _ _ xv kb2 rfl ik J3 (T_.Bh g) bP T8 (Ho hkS Vv)
  ⟨oI,(nP s2.heap _ Nn).trans nI.1,RC,Vu⟩ ⟨by rw[bq Nn.symm];exact nI.2.1,n.2⟩
end
open Builtin Builtin.ObjectAttr
structure AA(K:Frag)(f:Addr):Prop where
 get:PySem.W.specialIn K (.ref f) "__get__"=some (some (.builtin "function.__get__"))
 tk:PySem.W.takesIn K (.ref f)=some false
def DZ{dx g:Addr}{fs:List (Str×V)}{b:Bool}(I:Inv X U Z H s)(e:H a=some (.ins au dx fs))(c:EW X.K au)(k:Meth X.K au x g)(l:fs.lookup x=none)(hg:AA X.K g)
  (T':PySem.W.copiedNames.contains x=false) (h:∀q s',Inv X ((q,PySem.W.methodObj (.ref g) (.ref a))::U) Z H s'->Q (.ref q) s'):wpAny (model X.prog X.w) A (getAttr (.ref a) x b) Q E s:=by
 obtain⟨mA,O,r,_,_,_⟩:=uj I.cW e;have hn:mA x=none:=mj.none_of (by rw[<-l];exact r x);obtain⟨M,J,L⟩:=O.look;refine PySem.W.get_bind I.ml J (ph (c.get x)).1 (PySem.W.findObj_fn c.hd k.at_ hg.get hg.tk T' (by rw[L,hn])) (ph (c.get x)).2 (pP (PySem.W.fn_get (s:={s with toks:=s.toks+1}) I.ml (fu.mp k.fn) (PySem.W.handed_on rfl (h s.heap.objs.size _ ?_))));have n:Inv X U Z H {s with heap:=s.heap.push (PySem.W.methodObj (.ref g) (.ref a)),toks:=s.toks+1}:=I.kept λb u e=>bS _ e;refine n.kn λp hp=>?_
 rcases bH.mp hp with rfl|hp
 ·exact⟨cz _ rfl,I.fresh,dN I.lt,I.VL (bA _),λv z=>by cases z⟩
 ·exact n.pin p (dD _ hp)
noncomputable def keyOf(r:Rs Tr):Option (Int×Int):=match r with
 |.ok (.tup [.int x,.int y])=>some (x,y)
 |_=>none
def LX{r:Rs Tr}{p:Int×Int}(h:keyOf r=some p):r=.ok (.tup [.int p.1,.int p.2]):=by
 unfold keyOf at h;split at h
 ·cases h;rfl
 ·cases h
def keysOf(h:List Tr->Rs Tr)(o:Tr):List Tr->Option (List (Int×Int))
 |[]=>some []
 |t::ts=>(keyOf (h [o,t])).bind λk=>(keysOf h o ts).map λks=>k::ks
theorem AB{o:Tr}:∀{ts:List Tr} {ks:List (Int×Int)},keysOf h o ts=some ks->∀i t,ts[i]?=some t->h [o,t]=.ok (.tup [.int (ks.getD i (0,0)).1,.int (ks.getD i (0,0)).2])
 |[],_,_,i,t,e=>by simp at e
 |u::ts,ks,b,i,t,e=>by
  rw[keysOf]at b;cases g:keyOf (h [o,u])with
  |none=>rw[g]at b;cases b
  |some k=>
   rw[g]at b;cases l:keysOf h o ts with
   |none=>rw[l]at b;cases b
   |some r=>
    rw[l]at b;cases b;cases i with
    |zero=>simp at e;subst e;exact LX g
    |succ i=>exact AB l i t (by simpa using e)
def wc(c m:Str)(h:List Tr->Rs Tr)(tl o:Tr):Rs Tr:=match tl,o with
 |.lst ts,.ob x fs=>if x=c/\EI fs m=true/\0<ts.length then match keysOf h (.ob x fs) ts with
  |some ks=>lh ts[dt (λi=>ks.getD i (0,0)) (ts.length - 1)]?
  |none=>.bad
  else .bad
 |_,_=>.bad
def Hq(c m:Str)(h:List Tr->Rs Tr)(q ro:Rs Tr):Rs Tr:=q.bind λtl=>ro.bind λo=>wc c m h tl o
def Jv{m:Str}{o:Tr}(q:Fi X H (wc av m h aC o) aB):∃ts fs ks t,aC=.lst ts/\o=.ob av fs/\EI fs m=true/\0<ts.length/\keysOf h (.ob av fs) ts=some ks/\ts[dt (λi=>ks.getD i (0,0)) (ts.length - 1)]?=some t/\aB t:=by
 unfold wc at q;split at q
 ·rename_i ts x fs;by_cases b:x=av/\EI fs m=true/\0<ts.length
  rotate_left
  ·rw[bc b]at q;exact fe q
  rw[aY b]at q;obtain⟨rfl,h2,l⟩:=b;have z:=q;cases e:keysOf h (.ob x fs) ts with
  |none=>rw[e]at z;exact fe z
  |some ks=>
   rw[e]at z;cases g:ts[dt (λi=>ks.getD i (0,0)) (ts.length - 1)]? with
   |none=>simp only[g]at z;exact fe z
   |some t=>simp only[g]at z;exact⟨ts,fs,ks,t,rfl,rfl,h2,l,e,g,z⟩
 ·exact fe q
section
variable {m:Str}{fd:FuncData}{k:Nat}{kp:Pos}{O:bX->Rs Tr}
theorem LY(D:MethAt X.K av m ai ps a fd)(Bn:AA X.K a)(G:eI X.prog X.w X.K X.mg X.base mH k a fd ps (spT X.K h))(hr:dk (k+1) X.A)(hm:X.mg "min"=none)(hl:PE X e (tP X F))(ho:PE X o (tP X O))
  (hc:X.calm=true:=by rfl) (hg:Gl X "min":=by rfl) (cJ:bC [e]=true:=by rfl) (hb:isCall o=false:=by rfl) (T':PySem.W.copiedNames.contains m=false:=by decide+kernel):
  PE X (.Call (.Name "min" p) [e] [⟨some "key",.Attribute o m b8,kp⟩] pos) (tP X λY=>Hq av m h (F Y) (O Y)):=by
 intro U s Z H Q I ⟨B,Y,l,r,q⟩;refine mR (vg (u:=.builtin "min") I hg hm rfl ?_ (by decide) (by decide));refine callWith_kw (eN (lU hl sD (bO _ _ (bt cJ).1) pos U s Z H (λvs H1=>∃tl,bQ X.K (cn B H1) vs [tl]/\bo H H1/\Fi X H ((O Y).bind λo=>wc av m h tl o) λt=>∀v H',bo H H'->Rep X.K (cn B H') v t->Q v H') I ?_) λus s1 ⟨vs,H1,I1,rv,tl,rl,b,k1⟩=>?_) (by rw[bO _ _ (bt cJ).1];rfl) (cS cJ)
 ·exact⟨B,Y,l,r,q.bind.mono λtl qt v H1 s1 r1=>⟨tl,.cons r1 .nil,s1,qt⟩⟩
 obtain⟨y,rfl,n⟩:=gw rl;refine kws_cons (Gu (gL hb) (eN (ho U s1 Z H1 (λx H2=>∃o,Rep X.K (cn B H2) x o/\bo H1 H2/\Fi X H (wc av m h tl o) λt=>∀v H',bo H H'->Rep X.K (cn B H') v t->Q v H') I1 ⟨B,Y,l.same b,r.same b,(k1.bind.same b).mono λo qo v H2 s2 r2=>⟨o,r2,s2,qo⟩⟩) λu2 s2 ⟨x,H2,I2,rx,ot,ro,g,k2⟩=>?_));obtain⟨ts,fs,ks,t,rfl,rfl,J5,Ua,L,DY,kq⟩:=Jv k2;obtain⟨a1,xs,rfl,JT,GU⟩:=n.lst_inv;obtain⟨a2,dx,iy,rfl,hh,ek,JW⟩:=ro.Bj;obtain⟨w1,rfl,M⟩:=vals1 rv;cases(show w1=Value.ref a1 from M);cases(show u2=Value.ref a2 from rx);refine DZ I2 (eB hh) D.cl D.mt (BD ek JW J5) Bn T' λq s3 I3=>kws_nil ?_
 have sl:bQ X.K (cn B H2) xs ts:=GU.same (bL g);refine eN (Ju (H:=H2) (B:=B) (xs:=xs) (ts:=ts) (kf:=λi=>ks.getD i (0,0)) hc G D.bd hr (cG ..) I3 ((l.same b).same g) (.ob hh ek JW) sl (.of (g _ _ (eB JT))) (by rw[sl.length];exact Ua) (AB L) λxb S hx T_=>?_) λw3 s4 ⟨v3,S,I4,r3,q3⟩=>⟨v3,S,I4.kn λp hp=>I4.pin p (dD _ (cw _ hp)),r3,q3⟩;rw[sl.length]at hx;obtain⟨t',e',rt'⟩:=sl.yh hx;cases DY.symm.trans e';exact kq xb S ((b.trans g).trans T_) (rt'.same (bL T_))
end
def Ub:Tr->Option Int->Option Int->Rs Tr
 |.tup ts,lo,hi=>.ok (.tup (Bp ts lo hi))
 |t,lo,hi=>slT t lo hi
def qv(r:Rs Tr)(lo hi:Rs (Option Int)):Rs Tr:=r.bind λt=>lo.bind λl=>hi.bind λh=>Ub t l h
theorem FQ{ts:List ag}{lo hi:Option Int}(h:nZ ts.length lo hi=true):Bp ts lo hi=ts:=by
 unfold nZ at h;rw[bY]at h;unfold Bp;rw[eq_of_beq h.1,eq_of_beq h.2,List.drop_zero,Nat.sub_zero,List.take_length]
section
variable {P1 P2:bX->Rs (Option Int)}{lo hi:Option Expr}
inductive Yr(X:Cx)(x:V)(lo:Option Int)(hi:Option Int)(H:Hp)(Q:VK):Prop
 |mk (B:fw) (t:Tr):HB B H->Rep X.K (cn B H) x t->(Fi X H (Ub t lo hi) fun t=>∀v H',bo H H'->Rep X.K (cn B H') v t->Q v H')->Yr X x lo hi H Q
theorem Ys:Ve X (Yr X):=by
 intro U s Z H x v n L lo hi sl Q I b hs pl pu ⟨B,t,hb,r,q⟩;by_cases hw:∃ts,t=.tup ts/\nZ ts.length lo hi=true
 ·obtain⟨ts,rfl,hw⟩:=hw;have g:∀v H',bo H H'->Rep X.K (cn B H') v (.tup (Bp ts lo hi))->Q v H':=q;rw[FQ hw]at g;have M:=r;cases r with
  |@tup a vs _ h S=>
   cases b;obtain⟨cy,r2,l,hz⟩:=I.tuple h.up;have b9:cy.toArray.size=ts.length:=by rw[cU,<-r2.length];exact S.length
   refine⟨"tuple",_,xi.lookup,l.typeIs,?_⟩;unfold nZ at hw;rw[bY]at hw;exact HT.rJ l hs pl pu (by rw[b9];exact⟨eq_of_beq hw.1,eq_of_beq hw.2⟩) ⟨.ref a,H,I,rfl,g _ H (bo.refl H) M⟩
 ·have e:Ub t lo hi=slT t lo hi:=by
   cases t with
   |tup ts=>
    have:¬nZ ts.length lo hi=true:=λz=>hw ⟨ts,rfl,z⟩;exact(bc this).symm
   |_=>rfl
  rw[e]at q;exact aaV U s Z H x v n L lo hi sl Q I b hs pl pu ⟨B,t,hb,r,q⟩
theorem Yt(he:PE X e (tP X F))(hl:PO X lo (tO X P1))(hu:PO X hi (tO X P2)):PE X (.Subscript e (.Slice lo hi none p) pos) (tP X λY=>qv (F Y) (P1 Y) (P2 Y)):=
 (Ku Ys he hl hu).weak λZ H Q ⟨B,Y,hb,r,q⟩=>⟨B,Y,hb,r,q.bind.mono λt b v H1 s1 r1=>⟨B,Y,hb.same s1,r.same s1,(b.bind.same s1).mono λl g H2 s2=>⟨B,Y,hb.same (s1.trans s2),r.same (s1.trans s2),(g.bind.same (s1.trans s2)).mono λh n M s3=>
  ⟨B,t,hb.same ((s1.trans s2).trans s3),r1.same (bL (s2.trans s3)),(n.same ((s1.trans s2).trans s3)).mono λt b v I s4 L=>b v I (((s1.trans s2).trans s3).trans s4) L⟩⟩⟩⟩
end
noncomputable def qw{α:Type}(n:Nat)(lt:Nat->Nat->Bool):PySem.W.KasT α->Option α
 |.ret a=>some a
 |.ask i j k=>if i<n/\j<n/\i≠j then qw n lt (k (lt i j))else none
theorem AD{α:Type}{n:Nat}{lt:Nat->Nat->Bool}{cmp:Nat->Nat->(Bool->Shared->Prop)->Shared->Prop}{Q:α->Shared->Prop}(q:∀i j C,i<n->j<n->i≠j->C (lt i j) s->cmp i j C s):∀(t:PySem.W.KasT α) {a:α},qw n lt t=some a->Q a s->t.kasWp cmp Q s
 |.ret b,a,e,h=>by cases e;exact h
 |.ask i j k,a,e,h=>by
  unfold qw at e;by_cases z:i<n/\j<n/\i≠j
  ·rw[aY z]at e;exact q i j _ z.1 z.2.1 z.2.2 (AD q (k (lt i j)) e h)
  ·rw[bc z]at e;cases e
def Inv.adopt {b:Addr}{o:HO}(I:Inv X U Z H s)(h0:X.gH.heap.objs.size<=b)(f:kY X U H b)(new:cX X.prog X.w (upd H b o) s.heap b o):Inv X U Z (upd H b o) s:=by
 obtain⟨g,l,_,_,hC,L⟩:=f;refine⟨I.ok,I.os,I.bare,⟨I.base.keep,I.base.slot,λc u e n M=>?_,I.base.there,λc xs e=>?_,λc u v e=>?_,λc ps e=>?_⟩,I.loc,I.cell,?_,λx c e=>?_,λp hp=>?_,λc u e=>?_,I.len⟩
 ·rw[bq (cf (dc (bz e) h0))];exact I.base.free c u e n M
 ·have q:=I.base.m4 c xs e;rw[bq (bV q g)];exact q
 ·have q:=I.base.lK c u v e;rw[bq (bV q g)];exact q
 ·obtain⟨more,q⟩:=I.base.nU c ps e;exact⟨more,by rw[bq (bV q g)];exact q⟩
 ·rw[bq l.symm];exact I.free
 ·rw[bq (hC x c e)];exact I.gq x c e
 ·obtain⟨e,n,r⟩:=I.pin p hp;exact⟨e,by rw[bq (L p hp)];exact n,r⟩
 ·by_cases z:c=b
  ·subst z;rw[bP]at e;cases e;exact new
  ·rw[bq z]at e;exact(I.cW c u e).pQ (λ_ _ _ q=>q) (λd q=>by rw[bq (bV q g)];exact q) λd xs q=>by rw[bq (bV q g)];exact q
def r9(H:Hp):List (Addr×List V)->Hp
 |[]=>H
 |p::r=>r9 (upd H p.1 (.tup p.2)) r
theorem yR{H:Hp}:∀{l:List (Addr×List V)},(l.map (·.1)).Nodup->(∀p∈l,H p.1=none)->bo H (r9 H l)/\∀p∈l,r9 H l p.1=some (.tup p.2)
 |[],_,_=>⟨bo.refl H,λp m=>(nomatch m)⟩
 |p::l,nd,hn=>by
  rw[bB,gF]at nd;have hp:H p.1=none:=hn p (cG ..);obtain⟨s,k⟩:=yR (H:=upd H p.1 (.tup p.2)) (l:=l) nd.2 λq m=>by
   rw[bq λz=>nd.1 (by rw[<-z];exact f' m)];exact hn q (cw _ m)
  refine⟨(bo.upd hp).trans s,λq m=>?_⟩;rcases bH.mp m with rfl|m
  ·exact s _ _ bP
  ·exact k q m
theorem Inv.D0:∀{l:List (Addr×List V)} {H:Hp},Inv X U Z H s->(l.map (·.1)).Nodup->(∀p∈l,X.gH.heap.objs.size<=p.1/\kY X U H p.1/\p.2.length<=sizeLine/\∃cy:List Value,Vals p.2 cy/\IsTup s.heap p.1 cy.toArray)->Inv X U Z (r9 H l) s
 |[],H,I,_,_=>I
 |p::l,H,I,nd,h=>by
  rw[bB,gF]at nd;obtain⟨h0,hf,hz,cy,rv,it⟩:=h p (cG ..);refine Inv.D0 (H:=upd H p.1 (.tup p.2)) (I.adopt h0 hf ⟨hz,cy,rv,it⟩) nd.2 λq m=>?_
  obtain⟨g,b,r⟩:=h q (cw _ m);exact⟨g,⟨by rw[bq λz=>nd.1 (by rw[<-z];exact f' m)];exact b.1,b.2⟩,r⟩
def wd(v d:Addr):HO:=.ext λh=>h.IsItemsView v d
section
variable {to:TE}
def Uc(to:TE):TE:=λZ H Q=>to Z H λx H1=>∃d kvs,x=.ref d/\Rd H1 d (.dK kvs)/\∀v,H1 v=none->Q (.ref v) (upd H1 v (wd v d))
theorem LZ(q:PE X o to)(pU:attributeBase o "items" X.env (eval o X.env)=eval o X.env)(gs:(b8.endLine==p.line)=true):PE X (.Call (.Attribute o "items" b8) [] [] p) (Uc to):=by
 intro U s Z H Q I h;refine wpAny_Call_method0_late pU gs (eN (q U s Z H _ I h) λv s1 ⟨x,H1,g,r1,d,kvs,ex,hd,L⟩=>?_);subst ex;cases(show v=Value.ref d from r1);obtain⟨hz,hs,vs,rv,hm⟩:=(show cX X.prog X.w H1 s1.heap d (.dK kvs)from hd.ok g.cW);have l:=hm;obtain⟨n,es,ep,e,ex,_⟩:=hm;refine⟨"dict","dict.items",qT,PySem.F.slot_dict_items,PySem.F.type_dict_items,⟨n,e,ex.1⟩,λa M=>by cases M;exact⟨n,e,ex.2.1⟩,nO rfl (PySem.evalArgs_none ?_)⟩;refine jF PySem.F.slot_dict_items ⟨n,e,ex.1⟩ PySem.F.entry_dict_items (PySem.F.args_dict_items_1 _) (meets_dict_items (cu X.prog X.w) d hs) ⟨⟨vs,l⟩,?_⟩;refine⟨.ref s1.heap.objs.size,_,g.laid (t':=s1.toks) (o:=wd s1.heap.objs.size d) (λb u e=>bS _ e) (bA _) ?_,rfl,L _ g.fresh⟩;have S:(s1.heap.push {cls:=.type "dict_items",data:=.fields #[.ref d]}).IsItemsView s1.heap.objs.size d:=⟨_,cz _ rfl,rfl,rfl⟩;exact⟨S,⟨_,cz _ rfl⟩,λh1 h2 ⟨r,e1,r1⟩ k=>⟨r,k r e1,r1⟩⟩
end
noncomputable def yS(ss:List Str)(i j:Nat):Bool:=decide ((ss.getD i "").cps.toList<(ss.getD j "").cps.toList)
def il(ss:List Str):Option (List Nat):=if ss.length<2 then some (List.range ss.length)else(qw ss.length (yS ss) (PySem.W.kas_sort ss.length)).bind λp=>if p.toList.all (λi=>decide (i<ss.length))=true/\p.toList.length<=64 then some p.toList else none
def FR{p:List Nat}(h:il ps=some p):p.length<=64:=by
 unfold il at h;split at h
 ·cases h;rw[tR];omega
 ·cases e:qw ps.length (yS ps) (PySem.W.kas_sort ps.length)with
  |none=>rw[e]at h;cases h
  |some q=>
   rw[e]at h;by_cases z:q.toList.all (λi=>decide (i<ps.length))=true/\q.toList.length<=64
   ·have h':(if q.toList.all (λi=>decide (i<ps.length))=true/\q.toList.length<=64 then some q.toList else none)=some p:=h;rw[aY z]at h';cases h';exact z.2
   ·have h':(if q.toList.all (λi=>decide (i<ps.length))=true/\q.toList.length<=64 then some q.toList else none)=some p:=h;rw[bc z]at h';cases h'
def D3{ox oy:Obj}{b:Str}{t u:Tok}{q:Value}{Q:Bool->Shared->Prop}(hx:s.heap.get? a=some ox)(dx:ox.data=.seq #[.str av t,af] i) (hy:s.heap.get? au=some oy) (dy:oy.data=.seq #[.str b u,q] az) (ik:av≠b)
  (h:Q (decide (av.cps.toList<b.cps.toList)) s):wpAny (model P w) A (keyLt' (tuples' true) (.ref a) (.ref au)) Q E s:=by
 refine PySem.W.kat_lt hx dx hy dy (PySem.W.kat_cons (wpAny_eqBool_str ?_));rw[fo ik];exact PySem.W.kat_no (oneLt_str h)
section
variable {prog:Program}
theorem wC{P:PySem.Fin->Shared->Prop}(ho:s.heap.get? a=some (seqObj "list" aq.toArray i))(h2:aq.length<2)
  (h:∀h' c,(∀b o,b≠a->s.heap.get? b=some o->h'.get? b=some o)->h'.get? a=some (seqObj "list" aq.toArray c)->P (.done (.ret .none)) {s with heap:=h'}):
  wpAny (model prog w) A (Builtin.«list.sort» ⟨[.ref a],[]⟩) P E s:=by
 rw[list_sort_plain];have r:a<s.heap.objs.size:=bz ho;refine aU (listItems_at ho rfl ?_);refine aU (listUpdate_at ho rfl ?_ (by rw[cU,dW];omega) (d_ _));obtain⟨n,I⟩:∃n,(s.heap.update a (Obj.mapSeq λ_=>#[])).get? a=some (seqObj "list" #[] n):=⟨_,get?_update_seq ho (λ_=>#[])⟩;refine aU (seqEpoch_at I rfl ?_);refine aU (wpAny_newTuple ?_ (by rw[dW];simp;omega));refine aU (pM ?_ (d_ _));refine fK ?_
 have g:(((s.heap.update a (Obj.mapSeq λ_=>#[])).push (seqObj "tuple" aq.toArray 0)).push (seqObj "list" #[] 0)).get? a=some (seqObj "list" #[] n):=by
  rw[Heap.get?_push_ne _ _ _ (by rw[size_push',Heap.size_update];exact cf (lR r)),Heap.get?_push_ne _ _ _ (by rw[Heap.size_update];exact cf r)];exact I
 show wpAny (model prog w) A _ P E {s with heap:=((s.heap.update a (Obj.mapSeq λ_=>#[])).push (seqObj "tuple" aq.toArray 0)).push (seqObj "list" #[] 0)};dsimp only;have l:aq.toArray.size<2:=by simpa using h2
 rw[aY l,aY l];refine aU (bg ?_);rw[StateT.run_pure];refine aU (bg ?_);dsimp only;refine aU (seqEpoch_at g rfl ?_);refine aU (listUpdate_at g rfl ?_ (d_ _) (by rw[Array.size_map];show(pairsOf aq).size<=_;rw[pairsOf_size,dW];omega));simp only[tN,cH,cg];refine bg ?_
 have L:(aq.toArray.zip aq.toArray).map (·.2)=aq.toArray:=by
  apply Array.toList_inj.mp;simp only[Array.toList_map,Array.toList_zip];exact List.map_snd_zip (bA _)
 obtain⟨e,he⟩:=sortedHeap_at (out:=(aq.toArray.zip aq.toArray).map (·.2)) ho;refine h (sortedHeap s.heap a aq ((aq.toArray.zip aq.toArray).map (·.2))) e (λb o hb q=>(sortedHeap_old hb (bz q)).trans q) ?_
 rw[he,L]
end
def O9{kvs:List (Key×V)}{vs:List (Key×Value)}(r:KV kvs vs){k:Key}{v:V}(e:kvs[i]?=some (k,v)):∃u,vs[i]?=some (k,u)/\RelV v u:=by
 have g:Paired _ kvs vs:=r
 clear r
 induction g generalizing i with
 |nil=>simp at e
 |cons h t l=>
  cases i with
  |zero=>
   simp at e;rename_i a b _ _;obtain⟨n,h2⟩:=h;obtain⟨I,b2⟩:=b;subst e;exact⟨b2,by simpa using n.symm,h2⟩
  |succ i=>obtain⟨u,x,y⟩:=l (i:=i) (by simpa using e);exact⟨u,by simpa using x,y⟩
theorem yT{b:Addr}:∀{l:List (Addr×List V)} {H:Hp},b∉l.map (·.1)->r9 H l b=H b
 |[],_,_=>rfl
 |p::l,H,h=>by
  rw[bB]at h;show r9 (upd H p.1 (.tup p.2)) l b=_;rw[yT λz=>h (cw _ z),bq λz=>h (by rw[z];exact cG ..)]
theorem AE(f:Nat->Addr):∀p:List Nat,Vals (p.map λi=>V.ref (f i)) (p.map λi=>Value.ref (f i))
 |[]=>.nil
 |i::p=>.cons rfl (AE f p)
def BL(h:Heap)(L D:Addr):List (Addr×Obj):=(FK h L).filter λp=>decide (p.1≠D)
def jM{b:Addr}{o:Obj}:(b,o)∈BL aa a au↔b≠a/\b≠au/\aa.get? b=some o:=by
 unfold BL;rw[fJ,FL,iK];exact⟨λz=>⟨z.1.1,z.2,z.1.2⟩,λz=>⟨⟨z.1,z.2.2⟩,z.2.1⟩⟩
theorem yU{h:Heap}:∀{as:List Addr} {ss:List Str},as.length=ss.length->(∀(i:Nat) (a:Addr) (z:Str),as[i]?=some a->ss[i]?=some z->∃t x,h.get? a=some {cls:=.type "tuple",data:=.seq #[.str z t,x]})->∃fs:List Value,PySem.W.KatTups h (as.map Value.ref) fs/\fs.length=ss.length/\∀v∈fs,∃z t,v=Value.str z t
 |[],[],_,_=>⟨[],.nil,rfl,λv m=>(nomatch m)⟩
 |[],_::_,e,_=>by cases e
 |_::_,[],e,_=>by cases e
 |a::as,z::ss,e,k=>by
  obtain⟨t,x,g⟩:=k 0 a z rfl rfl;obtain⟨fs,h1,h2,l⟩:=yU (as:=as) (ss:=ss) (by simpa using e) λi b y n r=>k (i+1) b y (by simpa using n) (by simpa using r);refine⟨.str z t::fs,.cons g rfl rfl rfl h1,by rw[dA,dA,h2],λv m=>?_⟩;rcases bH.mp m with rfl|m
  ·exact⟨z,t,rfl⟩
  ·exact l v m
theorem L3{α β:Type}:∀{xs:List α} {ys:List β} {p:α×β},p∈xs.zip ys->∃i:Nat,xs[i]?=some p.1/\ys[i]?=some p.2
 |[],_,_,h=>by simp at h
 |_::_,[],_,h=>by simp at h
 |x::xs,y::ys,p,h=>by
  rw[List.zip_cons_cons]at h;rcases bH.mp h with rfl|h
  ·exact⟨0,rfl,rfl⟩
  ·obtain⟨i,a,b⟩:=L3 h;exact⟨i+1,by simpa using a,by simpa using b⟩
section
theorem zI(hc:X.calm=true):gQ X (.builtin "sorted") (λxs H Q=>∃(v d:Addr) (kvs:List (Key×V)) (ss:List Str) (p:List Nat),xs=[.ref v]/\H v=some (wd v d)/\Rd H d (.dK kvs)/\kvs.map (·.1)=ss.map Sum.inr/\ss.length<64/\il ss=some p/\
  ∀(as:List Addr) (D:Addr),as.length=kvs.length->as.Nodup->(∀a∈as,H a=none)->D∉as->H D=none->Q (.ref D) (upd (r9 H (as.zip (kvs.map λq=>[kV q.1,q.2]))) D (.lst (p.map λi=>V.ref (as.getD i 0))))):=by
 intro U s Z H xs us Q I r h;obtain⟨v,d,kvs,ss,p,rfl,hv,hd,hk,Fx,hp,q⟩:=h;obtain⟨u,rfl,ru⟩:=vals1 r;cases(show u=Value.ref v from ru);obtain⟨hz,hs,vs,rv,hm⟩:=(show cX X.prog X.w H s.heap d (.dK kvs)from hd.ok I.cW);obtain⟨ep,hm⟩:=hm.dictAt;have Yu:s.heap.IsItemsView v d:=(show cX X.prog X.w H s.heap v (wd v d)from I.cW v _ hv).1;have Yv:=sM rv;have hsl:kvs.length=ss.length:=by have q:=cV List.length hk;rw[bu,bu]at q;exact q
 have hnd:ss.Nodup:=by
  obtain⟨_,_,_,_,_,_,_,nd⟩:=hm;have e:vs.map (·.1)=ss.map Sum.inr:=by
   rw[<-hk];refine pq λi=>?_
   rw[cq,cq];cases e:kvs[i]? with
   |none=>
    have g:vs[i]?=none:=jq.mpr (by rw[<-Yv];exact jq.mp e)
    rw[g];rfl
   |some p=>
    obtain⟨z,e6⟩:=Bt rv (k:=p.1) (v:=p.2) e;rw[e6];rfl
  rw[e]at nd;exact List.Pairwise.of_map Sum.inr (λa b z e=>z (by rw[e])) nd
 refine call_function_entry kind_sorted plain_sorted entry_sorted (args_sorted1 _) ?_
 unfold Builtin.«sorted»;refine aU (m:=checkCount "sorted" 1 1 _) (bg ?_);refine aU (PySem.W.kdx_collect (A:=X.A.in1) (knd:=cu X.prog X.w) (kvs:=vs) (ep:=ep) (I.ok.hd hc) Yu hm (by rw[<-Yv];exact hz) λg tk as hkp hl hG=>?_);refine aU (pM ?_ (by rw[bu,hl,<-Yv];exact hz));have Gm:(g.push (seqObj "list" (as.map Value.ref).toArray 0)).get? g.objs.size=some (seqObj "list" (as.map Value.ref).toArray 0):=cz _ rfl;have Ra:∀i a,as[i]?=some a->∃z y t,ss[i]?=some z/\kvs[i]?=some (Sum.inr z,y)/\∃x,RelV y x/\g.get? a=some {cls:=.type "tuple",data:=.seq #[.str z t,x]}:=λi a e=>by
  obtain⟨key,k,x,e1,e2,e3⟩:=hG.pairs i a e;have hi:i<kvs.length:=by rw[Yv];exact(gD.mp e1).1
  have e4:kvs[i]?=some kvs[i]:=bZ hi
  generalize kvs[i]=kv at e4;obtain⟨x',e6,rx⟩:=O9 rv (k:=kv.1) (v:=kv.2) e4;rw[e1]at e6;cases e6;have e7:(kvs.map (·.1))[i]?=some kv.1:=by rw[cq,e4];rfl
  rw[hk,cq]at e7;cases e8:ss[i]? with
  |none=>rw[e8]at e7;cases e7
  |some z=>
   rw[e8]at e7;have e9:Sum.inr z=kv.1:=by simpa using e7
   obtain⟨t,rfl⟩:∃t,key=Value.str z t:=by
    rw[<-e9]at e2;exact Value.isStrOf_shape e2
   exact⟨z,kv.2,t,e8,by rw[e4,e9],x,rx,e3⟩
 obtain⟨m,Si,_⟩:=id I.loc;have hL:X.env.locals<s.heap.objs.size:=I.lt;have aab:∀a∈as,s.heap.objs.size<=a:=λa L=>du (hG.above a L);have aD:∀a∈as,a≠g.objs.size:=λa L=>cf (hG.there L);have aL:∀a∈as,a≠X.env.locals:=λa L=>dN (dc hL (aab a L));have asz:∀b o,s.heap.get? b=some o->b<g.objs.size:=λb o e=>bz (hkp b o e);have J:Inv X U Z H {s with heap:=g,toks:=tk}:=I.kept hkp;have Ud:H g.objs.size=none:=J.fresh;have hDf:kY X U H g.objs.size:=J.xW (bA _) Ud;have hD0:X.gH.heap.objs.size<=g.objs.size:=J.sz;have hDL:g.objs.size≠X.env.locals:=dN J.lt;have S:as.length=ss.length:=by rw[hl,<-Yv,hsl]
 have nda:as.Nodup:=hG.rise.imp λh=>cf h;have hkl:(as.zip (kvs.map λq=>[kV q.1,q.2])).map (·.1)=as:=List.map_fst_zip (by rw[bu,S,hsl];exact bA _);have fin:∀h' c,(∀b o,b≠X.env.locals->b≠g.objs.size->(g.push (seqObj "list" (as.map Value.ref).toArray 0)).get? b=some o->h'.get? b=some o)->h'.Ns X.env.locals m->
   h'.get? g.objs.size=some (seqObj "list" (p.map λi=>Value.ref (as.getD i 0)).toArray c)->EP X U Z Q (.ref g.objs.size) {s with heap:=h',toks:=tk}:=by
  intro h' c kp Qh hD;have kp1:∀b o,b≠X.env.locals->b≠g.objs.size->g.get? b=some o->h'.get? b=some o:=λb o n1 n2 e=>kp b o n1 n2 (bS _ e);have I1:Inv X U Z H {s with heap:=h',toks:=tk}:=I.LS Si Qh λb o n e=>kp1 b o n (cf (asz b o e)) (hkp b o e);have zF:∀b,s.heap.objs.size<=b->kY X U H b:=λb hb=>I.xW hb (I.cW.fresh hb);have I2:=I1.D0 (l:=as.zip (kvs.map λq=>[kV q.1,q.2])) (by rw[hkl];exact nda) λt ht=>by
   obtain⟨i,e1,e2⟩:=L3 ht;obtain⟨z,y,wA,_,e4,x,rx,e5⟩:=Ra i t.1 e1;have L:t.1∈as:=d8 e1;rw[cq,e4]at e2;have e6:[V.str z,y]=t.2:=Option.some.inj e2;refine⟨cB I.sz (aab _ L),zF _ (aab _ L),by rw[<-e6];show 2<=sizeLine;decide,[.str z wA,x],by rw[<-e6];exact .cons ⟨wA,rfl⟩ (.cons rx .nil),⟨_,kp1 _ _ (aL _ L) (aD _ L) e5,rfl,_,rfl⟩⟩
  have hDn:r9 H (as.zip (kvs.map λq=>[kV q.1,q.2])) g.objs.size=none:=by
   rw[yT (by rw[hkl];exact λz=>aD _ z rfl)];exact Ud
  have oY:p.length<=sizeLine:=cB (FR hp) (by decide);refine⟨.ref g.objs.size,_,I2.adopt (o:=.lst (p.map λi=>V.ref (as.getD i 0))) hD0 ⟨hDn,hDf.2⟩ ⟨by rw[bu];exact oY,_,c,AE _ p,hD⟩,rfl,q as g.objs.size (by rw[S,hsl]) nda (λa L=>I.cW.fresh (aab a L)) (λz=>aD _ z rfl) Ud⟩
 refine aU (fK (hJ slot_list_sort ⟨_,Gm,rfl⟩ entry_list_sort ?_ (args_list_sort _)));have Yw:(g.push (seqObj "list" (as.map Value.ref).toArray 0)).Ns X.env.locals m:=by
  obtain⟨o,es,J_,ho,r'⟩:=Si;exact⟨o,es,J_,bS _ (hkp _ _ ho),r'⟩
 by_cases h2:ss.length<2
 ·have ep:p=List.range ss.length:=by
   unfold il at hp;rw[aY h2]at hp;exact(Option.some.inj hp).symm
  have eo:as.map Value.ref=p.map λi=>Value.ref (as.getD i 0):=by
   rw[ep,<-S];refine pq λi=>?_
   rw[cq,cq];by_cases hi:i<as.length
   ·rw[List.getElem?_range hi,bZ hi];simp[hi]
   ·rw[jq.mpr (by omega),jq.mpr (by rw[tR];omega)]
    rfl
  refine wC Gm (by rw[bu,S];exact h2) λh' c kp hD=>⟨_,rfl,bg ⟨_,rfl,?_⟩⟩;refine fin h' c (λb o _ n e=>kp b o n e) ?_ (by rw[<-eo];exact hD)
  obtain⟨o,es,J_,ho,r'⟩:=Yw;exact⟨o,es,J_,kp _ _ hDL.symm ho,r'⟩
 ·obtain⟨M,er,vf,ep⟩:∃M:Array Nat,qw ss.length (yS ss) (PySem.W.kas_sort ss.length)=some M/\M.toList.all (λi=>decide (i<ss.length))=true/\p=M.toList:=by
   unfold il at hp;rw[bc h2]at hp;cases e:qw ss.length (yS ss) (PySem.W.kas_sort ss.length)with
   |none=>rw[e]at hp;cases hp
   |some M=>
    rw[e]at hp;have Q0:(if M.toList.all (λi=>decide (i<ss.length))=true/\M.toList.length<=64 then some M.toList else none)=some p:=hp;by_cases z:M.toList.all (λi=>decide (i<ss.length))=true/\M.toList.length<=64
    ·rw[aY z]at Q0;exact⟨M,rfl,z.1,(Option.some.inj Q0).symm⟩
    ·rw[bc z]at Q0;cases Q0
  have F:Fr BI X.env.locals (g.push (seqObj "list" (as.map Value.ref).toArray 0)) m:=⟨Yw,(λb o e=>by rw[qm]at e;cases e),d_ _⟩;have N:News BI X.env.locals (g.push (seqObj "list" (as.map Value.ref).toArray 0)) (BL (g.push (seqObj "list" (as.map Value.ref).toArray 0)) X.env.locals g.objs.size):=λt ht=>by
   obtain⟨n1,n2,e⟩:=jM.mp (show(t.1,t.2)∈_ from ht);exact⟨e,n1,qm _⟩
  refine PySem.W.kat_list_sort (s:={s with heap:=g.push (seqObj "list" (as.map Value.ref).toArray 0),toks:=tk}) F N Gm hDL (qm _) (λt ht=>(jM.mp (show(t.1,t.2)∈_ from ht)).2.1) (by rw[bu,S];omega) (by rw[bu,S];exact Fx) λe1 h' F' N'=>?_
  have tp:∀(i:Nat) (a:Addr) (z:Str),as[i]?=some a->ss[i]?=some z->∃t x,h'.get? a=some {cls:=.type "tuple",data:=.seq #[.str z t,x]}:=λi a z ea ez=>by
   obtain⟨z',y,t,e3,_,x,_,e5⟩:=Ra i a ea;rw[ez]at e3;cases e3;have L:a∈as:=d8 ea;exact⟨t,x,(N' (a,_) (cw _ (jM.mpr ⟨aL a L,aD a L,bS _ e5⟩))).1⟩
  obtain⟨fs,kt,fl,abd⟩:=yU S tp;refine PySem.W.kat_kind (T:=.type "str") kt (by rw[fl];omega) (λv hv=>by obtain⟨z,t,rfl⟩:=abd v hv;exact .of_pure rfl) (by decide) ?_
  rw[show(Value.type "str" !=Value.type "tuple")=true by decide,bu,S];refine AD (λi j C hi hj Bi hC=>?_) _ er ?_
  ·have ei:as[i]?=some as[i]:=bZ (by rw[S];exact hi)
   have ej:as[j]?=some as[j]:=bZ (by rw[S];exact hj)
   generalize as[i]=a at ei;generalize as[j]=b at ej;have zi:ss[i]?=some ss[i]:=bZ hi
   have zj:ss[j]?=some ss[j]:=bZ hj
   obtain⟨t1,x1,g1⟩:=tp i a _ ei zi;obtain⟨t2,x2,g2⟩:=tp j b _ ej zj;have va:(as.map Value.ref).getD i Value.none=Value.ref a:=by rw[eQ,cq,ei];rfl
   have vb:(as.map Value.ref).getD j Value.none=Value.ref b:=by rw[eQ,cq,ej];rfl
   show wpAny _ _ (keyLt' _ ((as.map Value.ref).getD i Value.none) ((as.map Value.ref).getD j Value.none)) _ _ _;rw[va,vb];refine D3 g1 rfl g2 rfl (λe=>Bi (ue hnd zi (by rw[zj,e]))) ?_
   have e9:yS ss i j=decide (ss[i].cps.toList<ss[j].cps.toList):=by
    unfold yS;rw[eQ,eQ,zi,zj]
    rfl
   rw[<-e9];exact hC
  ·refine PySem.W.KasFin.intro F' N' (.head λt ht=>(jM.mp (show(t.1,t.2)∈_ from ht)).2.1) λh'' c F'' N''=>⟨_,rfl,bg ⟨_,rfl,?_⟩⟩;have eo:(M.toList.map λi=>(as.map Value.ref).getD i Value.none)=p.map λi=>Value.ref (as.getD i 0):=by
    rw[ep];refine f_ λi hi=>?_
    have Z6:i<as.length:=by rw[S];exact eR (dE.mp vf i hi)
    rw[eQ,eQ,cq,bZ Z6]
    rfl
   refine fin h'' c (λb o n1 n2 e=>(N'' (b,o) (cw _ (jM.mpr ⟨n1,n2,e⟩))).1) F''.ns ?_
   rw[<-eo];exact(N'' _ (cG ..)).1
noncomputable def r_:List (Key×Tr)->Option (List Str)
 |[]=>some []
 |(.inr z,_)::r=>(r_ r).map λs=>z::s
 |_=>none
theorem uJ:∀{bE:List (Key×Tr)} {ss:List Str},r_ bE=some ss->bE.map (·.1)=ss.map Sum.inr
 |[],_,h=>by cases h;rfl
 |(.inr z,_)::r,ss,h=>by
  have h':(r_ r).map (λs=>z::s)=some ss:=h;cases e:r_ r with
  |none=>rw[e]at h';cases h'
  |some s=>rw[e]at h';cases h';rw[bB,bB,uJ e]
 |(.inl _,_)::_,_,h=>by cases h
def wV:Tr->Rs Tr
 |.bW bE=>lh ((r_ bE).bind λss=>if ss.length<64/\(ss.all λz=>decide (z.length<=cZ))=true then(il ss).map λp=>Tr.lst (p.map λi=>.tup [.str (ss.getD i ""),(bE.map (·.2)).getD i .cA])else none)
 |_=>.bad
def FT(q:Fi X H (wV aC) aB):∃bE ss p,aC=.bW bE/\r_ bE=some ss/\ss.length<64/\(∀z∈ss,z.length<=cZ)/\il ss=some p/\aB (.lst (p.map λi=>.tup [.str (ss.getD i ""),(bE.map (·.2)).getD i .cA])):=by
 cases aC with
 |bW bE=>
  obtain⟨x,e,n⟩:=gM q;cases g:r_ bE with
  |none=>rw[g]at e;cases e
  |some ss=>
   rw[g]at e;have b:(if ss.length<64/\(ss.all λz=>decide (z.length<=cZ))=true then(il ss).map λp=>Tr.lst (p.map λi=>.tup [.str (ss.getD i ""),(bE.map (·.2)).getD i .cA])else none)=some x:=e;by_cases z:ss.length<64/\(ss.all λz=>decide (z.length<=cZ))=true
   ·rw[aY z]at b;cases l:il ss with
    |none=>rw[l]at b;cases b
    |some p=>
     rw[l]at b;cases b;exact⟨bE,ss,p,rfl,g,z.1,λy r=>eR (dE.mp z.2 y r),l,n⟩
   ·rw[bc z]at b;cases b
 |_=>exact fe q
def AF{p:List Nat}(h:il ps=some p):∀i∈p,i<ps.length:=by
 unfold il at h;split at h
 ·cases h;exact λi hi=>t7.mp hi
 ·cases e:qw ps.length (yS ps) (PySem.W.kas_sort ps.length)with
  |none=>rw[e]at h;cases h
  |some q=>
   rw[e]at h;have h':(if q.toList.all (λi=>decide (i<ps.length))=true/\q.toList.length<=64 then some q.toList else none)=some p:=h;by_cases z:q.toList.all (λi=>decide (i<ps.length))=true/\q.toList.length<=64
   ·rw[aY z]at h';cases h';exact λi hi=>eR (dE.mp z.1 i hi)
   ·rw[bc z]at h';cases h'
variable {p1 dI:Pos}
theorem Hr{W:Vw}{f:Nat->V}{g:Nat->Tr}:∀{p:List Nat},(∀i∈p,Rep K W (f i) (g i))->bQ K W (p.map f) (p.map g)
 |[],_=>.nil
 |i::p,h=>.cons (h i (cG ..)) (Hr λj m=>h j (cw _ m))
theorem L5(hs:X.mg "sorted"=none)(ho:PE X o (tP X F))(hc:X.calm=true:=by rfl) (hg:Gl X "sorted":=by rfl) (hb:isCall o=false:=by rfl) (gs:(b8.endLine==dI.line)=true:=by rfl):
  PE X (.Call (.Name "sorted" p1) [.Call (.Attribute o "items" b8) [] [] dI] [] pos) (tP X λY=>(F Y).bind wV):=
 (pS (zI hc) hg hs rfl (lU (LZ ho (gL hb) gs) sD (bO _ _ rfl)) (by decide) (by decide) (bO _ _ rfl) (cS (es:=[]) rfl)).weak λZ H Q ⟨B,Y,hb,r,q⟩=>⟨B,Y,hb,r,q.bind.mono λt qt v H1 s1 rv=>by
  obtain⟨bE,ss,p,rfl,e1,Fx,htx,e2,k⟩:=FT qt;cases rv with
  |@bW a kvs _ h ek rr=>
   refine⟨a,kvs,rfl,Rd.same bJ h,λb I=>⟨b,a,kvs,ss,p,rfl,bP,Rd.same (bo.upd I) (Rd.same bJ h),by rw[ek];exact uJ e1,Fx,e2,λas D hl hnd hn hD hDn=>?_⟩⟩;have Bs:=hb.same s1;have sv:bo H1 (upd H1 b (wd b a)):=bo.upd I;have OL:=Bs.same sv;have L:(as.zip (kvs.map λq=>[kV q.1,q.2])).map (·.1)=as:=List.map_fst_zip (by rw[bu,hl];exact bA _);obtain⟨st,gt⟩:=yR (H:=upd H1 b (wd b a)) (l:=as.zip (kvs.map λq=>[kV q.1,q.2])) (by rw[L];exact hnd) λt ht=>hn t.1 (tU ht).1;have M:r9 (upd H1 b (wd b a)) (as.zip (kvs.map λq=>[kV q.1,q.2])) D=none:=by rw[yT (by rw[L];exact hD)];exact hDn
   have sd:=bo.upd (o:=.lst (p.map λi=>V.ref (as.getD i 0))) M;refine k _ _ (((s1.trans sv).trans st).trans sd) (.lst (vs:=p.map λi=>V.ref (as.getD i 0)) ?_ (Hr λi hi=>?_))
   ·exact((OL.same st).new M)
   ·have S:=AF e2 i hi;have ekl:kvs.length=ss.length:=by
     have g:=cV List.length (ek.trans (uJ e1));rw[bu,bu]at g;exact g
    have n:i<as.length:=by rw[hl,ekl];exact S
    have Wq:i<kvs.length:=by rw[ekl];exact S
    have ea:as.getD i 0=as[i]:=by rw[eQ,bZ n];rfl
    have ez:ss.getD i ""=ss[i]:=by rw[eQ,bZ S];rfl
    have ekz:kvs[i].1=Sum.inr ss[i]:=by
     have g:=cV (λl=>l[i]?) (ek.trans (uJ e1));simp only[cq,bZ Wq,bZ S,dq]at g;exact Option.some.inj g
    have hm:(as[i],[V.str ss[i],kvs[i].2])∈as.zip (kvs.map λq=>[kV q.1,q.2]):=by
     have g:(as.zip (kvs.map λq=>[kV q.1,q.2]))[i]?=some (as[i],[V.str ss[i],kvs[i].2]):=by
      rw[List.getElem?_zip_eq_some];refine⟨bZ n,?_⟩;rw[cq,bZ Wq];show some [kV kvs[i].1,kvs[i].2]=_;rw[ekz];rfl
     exact d8 g
    have g1:=gt _ hm;have nB:B.hd as[i]=false:=OL.free (hn _ (kR n));have g2:(cn B (upd (r9 (upd H1 b (wd b a)) (as.zip (kvs.map λq=>[kV q.1,q.2]))) D (.lst (p.map λi=>V.ref (as.getD i 0))))).H as[i]=some (.tup [V.str ss[i],kvs[i].2]):=by
     rw[gv nB];exact sd _ _ g1
    obtain⟨tv,et,rt⟩:=rr.yh (i:=i) (v:=kvs[i].2) (by rw[cq,bZ Wq];rfl);have etd:(bE.map (·.2)).getD i .cA=tv:=by rw[eQ,et];rfl
    rw[ea,ez,etd];exact .tup (.of g2) (.cons (.str _ (htx _ (kR S))) (.cons (rt.same (bL ((sv.trans st).trans sd))) .nil))⟩
end
structure QE(X:Cx)(e:Expr)(F:bX->Rs Tr):Prop where
 h:PE X e (tP X F)
structure QT(X:Cx)(e:Expr)(F:bX->Rs Bool):Prop where
 h:PT X e (tQ X F)
structure QW(X:Cx)(e:Expr)(F:bX->Rs Bool):Prop where
 h:PW X e (tQ X F)
structure QA(X:Cx)(e:List Expr)(F:bX->Rs (List Tr)):Prop where
 h:PA X e (C_ X F)
structure QS(X:Cx)(e:Stmt)(F:bX->Rs Out):Prop where
 h:PS X e (tS X F)
structure QB(X:Cx)(e:List Stmt)(F:bX->Rs Out):Prop where
 h:o6 X e (tS X F)
structure QG(X:Cx)(e:Expr)(F:o4):Prop where
 h:PG X e (tG X F)
structure QGs(X:Cx)(e:List Expr)(F:List Tr->bX->Rs bX):Prop where
 h:NC X e (Vk X F)
structure QI(X:Cx)(tg e:Expr)(F:bX->Rs (List Tr)):Prop where
 h:PI X tg e (tI X F)
structure QJ(X:Cx)(tg e:Expr)(F:bX->Rs (List Tr)):Prop where
 h:PI X tg e (tJ X F)
structure QO(X:Cx)(e:Option Expr)(F:bX->Rs (Option Int)):Prop where
 h:PO X e (tO X F)
structure QF(X:Cx)(e:List Expr)(F:bX->Rs Bool):Prop where
 h:PF X e (tQ X F)
structure ZE(X:Cx)(e:Expr)(F:bX->Ab->Rz Tr):Prop where
 h:PE X e (tE X F)
structure NE(X:Cx)(e:Expr)(F:bX->Rs Tr):Prop where
 h:PE X e (tF X F)
structure ZT(X:Cx)(e:Expr)(F:bX->Ab->Rz Bool):Prop where
 h:PT X e (QX X F)
structure ZL(X:Cx)(e:List Expr)(F:bX->Ab->Rz (List Tr)):Prop where
 h:PA X e (Nm X F)
structure ZS(X:Cx)(e:Stmt)(F:bX->Ab->Rz Out):Prop where
 h:PS X e (tZ X F)
structure ZB(X:Cx)(e:List Stmt)(F:bX->Ab->Rz Out):Prop where
 h:o6 X e (tZ X F)
structure D4(X:Cx)(scope:Scope)(N':List Str)(tg elt:Expr)(ifs:List Expr)(T:o4)(A:bX->Rs Bool)(F:bX->Rs Tr):Prop where
 all:∀s H ex,QG (uy X scope N' s H ex) tg T/\QF (uy X scope N' s H ex) ifs A/\QE (uy X scope N' s H ex) elt F
def D4.to {scope:Scope}{N':List Str}{elt:Expr}{ifs:List Expr}{T:o4}{A:bX->Rs Bool}(b:D4 X scope N' tg elt ifs T A F):Oe X scope N' tg elt ifs T A F:=
 ⟨λs H ex=>⟨(b.all s H ex).1.h,(b.all s H ex).2.1.h,(b.all s H ex).2.2.h⟩⟩
section
variable {b:Expr}{E:bX->Rs Tr}
theorem aR(i:Nat)(q:X.N[i]?=some x:=by rfl) (hv:ZN X.env.scope x:=by first|exact Or.inl rfl|exact Or.inr (Or.inl rfl)|exact Or.inr (Or.inr rfl)) (hd:Db x:=by decide) (EL:(x==("__classdict__":Str))=false:=by decide):QE X (.Name x pos) (λY=>yl Y i):=⟨Wr i q hv hd EL⟩
def bD{i:Int}{j pos}:QE X (.Constant (.int i) j pos) (λ_=>.ok (.int i)):=⟨Ws⟩
def yV{b:Bool}{j pos}:QE X (.Constant (.bool b) j pos) (λ_=>.ok (.bl b)):=⟨aaO⟩
def gf{j pos}:QE X (.Constant .none j pos) (λ_=>.ok .cA):=⟨Wt⟩
def aV{j pos}(hz:x.length<=cZ:=by decide):QE X (.Constant (.str x) j pos) (λ_=>.ok (.str x)):=⟨Wu hz⟩
def D5(hm:X.mg x=none)(q:bootBuiltins x=some (.type ay):=by rfl) (hg:Gl X x:=by rfl) (hn:x≠"__name__":=by decide) (hd:Db x:=by decide):QE X (.Name x pos) (λ_=>.ok (.ty ay)):=⟨aaP hm q hg hn hd⟩
def fB{op:Operator}(q:Cz X (binaryOp op) aE)(ha:QE X e F)(hb:QE X b G):QE X (.BinOp e op b pos) (λY=>Iz aE (F Y) (G Y)):=⟨Ww q ha.h hb.h⟩
def AG{op:CmpOp}(q:Cz X (compareOp op) aE)(ha:QE X e F)(hb:QE X b G)(hm:behindInMarks op b=false:=by first|exact A9 _|rfl|with_unfolding_all rfl):QE X (.Compare e [op] [b] pos) (λY=>Iz aE (F Y) (G Y)):=⟨Wx q ha.h hb.h hm⟩
def bF{op:CmpOp}(q:Cz X (compareOp op) aE)(ha:QE X e F)(hb:QE X b G)(hm:behindInMarks op b=false:=by first|exact A9 _|rfl|with_unfolding_all rfl):QT X (.Compare e [op] [b] pos) (λY=>Z1 (Iz aE (F Y) (G Y))):=⟨Wy q ha.h hb.h hm⟩
def nu(q:QE X e F)(he:m9 e=true:=by rfl):QT X e (λY=>(F Y).bind pZ):=⟨Wz q.h he⟩
end
section
variable {E:bX->Rs Tr}{A:bX->Rs Bool}
def yW(q:QT X e A):QT X (.UnaryOp .Not e pos) (λY=>IA (A Y)):=⟨WA q.h⟩
def iU(q:QT X e A):QW X (.BoolOp .And [e] pos) A:=⟨Su q.h⟩
def we(q:QT X e A):QW X (.BoolOp .Or [e] pos) A:=⟨WC q.h⟩
def lZ(q:QT X e A)(hb:QW X (.BoolOp .And (o::aA) pos) aF):QW X (.BoolOp .And (e::o::aA) pos) (λY=>IB (A Y) (aF Y)):=⟨w_and q.h hb.h⟩
def D6(q:QT X e A)(hb:QW X (.BoolOp .Or (o::aA) pos) aF):QW X (.BoolOp .Or (e::o::aA) pos) (λY=>WB (A Y) (aF Y)):=⟨w_or q.h hb.h⟩
def eW{op}(h:QW X (.BoolOp op aA pos) A):QT X (.BoolOp op aA pos) A:=⟨Sv h.h⟩
def L6(q:QE X e F)(hb:QE X (.BoolOp .And (o::aA) pos) G):QE X (.BoolOp .And (e::o::aA) pos) (λY=>WD (F Y) (G Y)):=⟨WE q.h hb.h⟩
def Rb{op}(h:QE X e F):QE X (.BoolOp op [e] pos) F:=⟨WG h.h⟩
def D7(q:QT X tg A)(ha:QE X e F)(hb:QE X o G):QE X (.IfExp tg e o pos) (λY=>KR (A Y) (F Y) (G Y)):=⟨aaQ q.h ha.h hb.h⟩
end
section
variable {E:bX->Rs Tr}{B:bX->Rs Bool}{c9:List Expr}
def bb:QA X [] (λ_=>.ok []):=⟨GK⟩
def aS(q:QE X o F)(hr:QA X aA L)(hs:isStar o=false:=by rfl):QA X (o::aA) (λY=>yo (F Y) (L Y)):=⟨Bk q.h hr.h hs⟩
def ck{q}(h:QA X aA L):QE X (.Tuple aA q pos) (λY=>Bl (L Y)):=⟨WH h.h⟩
def qA(h:QA X aA L):QE X (.List aA pos) (λY=>zB (L Y)):=⟨WI h.h⟩
def cR(q:lW X (.builtin ay) h)(hm:X.mg x=none)(ha:QA X (e::aA) L)(hv:bootBuiltins x=some (.builtin ay):=by rfl) (hg:Gl X x:=by rfl) (hn:x≠"__name__":=by decide) (fQ:Db x:=by decide) (cJ:bC (e::aA)=true:=by rfl):QE X (.Call (.Name x p) (e::aA) [] pos) (λY=>dM h (L Y)):=⟨N_ q hm ha.h hv hg hn fQ cJ⟩
def fc(q:lW X (.type ay) h)(hm:X.mg x=none)(ha:QA X (e::aA) L)(hv:bootBuiltins x=some (.type ay):=by rfl) (hg:Gl X x:=by rfl) (hn:x≠"__name__":=by decide) (fQ:Db x:=by decide) (cJ:bC (e::aA)=true:=by rfl):QE X (.Call (.Name x p) (e::aA) [] pos) (λY=>dM h (L Y)):=⟨KU q hm ha.h hv hg hn fQ cJ⟩
def Yy{fd:FuncData}(D:z5 X.K X.mg x ai ps a fd)(G:eI X.prog X.w X.K X.mg X.base mH i a fd ps (spT X.K h))(q:dk i X.A)(ha:QA X (e::aA) L)(hg:Gl X x:=by rfl) (fQ:Db x:=by decide) (cJ:bC (e::aA)=true:=by rfl):QE X (.Call (.Name x p) (e::aA) [] pos) (λY=>dM h (L Y)):=⟨WJ D G q ha.h hg fQ cJ⟩
end
section
variable {c:Expr}{G G':bX->Rs Out}
def dR:QB X [] (λY=>.ok (.nx Y)):=⟨WK⟩
def bR(q:QS X ai G)(h2:QB X ah G'):QB X (ai::ah) (λY=>Dc (G Y) G'):=⟨Sx q.h h2.h⟩
def cD(q:QS X ai G):QB X [ai] G:=⟨WL q.h⟩
def fD{i:Nat}(he:QE X e F)(q:X.N.Nodup:=by assumption) (hi:X.N[i]?=some x:=by rfl) (hx:Loc X.env.scope x:=by first|exact Or.inl rfl|exact Or.inr rfl) (hs:sG e=false:=by rfl) (hf:zr X x:=by first|exact .inl rfl|exact .inr rfl|assumption):QS X (.Assign [.Name x p] e pos) (λY=>KW i (F Y) Y):=⟨WN he.h q hi hx hs hf⟩
def cL(he:QE X e F):QS X (.Return (some e) pos) (λY=>KY (F Y)):=⟨WO he.h⟩
def gx(q:QT X c aF)(ha:QB X ah G)(hb:QB X aj G'):QS X (.If c ah aj pos) (λY=>Vj (aF Y) (G Y) (G' Y)):=⟨aaR q.h ha.h hb.h⟩
def fM(i:Nat)(q:X.N.Nodup:=by assumption) (hi:X.N[i]?=some x:=by rfl) (hx:Loc X.env.scope x:=by first|exact Or.inl rfl|exact Or.inr rfl) (hf:zr X x:=by first|exact .inl rfl|exact .inr rfl|assumption):QG X (.Name x pos) (gN i):=⟨Sy i q hi hx hf⟩
def Hs:QGs X [] (E_ []):=⟨WQ⟩
def qB{i:Nat}{is:List Nat}(h2:QGs X aA (E_ is))(q:X.N.Nodup:=by assumption) (hi:X.N[i]?=some x:=by rfl) (hx:Loc X.env.scope x:=by first|exact Or.inl rfl|exact Or.inr rfl) (hf:zr X x:=by first|exact .inl rfl|exact .inr rfl|assumption) (hs:(assignEach (.Name x pos::aA) X.env).map (·.2)=assign (.Name x pos) X.env::(assignEach aA X.env).map (·.2):=by rfl):QGs X (.Name x pos::aA) (E_ (i::is)):=⟨Sz h2.h q hi hx hf hs⟩
def Ht{is:List Nat}(h:QGs X aA (E_ is))(q:X.calm=true:=by rfl) (hn:(assignEach aA X.env).length=is.length:=by rfl) (cJ:(assignEach aA X.env).findIdx? (·.1)=none:=by rfl):QG X (.Tuple aA i pos) (gT is):=⟨WR h.h q hn cJ⟩
def Yz{T:o4}(q:QG X tg T)(he:QE X e F)(hs:swapsWithSole [tg] e pos.line X.env=pure false:=by rfl) (hw:swappedStores [tg] e X.env=pure none:=by rfl) (h1:(assignEach [tg] X.env).map (·.2)=[assign tg X.env]:=by rfl):QS X (.Assign [tg] e pos) (λY=>ID T (F Y) Y):=⟨WS q.h he.h hs hw h1⟩
def oR(q:QE X e F):QI X tg e (λY=>KZ (F Y)):=⟨WT q.h⟩
end
section
variable {G G':bX->Rs Out}
def L7(hm:X.mg "range"=none)(q:QA X [e] L)(hg:Gl X "range":=by rfl) (hs:bC [e]=true:=by rfl):QI X tg (.Call (.Name "range" p) [e] [] pos) (λY=>GP (L Y)):=⟨K0 hm q.h hg hs⟩
end
section
variable {b c:Expr}{G G':bX->Rs Out}{A:bX->Rs Bool}{N':List Str}{ix:List (Option Nat)}{T:o4}
def AH:QF X [] (λ_=>.ok true):=⟨WV⟩
def wg(h:QT X c A):QF X [c] A:=⟨WW h.h⟩
def Jw(q:g0 X N' ix ax)(hi:QI X tg o L)(lL:D4 X ax N' tg e aA T A F)(hT:jT T)(hc:X.calm=true:=by rfl) (hs:isSet o=false:=by rfl):QE X (.ListComp e [⟨tg,o,aA,0⟩] ax pos) (λY=>vX ix T A F (L Y) Y):=⟨aaS q hi.h lL.to hT hc hs⟩
def O_{i:Nat}(q:g0 X N' ix ax)(hit:QI X tg o L)(lL:D4 X ax N' tg e aA T A F)(hT:jT T)(hN:X.N.Nodup:=by assumption) (hc:X.calm=true:=by rfl) (hi:X.N[i]?=some x:=by rfl) (hx:Loc X.env.scope x:=by first|exact Or.inl rfl|exact Or.inr rfl) (Iu:swapsWith (.ListComp e [⟨tg,o,aA,0⟩] ax pos) (some (.Name x p)) b8.line X.env=pure true:=by rfl) (hs:isSet o=false:=by rfl) (hf:zr X x:=by first|exact .inl rfl|exact .inr rfl|assumption):QS X (.Assign [.Name x p] (.ListComp e [⟨tg,o,aA,0⟩] ax pos) b8) (λY=>KW i (vX ix T A F (L Y) Y) Y):=⟨Of q hit.h lL.to hT hN hc hi hx Iu hs hf⟩
end
section
variable {b:Expr}
def bT(q:X.A.units+1<cLine)(ha:QE X o F)(hb:QE X b G)(hs:um b:=by exact λ_ _=>rfl):QE X (.Subscript o b pos) (λY=>Iz lj (F Y) (G Y)):=⟨aaU q ha.h hb.h hs⟩
def qC:QO X none (λ_=>.ok none):=⟨SO⟩
def qD(h:QE X e F):QO X (some e) (λY=>Dq (F Y)):=⟨SQ h.h⟩
end
def Rc(q:QE X e F):QE X (.UnaryOp .USub e pos) (λY=>(F Y).bind SS):=⟨W0 q.h⟩
section
variable {E:bX->Rs Tr}{keys:List (Option Expr)}{P:bX->Rs (List (Tr×Tr))}
def L8(h:QP X pos keys aA P)(q:keys.all (·.isSome)=true:=by rfl) (hl:keys.length=aA.length:=by rfl) (h0:keys.isEmpty=false:=by rfl) (N1:keys.length<=15:=by decide):QE X (.Dict keys aA pos) (λY=>W3 (P Y)):=⟨SW h q hl h0 N1⟩
def Ue(q:X.A.units+1<cLine)(ho:QE X o F)(he:QE X e G)(hb:isCall o=false:=by rfl) (cJ:bC [e]=true:=by rfl) (hl:(b8.endLine==p.line)=true:=by rfl):QE X (.Call (.Attribute o "get" b8) [e] [] p) (λY=>K5 (F Y) (G Y)):=⟨SX q ho.h he.h hb cJ hl⟩
def L9(q:X.A.units+1<cLine)(ho:QE X o F)(he:QE X e G)(hf:QE X am E)(hb:isCall o=false:=by rfl) (cJ:bC [e,am]=true:=by rfl) (hl:(b8.endLine==p.line)=true:=by rfl):QE X (.Call (.Attribute o "get" b8) [e,am] [] p) (λY=>Af (F Y) (G Y) (E Y)):=⟨SY q ho.h he.h hf.h hb cJ hl⟩
end
section
variable {a:Expr}{keys:List (Option Expr)}{P:bX->Rs (List (Tr×Tr))}
def YA(g:Bq X.K X.w X.mg x bE)(q:QE X a F)(hg:Gl X x:=by rfl) (hd:Db x:=by decide) (hs:NY a:=by exact λ_ _=>rfl):QE X (.Subscript (.Name x p) a pos) (λY=>(F Y).bind (S0 bE)):=⟨W4 g q.h hg hd hs⟩
end
def YB(hm:X.mg "zip"=none)(q:QA X [e,o] L)(hg:Gl X "zip":=by rfl) (hs:bC [e,o]=true:=by rfl):QI X (.Tuple aA i b8) (.Call (.Name "zip" p) [e,o] [] pos) (λY=>zpW (L Y)):=⟨XM hm q.h hg hs⟩
def fZ(h:QE X e F):QE X (.FormattedValue e (-1) none pos) (λY=>(F Y).bind OR):=⟨Ts h.h⟩
def Hv(q:QE X e F):QJ X tg e (λY=>Ld (F Y)):=⟨Xk q.h⟩
section
variable {b:Expr}{es:List Expr}{N':List Str}{ix:List (Option Nat)}{T:o4}
def Rf(q:g0 X N' ix ax)(hi:QJ X tg o L)(lL:D4 X ax N' tg e aA T aF F)(hT:jT T)(hc:X.calm=true:=by rfl) (hs:isSet o=false:=by rfl):QE X (.ListComp e [⟨tg,o,aA,0⟩] ax pos) (λY=>vX ix T aF F (L Y) Y):=⟨Xl q hi.h lL.to hT hc hs⟩
def Ug{G:bX->Rs Out}(hi:QJ X tg o L)(q:QG X tg T)(hb:QB X ah G)(hp:PassesOwn (model X.prog X.w) X.A X.env X.xe:=by exact pH) (hc:X.calm=true:=by rfl) (hs:isSet o=false:=by rfl):QS X (.For tg o ah [] pos) (λY=>GO T G (L Y) Y):=⟨Td hi.h q.h hb.h hp hc hs⟩
end
def YC{h:List Tr->Tr->Rs Tr}(slot:Slot "list" x ay)(q:typeOf (.builtin ay)=pure (.type "method_descriptor"))(hm:R0 X ay (XX X h))(ho:QE X o F)(he:QE X e G)(pa:PlainAttrs "list":=by exact sZ) (pU:isCall o=false:=by rfl) (cJ:bC [e]=true:=by rfl) (gs:(b8.endLine==pos.line)=true:=by rfl):QE X (.Call (.Attribute o x b8) [e] [] pos) (λY=>lmR h (F Y) (G Y)):=⟨aa8 slot q hm ho.h he.h pa pU cJ gs⟩
section
variable {dI:Pos}
def YD(q:X.A.units+1<cLine)(g:LA X.K X.mg x ts)(he:QE X e G)(hg:Gl X x:=by rfl) (hd:Db x:=by decide) (cJ:bC [e]=true:=by rfl) (gs:(b8.endLine==dI.line)=true:=by rfl):QE X (.Call (.Attribute (.Name x p) "index" b8) [e] [] dI) (λY=>(G Y).bind (wB ts)):=⟨XZ q g he.h hg hd cJ gs⟩
def YE{q}(hu:X.A.units+1<cLine)(ht:QA X aA L)(he:QE X e G)(cJ:bC [e]=true:=by rfl) (gs:(b8.endLine==dI.line)=true:=by rfl):QE X (.Call (.Attribute (.Tuple aA q pos) "index" b8) [e] [] dI) (λY=>(L Y).bind λts=>if ts.length<=dZ then(G Y).bind (wB ts)else .bad):=⟨X0 hu ht.h he.h cJ gs⟩
end
section
variable {dI:Pos}{fd:FuncData}{k:Nat}
def Uh(D:MethAt X.K x av ai ps a fd)(G:eI X.prog X.w X.K X.mg X.base mH k a fd ps (spT X.K h))(q:dk k X.A)(ho:QE X o F)(ha:QA X (e::aA) L){pl:Sem Bool}(cJ:bC (e::aA)=true:=by rfl) (ht:eval (.Call (.Attribute o av b8) (e::aA) [] pos) X.env=ud pos b8 o av (e::aA) X.env pl:=by rfl):QE X (.Call (.Attribute o av b8) (e::aA) [] pos) (λY=>wa x av h (F Y) (L Y)):=⟨TC D G q ho.h ha.h cJ ht⟩
def Pa(D:MethAt X.K x av ai ps a fd)(G:eI X.prog X.w X.K X.mg X.base mH k a fd ps (spT X.K h))(q:dk k X.A)(ho:QE X o F){pl:Sem Bool}(ht:eval (.Call (.Attribute o av b8) [] [] pos) X.env=ud pos b8 o av [] X.env pl:=by rfl):QE X (.Call (.Attribute o av b8) [] [] pos) (λY=>wa x av h (F Y) (.ok [])):=⟨OV D G q ho.h ht⟩
end
section
variable {p2:Pos}
def Ui(hs:X.mg "sorted"=none)(hm:X.mg "set"=none)(q:QE X e F)(hc:X.calm=true:=by rfl) (hg:Gl X "sorted":=by rfl) (LP:Gl X "set":=by rfl) (cJ:bC [e]=true:=by rfl):QE X (.Call (.Name "sorted" p) [.Call (.Name "set" p2) [e] [] b8] [] pos) (λY=>(F Y).bind qi):=⟨T6 hs hm q.h hc hg LP cJ⟩
end
def Uj(T:BH X.K X.w X.mg x ps)(q:Gl X x:=by rfl) (fQ:Db x:=by decide):QI X tg (.Name x p) (λ_=>.ok (ps.map .str)):=⟨T7 T q fQ⟩
def aX(h:QE X e F):ZE X e (λY A=>gS (F Y) A):=⟨S3 h.h⟩
def bh(h:QE X e F):ZE X e (λY A=>vZ (F (dw A Y)) A):=⟨S4 h.h⟩
def cp(h:QT X e aF):ZT X e (λY A=>gS (aF (dw A Y)) A):=⟨OF h.h⟩
def gy(h:NE X e F):ZE X e (λY A=>vv (F (dw A Y)) A):=⟨W9 h.h⟩
section
variable {c:Expr}{G:bX->Ab->Rz Out}{P:bX->Ab->Rz Bool}
def dz:ZB X [] (λY A=>.ok (.nx Y) A):=⟨W_⟩
def bp(q:ZS X ai G)(h2:ZB X ah aK):ZB X (ai::ah) (λY A=>Fo (G Y A) aK):=⟨S5 q.h h2.h⟩
def bM(q:ZS X ai G):ZB X [ai] G:=⟨Xa q.h⟩
def D8:ZE X e (λ_ _=>.bad):=⟨Xb⟩
def g7{i:Nat}(he:ZE X e aI)(q:X.N.Nodup:=by assumption) (hi:X.N[i]?=some x:=by rfl) (hx:Loc X.env.scope x:=by first|exact Or.inl rfl|exact Or.inr rfl) (hs:sG e=false:=by rfl) (hf:zr X x:=by first|exact .inl rfl|exact .inr rfl|assumption):ZS X (.Assign [.Name x p] e pos) (λY A=>Br i (aI Y A) Y):=⟨Xc he.h q hi hx hs hf⟩
def fk(he:ZE X e aI):ZS X (.Return (some e) pos) (λY A=>K9 (aI Y A)):=⟨Xd he.h⟩
def Uk:ZS X (.Return none pos) (λ_ A=>.ok (.ret .cA) A):=⟨S7⟩
def cc(he:ZE X e aI)(hs:sG e=false:=by rfl):ZS X (.Expr e pos) (λY A=>rX (aI Y A) Y):=⟨S8 he.h hs⟩
def fh(q:ZT X c P)(h1:ZB X ah G)(h2:ZB X aj aK):ZS X (.If c ah aj pos) (λY A=>Z5 (P Y A) (G Y) (aK Y)):=⟨aaX q.h h1.h h2.h⟩
def Rg{T:o4}(q:QG X tg T)(hT:jT T)(he:ZE X e aI)(hs:swapsWithSole [tg] e pos.line X.env=pure false:=by rfl) (hw:swappedStores [tg] e X.env=pure none:=by rfl) (h1:(assignEach [tg] X.env).map (·.2)=[assign tg X.env]:=by rfl):ZS X (.Assign [tg] e pos) (λY A=>OG T (aI Y A) Y):=⟨Xe q.h hT he.h hs hw h1⟩
theorem Hw{T:o4}(hi:QI X tg e L)(q:QG X tg T)(hT:jT T)(hb:ZB X ah G)(hp:PassesOwn (model X.prog X.w) X.A X.env X.xe:=by first|exact pH|exact xN) (hc:X.calm=true:=by rfl) (hs:isSet e=false:=by rfl):ZS X (.For tg e ah [] pos) (λY A=>G_ T G (gS (L Y) A) Y):=⟨Xf hi.h q.h hT hb.h hp hc hs⟩
end
def bw:ZL X [] (λ_ A=>.ok [] A):=⟨La⟩
def aW(q:ZE X e aI)(hr:ZL X aA aH)(hs:isStar e=false:=by rfl):ZL X (e::aA) (λY A=>Hb (aI Y A) (aH Y)):=⟨Hc q.h hr.h hs⟩
section
variable {r:V->List V->Hp->VK->Prop}{h:Nat->List Tr->Ab->Rz Tr}
def AI(slot:Slot "list" x ay)(q:typeOf (.builtin ay)=pure (.type "method_descriptor"))(hm:MtM X ay r)(hz:WrZ X r h)(ho:ZE X o aI)(ha:ZL X (e::aA) aH)(pa:PlainAttrs "list":=by exact sZ) (pU:isCall o=false:=by rfl) (cJ:bC (e::aA)=true:=by rfl) (hn:(e::aA).length<30:=by decide) (gs:(b8.endLine==p.line)=true:=by rfl):ZE X (.Call (.Attribute o x b8) (e::aA) [] p) (λY A=>mtL h (aI Y A) (aH Y)):=⟨Xh slot q hm hz ho.h ha.h pa pU cJ hn gs⟩
end
def yX(h:QA X aA L):NE X (.List aA pos) (λY=>zB (L Y)):=⟨Xi h.h⟩
def mz:NE X (.Dict [] [] pos) (λ_=>.ok (.bW [])):=⟨Ta⟩
section
variable {a b:Expr}{es:List Expr}{N':List Str}{ix:List (Option Nat)}{T:o4}{W:bX->Rs (List Tr)}
def Ul(q:g0 X N' ix ax)(hi:QI X tg am W)(lL:D4 X ax N' tg o aA T aF F)(hT:jT T)(hc:X.calm=true:=by rfl) (hs:isSet am=false:=by rfl):NE X (.ListComp o [⟨tg,am,aA,0⟩] ax pos) (λY=>vX ix T aF F (W Y) Y):=⟨aaY q hi.h lL.to hT hc hs⟩
def Pb{i:Nat}(q:g0 X N' ix ax)(hit:QI X tg am W)(lL:D4 X ax N' tg o aA T aF F)(hT:jT T)(hN:X.N.Nodup:=by assumption) (hc:X.calm=true:=by rfl) (hi:X.N[i]?=some x:=by rfl) (hx:Loc X.env.scope x:=by first|exact Or.inl rfl|exact Or.inr rfl) (Iu:swapsWith (.ListComp o [⟨tg,am,aA,0⟩] ax pos) (some (.Name x p)) b8.line X.env=pure true:=by rfl) (hs:isSet am=false:=by rfl) (hf:zr X x:=by first|exact .inl rfl|exact .inr rfl|assumption):ZS X (.Assign [.Name x p] (.ListComp o [⟨tg,am,aA,0⟩] ax pos) b8) (λY A'=>Br i (vv (vX ix T aF F (W (dw A' Y)) (dw A' Y)) A') Y):=⟨OI q hit.h lL.to hT hN hc hi hx Iu hs hf⟩
def yY(q:gQ X (.type ay) (rF X h))(hm:X.mg x=none)(ha:QA X (e::es) L)(hv:bootBuiltins x=some (.type ay):=by rfl) (hg:Gl X x:=by rfl) (hn:x≠"__name__":=by decide) (fQ:Db x:=by decide) (cJ:bC (e::es)=true:=by rfl):NE X (.Call (.Name x p) (e::es) [] pos) (λY=>dM h (L Y)):=⟨Lc q hm ha.h hv hg hn fQ cJ⟩
end
section
variable {h:List Tr->Ab->Rz Tr}{fd:FuncData}{k:Nat}
def YF(D:z5 X.K X.mg x ai ps a fd)(G:eI X.prog X.w X.K X.mg X.base (vt X.prog X.w) k a fd ps (wb X.K h))(q:dk k X.A)(ha:ZL X (e::aA) aH)(hx:X.ex=[]:=by rfl) (hg:Gl X x:=by rfl) (fQ:Db x:=by decide) (cJ:bC (e::aA)=true:=by rfl):ZE X (.Call (.Name x p) (e::aA) [] pos) (λY A=>(aH Y A).bind h):=⟨X3 D G q ha.h hx hg fQ cJ⟩
end
section
variable {h:List Tr->Ab->Rz Tr}{fd:FuncData}{k:Nat}
def Um(D:MethAt X.K x av ai ps a fd)(G:eI X.prog X.w X.K X.mg X.base (vt X.prog X.w) k a fd ps (wb X.K h))(q:dk k X.A)(ho:ZE X o aI)(ha:ZL X (e::aA) aH){pl:Sem Bool}(hx:X.ex=[]:=by rfl) (cJ:bC (e::aA)=true:=by rfl) (ht:eval (.Call (.Attribute o av b8) (e::aA) [] pos) X.env=ud pos b8 o av (e::aA) X.env pl:=by rfl):ZE X (.Call (.Attribute o av b8) (e::aA) [] pos) (λY A=>uH x av h (aI Y A) (aH Y)):=⟨TF D G q ho.h ha.h hx cJ ht⟩
def Pc(D:MethAt X.K x av ai ps a fd)(G:eI X.prog X.w X.K X.mg X.base (vt X.prog X.w) k a fd ps (wb X.K h))(q:dk k X.A)(ho:ZE X o aI){pl:Sem Bool}(hx:X.ex=[]:=by rfl) (ht:eval (.Call (.Attribute o av b8) [] [] pos) X.env=ud pos b8 o av [] X.env pl:=by rfl):ZE X (.Call (.Attribute o av b8) [] [] pos) (λY A=>uH x av h (aI Y A) λA=>.ok [] A):=⟨OX D G q ho.h hx ht⟩
end
def gg(D:rZ X.K X.mg x)(q:ZL X (e::aA) aH)(hx:X.ex=[]:=by rfl) (hc:X.calm=true:=by rfl) (hg:Gl X x:=by rfl) (fQ:Db x:=by decide) (cJ:bC (e::aA)=true:=by rfl):ZS X (.Raise (some (.Call (.Name x p) (e::aA) [] b8)) none pos) (λY A=>FE x (aH Y A)):=⟨OZ D q.h hx hc hg fQ cJ⟩
theorem cY(T:ja X.K ps x)(he:QE X e F)(hb:attributeBase e x X.env (eval e X.env)=eval e X.env:=by first|exact gL rfl|rfl):QE X (.Attribute e x pos) (λY=>(F Y).bind (j_ ps x)):=⟨TH T he.h hb⟩
theorem jh(T:ja X.K ps x)(he:ZE X e aJ)(hb:attributeBase e x X.env (eval e X.env)=eval e X.env:=by first|exact gL rfl|rfl):ZE X (.Attribute e x pos) (λY A=>uI ps x (aJ Y A)):=⟨TJ T he.h hb⟩
def qE(T:ja X.K ps x)(q:ZE X o aJ)(hv:ZE X tg aI):ZS X (.Assign [.Attribute o x p] tg pos) (λY A=>X5 ps x (aI Y A) (aJ Y) Y):=⟨X6 T q.h hv.h⟩
section
variable {b i:Expr}{E:bX->Ab->Rz Tr}
def uK(q:X.A.units+1<cLine)(h1:ZE X e aI)(h2:ZE X b aJ)(hs:um b:=by exact λ_ _=>rfl):ZE X (.Subscript e b pos) (λY A=>O1 lj (aI Y A) (aJ Y)):=⟨aa9 q h1.h h2.h hs⟩
def ip(q:X.A.units+1<cLine)(ho:ZE X o aI)(hi:ZE X i aJ)(hv:ZE X tg E):ZS X (.Assign [.Subscript o i p] tg pos) (λY A=>TK (E Y A) (aI Y) (aJ Y) Y):=⟨TL q ho.h hi.h hv.h⟩
end
section
variable {E:bX->Ab->Rz Tr}
def BM(q:ZE X o aI)(he:ZE X e aJ)(hb:isCall o=false:=by rfl) (cJ:bC [e]=true:=by rfl) (hl:(b8.endLine==p.line)=true:=by rfl):ZE X (.Call (.Attribute o "pop" b8) [e] [] p) (λY A=>LC (aI Y A) (aJ Y)):=⟨TM q.h he.h hb cJ hl⟩
def L_(q:ZE X o aI)(he:ZE X e aJ)(hf:ZE X tg E)(hb:isCall o=false:=by rfl) (cJ:bC [e,tg]=true:=by rfl) (hl:(b8.endLine==p.line)=true:=by rfl):ZE X (.Call (.Attribute o "pop" b8) [e,tg] [] p) (λY A=>LF (aI Y A) (aJ Y) (E Y)):=⟨TQ q.h he.h hf.h hb cJ hl⟩
end
section
variable {E:bX->Ab->Rz Tr}{c:Str}{h:List Tr->Ab->Rz Tr}{fd:FuncData}{k:Nat}
def Uo(D:yO X.K X.mg c ps a fd)(aJ:eI X.prog X.w X.K X.mg X.base (vt X.prog X.w) k a fd ps (wb X.K h))(q:dk (k+1) X.A)(ha:ZL X (e::aA) aH)(hx:X.ex=[]:=by rfl) (hg:Gl X c:=by rfl) (fQ:Db c:=by decide) (cJ:bC (e::aA)=true:=by rfl):ZE X (.Call (.Name c p) (e::aA) [] pos) (λY A=>yN c h (aH Y A)):=⟨TR D aJ q ha.h hx hg fQ cJ⟩
def Pd(D:yO X.K X.mg c ps a fd)(aJ:eI X.prog X.w X.K X.mg X.base (vt X.prog X.w) k a fd ps (wb X.K h))(q:dk (k+1) X.A)(hx:X.ex=[]:=by rfl) (hg:Gl X c:=by rfl) (fQ:Db c:=by decide):ZE X (.Call (.Name c p) [] [] pos) (λ_ A=>yN c h (.ok [] A)):=⟨O2 D aJ q hx hg fQ⟩
end
section
variable {b:Expr}{es:List Expr}{N':List Str}{ix:List (Option Nat)}{T:o4}
def L'{i:Nat}(q:g0 X N' ix ax)(hit:QJ X tg o L)(lL:D4 X ax N' tg e aA T aF F)(hT:jT T)(hN:X.N.Nodup:=by assumption) (hc:X.calm=true:=by rfl) (hi:X.N[i]?=some x:=by rfl) (hx:Loc X.env.scope x:=by first|exact Or.inl rfl|exact Or.inr rfl) (Iu:swapsWith (.ListComp e [⟨tg,o,aA,0⟩] ax pos) (some (.Name x p)) b8.line X.env=pure true:=by rfl) (hs:isSet o=false:=by rfl) (hf:zr X x:=by first|exact .inl rfl|exact .inr rfl|assumption):ZS X (.Assign [.Name x p] (.ListComp e [⟨tg,o,aA,0⟩] ax pos) b8) (λY A'=>Br i (vv (vX ix T aF F (L (dw A' Y)) (dw A' Y)) A') Y):=⟨LL q hit.h lL.to hT hN hc hi hx Iu hs hf⟩
end
section
variable {P:bX->Ab->Rz Bool}{hp:Pos}{G2:bX->Ab->Rz Out}
def Ma(h:ZE X e aI)(he:m9 e=true:=by rfl):ZT X e (λY A=>TX (aI Y A)):=⟨TY h.h he⟩
def Mb(h:ZT X e P):ZT X (.UnaryOp .Not e pos) (λY A=>TZ (P Y A)):=⟨eq_not h.h⟩
end
section
variable {P:bX->Ab->Rz Bool}{hp:Pos}{abZ:Stmt}{G2:bX->Ab->Rz Out}
def Mc:QE X e (λ_=>.bad):=⟨Yf⟩
def YG:QS X ai (λ_=>.bad):=⟨Yg⟩
end
section
variable {p2:Pos}{c:Str}{tab:List (Str×Bool)}{cv:V}
def mB(T:jb X.K (.ref (clsAt X.K c)) tab)(hm:X.mg c=some (.ref (clsAt X.K c)))(hi:X.mg "isinstance"=none)(he:QE X e F)(q:Gl X c:=by rfl) (LP:Gl X "isinstance":=by rfl) (fQ:Db c:=by decide) (cJ:bC [e,.Name c p2]=true:=by rfl):QE X (.Call (.Name "isinstance" p) [e,.Name c p2] [] pos) (λY=>(F Y).bind (Jo tab)):=⟨T2 T hm hi he.h q LP fQ cJ⟩
def Up(T:jb X.K (.type ay) tab)(hm:X.mg c=none)(hi:X.mg "isinstance"=none)(he:QE X e F)(q:bootBuiltins c=some (.type ay):=by rfl) (hg:Gl X c:=by rfl) (hn:c≠"__name__":=by decide) (LP:Gl X "isinstance":=by rfl) (fQ:Db c:=by decide) (cJ:bC [e,.Name c p2]=true:=by rfl):QE X (.Call (.Name "isinstance" p) [e,.Name c p2] [] pos) (λY=>(F Y).bind (Jo tab)):=⟨T5 T hm hi he.h q hg hn LP fQ cJ⟩
end
def YH(q:ZE X o aI)(he:ZE X e aJ)(hb:isCall o=false:=by rfl) (cJ:bC [e]=true:=by rfl) (hl:(b8.endLine==p.line)=true:=by rfl):ZE X (.Call (.Attribute o "update" b8) [e] [] p) (λY A=>Yi (aI Y A) (aJ Y)):=⟨Yj q.h he.h hb cJ hl⟩
section
variable {fd:FuncData}{k:Nat}{kp:Pos}{O:bX->Rs Tr}
def Md(D:MethAt X.K x av ai ps a fd)(q:AA X.K a)(G:eI X.prog X.w X.K X.mg X.base mH k a fd ps (spT X.K h))(hr:dk (k+1) X.A)(hm:X.mg "min"=none)(hl:QE X e F)(ho:QE X o O)(hc:X.calm=true:=by rfl) (hg:Gl X "min":=by rfl) (cJ:bC [e]=true:=by rfl) (hb:isCall o=false:=by rfl) (T':PySem.W.copiedNames.contains av=false:=by decide+kernel):QE X (.Call (.Name "min" p) [e] [⟨some "key",.Attribute o av b8,kp⟩] pos) (λY=>Hq x av h (F Y) (O Y)):=⟨LY D q G hr hm hl.h ho.h hc hg cJ hb T'⟩
end
section
variable {P1 P2:bX->Rs (Option Int)}{lo hi:Option Expr}
def wj(he:QE X e F)(q:QO X lo P1)(hu:QO X hi P2):QE X (.Subscript e (.Slice lo hi none p) pos) (λY=>qv (F Y) (P1 Y) (P2 Y)):=⟨Yt he.h q.h hu.h⟩
end
section
variable {dI:Pos}
def Me(hs:X.mg "sorted"=none)(q:QE X o F)(hc:X.calm=true:=by rfl) (hg:Gl X "sorted":=by rfl) (hb:isCall o=false:=by rfl) (gs:(b8.endLine==dI.line)=true:=by rfl):QE X (.Call (.Name "sorted" p) [.Call (.Attribute o "items" b8) [] [] dI] [] pos) (λY=>(F Y).bind wV):=⟨L5 hs q.h hc hg hb gs⟩
end
def BN{keys:List (Option Expr)}{P:bX->Rs (List (Tr×Tr))}(q:QE X e F)(hv:QE X o G)(hr:QP X pos keys aA P):QP X pos (some e::keys) (o::aA) λY=>QH (F Y) (G Y) (P Y):=OC q.h hv.h hr
def zt.okQ {base:Heap}{qual:Str}{st:Stmt}{f:Addr}{fd:FuncData}{N:List Str}{k:Nat}(Fn:zt K x qual st f fd)(S:hX N ps (bI st))(len:∀ts t,h ts=.ok t->ts.length=ps.length)
  (kZ:∀(gn:Value) (A:Around) (outer:List Env) (s:Shared) (H:Hp) (E:XK),dk k (A.deeper (envOfC qual (bI st) s.heap.objs.size f gn))->
   ∃G,QB (oZ mH P w K mg base N qual (bI st) f gn A outer s H E).JU (gc st) G/\∀ts t,h ts=.ok t->dC (G (startT N.length ts))=.ok t):eI P w K mg base mH (k+1) f fd ps (spT K h):=
 Fn.okT S len λgn A outer s H E b=>let⟨G,h,q⟩:=kZ gn A outer s H E b;⟨G,h.h,q⟩
def zt.abe {base:Heap}{qual:Str}{st:Stmt}{f:Addr}{fd:FuncData}{N:List Str}{k:Nat}(Fn:zt K x qual st f fd)(S:hX N ps (bI st))(len:∀ts t,h ts=.ok t->ts.length=ps.length)
  (kZ:∀(gn:Value) (A:Around) (outer:List Env) (s:Shared) (H:Hp) (E:XK),dk k (A.deeper (envOfC qual (bI st) s.heap.objs.size f gn))->
   ∃G,ZB (oZ mH P w K mg base N qual (bI st) f gn A outer s H E).JU (gc st) G/\∀ts t,h ts=.ok t->jJ ts=true/\yz (G (startT N.length ts) [])=.ok t):eI P w K mg base mH (k+1) f fd ps (spT K h):=
 Fn.okZ S len λgn A outer s H E b=>let⟨G,h,q⟩:=kZ gn A outer s H E b;⟨G,h.h,q⟩
def n8{keys:List (Option Expr)}{P:bX->Ab->Rz (List (Tr×Tr))}(q:ZE X e aI)(hv:ZE X o aJ)(hr:TV X pos keys aA P):TV X pos (some e::keys) (o::aA) λY A=>Q9 (aI Y A) (aJ Y) (P Y):=LK q.h hv.h hr
def Mf{keys:List (Option Expr)}{P:bX->Ab->Rz (List (Tr×Tr))}(h:TV X pos keys aA P)(q:keys.all (·.isSome)=true:=by rfl) (hl:keys.length=aA.length:=by rfl) (h0:keys.isEmpty=false:=by rfl) (N1:keys.length<=15:=by decide):ZE X (.Dict keys aA pos) (λY A=>Yd (P Y) A):=⟨O5 h q hl h0 N1⟩
structure JQ(X:Cx)(es:List Expr)(J:bX->Str->Rs Tr):Prop where
 h:PJ X es J
def l0:JQ X [] λ_ acc=>zG acc:=⟨XN⟩
def dh{J:bX->Str->Rs Tr}(h:QE X e F)(q:JQ X aA J):JQ X (e::aA) λY acc=>lq (F Y) (J Y) acc:=⟨Tt h.h q.h⟩
def iV{J:bX->Str->Rs Tr}(h:JQ X (e::o::aA) J):QE X (.JoinedStr (e::o::aA) pos) (λY=>J Y Str.empty):=⟨OS h.h⟩
def Pe{c n:Str}{G2:bX->Ab->Rz Out}(Tc:rh X.K X.mg c ps)(hb:∀pn q,ZB (X.lr pn q) ah aK)(hs:∀pn e,ZB (X.qj pn e) (ai::aj) G2)(hN:X.N.Nodup)(hi:X.N[i]?=some n:=by rfl) (hl:X.env.scope.names.lookup n=some .local:=by rfl)
  (cJ:X.stack=X.env::X.outer:=by rfl) (hf:X.env.frame=some X.env.locals:=by rfl) (hx:X.ex=[]:=by rfl) (Nz:zr X n:=by exact .inl rfl) (hg:Gl X c:=by rfl) (fQ:Db c:=by decide):
  ZS X (.Try ah [.ExceptHandler (some (.Name c p)) (some n) (ai::aj) b8] [] [] pos) (λY A=>FG X.N.length i ps (aK Y A) G2):=⟨LH Tc (λpn q=>(hb pn q).h) (λpn e=>(hs pn e).h) hN hi hl cJ hf hx Nz hg fQ⟩
def zt.abf {base:Heap}{qual:Str}{st:Stmt}{f:Addr}{fd:FuncData}{N:List Str}{k:Nat}{h:List Tr->Ab->Rz Tr}(Fn:zt K x qual st f fd)(S:hX N ps (bI st))(len:∀ts A,h ts A≠ .bad->ts.length=ps.length)
  (kZ:∀(gn:Value) (A:Around) (outer:List Env) (s:Shared) (H:Hp) (E:XK),dk k (A.deeper (envOfC qual (bI st) s.heap.objs.size f gn))->
   ∃G,ZB (oZ (vt P w) P w K mg base N qual (bI st) f gn A outer s H E) (gc st) G/\∀ts A,h ts A≠ .bad->h ts A=cI (G (startT N.length ts) A)):eI P w K mg base (vt P w) (k+1) f fd ps (wb K h):=
 Fn.okS S len λgn A outer s H E b=>let⟨G,h,q⟩:=kZ gn A outer s H E b;⟨G,h.h,q⟩
noncomputable def Mg(K:Frag)(D:Addr):Bool:=decide (findIn K (.ref D) "__getattribute__"=some (some (.builtin "BaseException.__getattribute__")))&&(decide (findIn K (.ref D) "__getattr__"=some none)&&(decide (findIn K (.ref D) "__class__"=some (some (.builtin "object.__class__")))&&(decide (mroIn K D (.type "object")=some true)&&decide (mroIn K D (.type "BaseException")=some true))))
def Pf{K:Frag}{D:Addr}(h:Mg K D=true):BG K D:=by
 unfold Mg at h;rw[bY,bY,bY,bY]at h;exact⟨eR h.1,eR h.2.1,eR h.2.2.1,eR h.2.2.2.1,eR h.2.2.2.2⟩
def YI(K:Frag)(u:Value)(tab:List (Str×Bool)):Bool:=tab.all λp=>decide (kitOne K (.ref (clsAt K p.1)) u=some p.2)
def YJ(K:Frag)(xs:List Str):Bool:=xs.all λx=>Mg K (clsAt K x)&&(clsIn K (clsAt K x)).isSome
theorem ji{α:Type}{z:Str}:∀{l:List (Str×α)} {a:α},l.lookup z=some a->(z,a)∈l
 |[],_,h=>by cases h
 |(y,b)::l,a,h=>by
  rw[cQ]at h;cases e:(z==y)with
  |true=>rw[e]at h;cases h;rw[eq_of_beq e];exact cG ..
  |false=>rw[e]at h;exact cw _ (ji h)
def Uq{K:Frag}{tab:List (Str×Bool)}{xs:List Str}(h:YI K af tab=true)(q:YJ K xs=true)(e:tab.map (·.1)=xs):jb K af tab:=⟨λx b g=>by
 have m:=ji g;have l:=eR (dE.mp h _ m);have n:x∈xs:=by rw[<-e];exact f' m
 have h2:=dE.mp q x n;rw[bY]at h2;exact⟨l,Pf h2.1,h2.2⟩⟩
def YK(K:Frag)(c:Str)(xs:List Str):Bool:=xs.all λx=>decide (exmOne K (.ref (clsAt K x)) (.ref (clsAt K c))=some true)
def Mh{K:Frag}{xs:List Str}(m:mg av=some (.ref (clsAt K av)))(h:YK K av xs=true):rh K mg av xs:=⟨m,λx b=>eR (dE.mp h x b)⟩
theorem YL{P:List Value->Prop}(h:P []):∀us:List Value,us.length=0->P us
 |[],_=>h
theorem YM{P:List Value->Prop}(h:∀a us,us.length=i->P (a::us)):∀us:List Value,us.length=i+1->P us
 |a::us,e=>h a us (Nat.succ.inj e)
def YN{P:List Value->Prop}(h:∀a,P [a]):∀us:List Value,us.length=1->P us:=YM λa=>YL (P:=λl=>P (a::l)) (h a)
def YO{P:List Value->Prop}(h:∀a b,P [a,b]):∀us:List Value,us.length=2->P us:=YM λa=>YN (P:=λl=>P (a::l)) (h a)
def YQ{P:List Value->Prop}(h:∀a b c,P [a,b,c]):∀us:List Value,us.length=3->P us:=YM λa=>YO (P:=λl=>P (a::l)) (h a)
def YR{P:List Value->Prop}(h:∀a b c d,P [a,b,c,d]):∀us:List Value,us.length=4->P us:=YM λa=>YQ (P:=λl=>P (a::l)) (h a)
def us5{P:List Value->Prop}(h:∀a b c d e,P [a,b,c,d,e]):∀us:List Value,us.length=5->P us:=YM λa=>YR (P:=λl=>P (a::l)) (h a)
section
variable {K:Frag}{f:Str}{C:Addr}
noncomputable def Pg(K:Frag)(C:Addr):Bool:=plainGet K C Str.empty&&(hasDictIn K C&&(plainOver K C&&decide (findIn K (.ref C) "__setattr__"=some (some (.builtin "object.__setattr__")))))
def Mi(h:Pg K C=true):EW K C:=by
 unfold Pg at h;rw[bY,bY,bY]at h;exact⟨h.1,h.2.1,h.2.2.1,eR h.2.2.2⟩
def abg(K:Frag)(C:Addr)(fs:List Str):Bool:=fs.all λf=>decide (findIn K (.ref C) f=some none)
end
def Fm.gk {K:Frag}{bE:List (Str×Tr)}{ep:Nat}(h:Fm K w es kvs bE)(hm:mg x=some (.ref a))(q:K.lookup a=some ⟨.type "dict",none,.dict es.toArray ep,#[]⟩) (hs:(a==sysModules)=false) (hn:(kvs.map (·.1)).Nodup) (hz:∀z∈kvs.map (·.1),z.length<=cZ):BH K w mg x (kvs.map (·.1)):=
 ⟨a,kvs,hm,⟨hs,_,_,_,q,⟨rfl,rfl,rfl⟩,rfl,λprog=>⟨λe he=>h.keys prog e (by simpa using he),h.pairs prog,hn⟩⟩,rfl,hz⟩
structure Df where
 c:Option Str
 x:Str
 q:Str
 st:Stmt
 ps:List Str
def mtA(K:Frag)(c m:Str):Addr:=match findIn K (.ref (clsAt K c)) m with
 |some (some (.ref a))=>a
 |_=>0
noncomputable def fdA(K:Frag)(a:Addr):FuncData:=match K.lookup a with
 |some ⟨_,_,.func d,_⟩=>d
 |_=>default
noncomputable def isF(K:Frag)(a:Addr):Bool:=match K.lookup a with
 |some ⟨_,_,.func _,_⟩=>true
 |_=>false
def Ur{K:Frag}(h:isF K a=true):∃q od Ks,K.lookup a=some ⟨q,od,.func (fdA K a),Ks⟩:=by
 unfold isF at h;unfold fdA;split at h
 ·rename_i e;rw[e];exact⟨_,_,_,rfl⟩
 ·cases h
namespace Df
def adr(K:Frag)(d:Df):Addr:=match d.c with
 |none=>clsAt K d.x
 |some c=>mtA K c d.x
def fd(K:Frag)(d:Df):FuncData:=fdA K (d.adr K)
def re(d:Df)(f:FuncData):FuncData:=fnOf d.x d.q (wM d.st) (gc d.st) (bI d.st) .none f.kwdefaults f.doc f.pyModule f.annotations f.code f.closureTuple
def isAt(K:Frag)(d:Df):Bool:=match d.c with
 |none=>decide (nsIn K mainGlobals d.x=some (some (.ref (d.adr K))))
 |some c=>decide (findIn K (.ref (clsAt K c)) d.x=some (some (.ref (d.adr K))))&&(isFn K (.ref (d.adr K))&&Pg K (clsAt K c))
def Rh(K:Frag)(d:Df):Bool:=isF K (d.adr K)&&(codeIn K (d.fd K).code d.q&&(keepIn K (.ref (d.adr K))&&d.isAt K))
structure Ok(K:Frag)(mg:Str->Option Value)(d:Df):Prop where
 fn:zt K d.x d.q d.st (d.adr K) (d.fd K)
 m0:d.c=none->mg d.x=some (.ref (d.adr K))
 m1:∀c,d.c=some c->Meth K (clsAt K c) d.x (d.adr K)/\EW K (clsAt K c)
def of{K:Frag}{d:Df}(X:K.In aa)(G:aa.Ns mainGlobals mg)(e:d.fd K=d.re (d.fd K))(k:d.Rh K=true):d.Ok K mg:=by
 unfold Rh at k;rw[bY,bY,bY]at k;obtain⟨k1,k2,k3,b⟩:=k;obtain⟨g,od,Ks,l⟩:=Ur k1;refine⟨⟨⟨g,od,_,_,_,_,_,_,Ks,e,l,k2⟩,k3⟩,λz=>?_,λc z=>?_⟩<;>unfold isAt at b<;>rw[z]at b
 ·exact mg_of X G (eR b)
 ·rw[bY,bY]at b;exact⟨⟨eR b.1,b.2.1,k3⟩,Mi b.2.2⟩
end Df
theorem Mj{K:Frag}{h:Heap}(X:K.In h)(G:h.Ns mainGlobals mg):∀{ds:List Df},ds.map (Df.fd K)=ds.map (λd=>d.re (d.fd K))->ds.all (Df.Rh K)=true->∀d∈ds,d.Ok K mg
 |[],_,_,d,m=>nomatch m
 |a::ds,e,k,d,m=>by
  rw[iN,bY]at k;rw[bB,bB]at e;injection e with b g
  rcases bH.mp m with rfl|m
  ·exact Df.of X G b k.1
  ·exact Mj X G g k.2 d m
section
variable {K:Frag}{d:Df}{N:List Str}{k:Nat}
structure yZ(P:Program)(w:World)(K:Frag)(mg:Str->Option Value)(aa:Heap)(CX:CQ)(i:Nat)(d:Df)(sp:Sp):Prop where
 ok:eI P w K mg aa CX i (d.adr K) (d.fd K) d.ps sp
 bd:Binds K (d.fd K) d.ps []
 df:d.Ok K mg
abbrev BdA(d:Df):Prop:=∀(kV doc pm:Value) (an:Option Addr) (gn ct:Value) (us:List Value),us.length=d.ps.length->bindArgs (fnOf d.x d.q (wM d.st) (gc d.st) (bI d.st) .none kV doc pm an gn ct) ⟨us,[]⟩=pure (d.ps.zip us)
abbrev cxD(CX:CQ)(P:Program)(w:World)(K:Frag)(mg:Str->Option Value)(aa:Heap)(N:List Str)(d:Df):=oZ CX P w K mg aa N d.q (bI d.st) (d.adr K)
abbrev Ml(K:Frag)(d:Df)(k:Nat)(gn:Value)(A:Around)(s:Shared):Prop:=dk k (A.deeper (envOfC d.q (bI d.st) s.heap.objs.size (d.adr K) gn))
def f9(N:List Str){a b:Nat}(D:d.Ok K mg)(hb:N.Nodup->∀q A outer s H E,Ml K d k q A s->ZB (cxD (vt P w) P w K mg aa N d q A outer s H E) (gc d.st) aK)(S:hX N d.ps (bI d.st):=by exact⟨rfl,rfl,rfl,by decide+kernel,rfl,by decide+kernel,by decide+kernel⟩) (B:BdA d:=by exact λ_ _ _ _ _ _=>by first|exact YL rfl|exact YN λ_=>rfl|exact YO λ_ _=>rfl|exact YQ λ_ _ _=>rfl|exact YR λ_ _ _ _=>rfl|exact us5 λ_ _ _ _ _=>rfl) (ha:d.ps.length=a:=by rfl) (hn:N.length=b:=by rfl):
  yZ P w K mg aa (vt P w) (k+1) d (wb K (fb a b aK)):=by
 subst ha;subst hn;exact⟨zt.abf D.fn S (λts A e=>DO e) λq A outer s H E g=>⟨aK,hb S.nd q A outer s H E g,λts A e=>OW e⟩,D.fn.binds B,D⟩
def jV(N:List Str){a b:Nat}{G:bX->Rs Out}(D:d.Ok K mg)(hb:N.Nodup->∀q A outer s H E,Ml K d k q A s->QB (cxD mH P w K mg aa N d q A outer s H E).JU (gc d.st) G)(S:hX N d.ps (bI d.st):=by exact⟨rfl,rfl,rfl,by decide+kernel,rfl,by decide+kernel,by decide+kernel⟩) (B:BdA d:=by exact λ_ _ _ _ _ _=>by first|exact YL rfl|exact YN λ_=>rfl|exact YO λ_ _=>rfl|exact YQ λ_ _ _=>rfl|exact YR λ_ _ _ _=>rfl|exact us5 λ_ _ _ _ _=>rfl) (ha:d.ps.length=a:=by rfl) (hn:N.length=b:=by rfl):
  yZ P w K mg aa mH (k+1) d (spT K (rW a b G)):=by
 subst ha;subst hn;exact⟨zt.okQ D.fn S (λts t e=>OA e) λq A outer s H E g=>⟨G,hb S.nd q A outer s H E g,λts t e=>SU e⟩,D.fn.binds B,D⟩
def abh(N:List Str){a b:Nat}(D:d.Ok K mg)(hb:N.Nodup->∀q A outer s H E,Ml K d k q A s->ZB (cxD mH P w K mg aa N d q A outer s H E).JU (gc d.st) aK)(S:hX N d.ps (bI d.st):=by exact⟨rfl,rfl,rfl,by decide+kernel,rfl,by decide+kernel,by decide+kernel⟩) (B:BdA d:=by exact λ_ _ _ _ _ _=>by first|exact YL rfl|exact YN λ_=>rfl|exact YO λ_ _=>rfl|exact YQ λ_ _ _=>rfl|exact YR λ_ _ _ _=>rfl|exact us5 λ_ _ _ _ _=>rfl) (ha:d.ps.length=a:=by rfl) (hn:N.length=b:=by rfl):
  yZ P w K mg aa mH (k+1) d (spT K (Dw a b aK)):=by
 subst ha;subst hn;exact⟨zt.abe D.fn S (λts t e=>Lb e) λq A outer s H E g=>⟨aK,hb S.nd q A outer s H E g,λts t e=>OH e⟩,D.fn.binds B,D⟩
def abi(D:d.Ok K mg)(B:BdA d:=by exact λ_ _ _ _ _ _=>by first|exact YL rfl|exact YN λ_=>rfl|exact YO λ_ _=>rfl|exact YQ λ_ _ _=>rfl|exact YR λ_ _ _ _=>rfl|exact us5 λ_ _ _ _ _=>rfl):yZ P w K mg aa mH k d (spT K λ_=>.bad):=
 ⟨⟨λvs H Q E ⟨_,ts,_,_,t,e,_⟩=>(nomatch e),λA outer s H args us vs Q E _ _ _ _ ⟨_,ts,_,_,t,e,_⟩=>(nomatch e)⟩,D.fn.binds B,D⟩
theorem yZ.toZ (C:yZ P w K mg aa mH i d (spT K h)):yZ P w K mg aa (vt P w) i d (wb K λts A=>gS (h ts) A):=⟨C.ok.toZ,C.bd,C.df⟩
def yZ.da {CX:CQ}{sp:Sp}(C:yZ P w K mg aa CX i d sp)(hc:d.c=none)(hx:d.x=x)(hq:d.q=x):z5 K mg x d.st d.ps (d.adr K) (d.fd K):=
 ⟨by have f:=C.df.fn;rw[hx,hq]at f;exact f,C.bd,by have m:=C.df.m0 hc;rw[hx]at m;exact m⟩
def yZ.ma {CX:CQ}{sp:Sp}{c m:Str}(C:yZ P w K mg aa CX i d sp)(hc:d.c=some c)(hx:d.x=m):MethAt K c m d.st d.ps (d.adr K) (d.fd K):=
 ⟨⟨d.q,by have f:=C.df.fn;rw[hx]at f;exact f⟩,C.bd,by have m:=(C.df.m1 c hc).1;rw[hx]at m;exact m,(C.df.m1 c hc).2⟩
structure Jx(K:Frag)(mg:Str->Option Value)(c:Str):Prop where
 m:makesIn K (clsAt K c)=true
 k:keepIn K (.ref (clsAt K c))=true
 g:mg c=some (.ref (clsAt K c))
def yZ.mk' {CX:CQ}{sp:Sp}{c:Str}(C:yZ P w K mg aa CX i d sp)(M:Jx K mg c)(q:d.c=some c)(hx:d.x="__init__"):yO K mg c d.ps (d.adr K) (d.fd K):=
 ⟨by have m:=(C.df.m1 c q).1;rw[hx]at m;exact⟨M.m,m.at_,m.fn,M.k⟩,C.bd,M.g⟩
end
section
variable {d:Df}{k:Nat}{kp:Pos}{c m:Str}
section
variable {O:bX->Rs Tr}(C:yZ X.prog X.w X.K X.mg X.base mH i d (spT X.K h))
include C
theorem d7(hr:dk k X.A)(ha:QA X (e::aA) L)(hn:i<=k:=by first|decide|omega) (hc:d.c=none:=by rfl) (hx:d.x=x:=by rfl) (hq:d.q=x:=by rfl) (hg:Gl X x:=by rfl) (fQ:Db x:=by decide) (cJ:bC (e::aA)=true:=by rfl):QE X (.Call (.Name x p) (e::aA) [] pos) (λY=>dM h (L Y)):=
 Yy (C.da hc hx hq) (C.ok.mono hn) hr ha hg fQ cJ
theorem jW(q:dk k X.A)(ho:QE X o F)(ha:QA X (e::aA) L)(hn:i<=k:=by first|decide|omega) (hc:d.c=some c:=by rfl) (hx:d.x=m:=by rfl) {pl:Sem Bool} (cJ:bC (e::aA)=true:=by rfl) (ht:eval (.Call (.Attribute o m b8) (e::aA) [] pos) X.env=ud pos b8 o m (e::aA) X.env pl:=by rfl):QE X (.Call (.Attribute o m b8) (e::aA) [] pos) (λY=>wa c m h (F Y) (L Y)):=
 Uh (C.ma hc hx) (C.ok.mono hn) q ho ha cJ ht
theorem rj(q:dk k X.A)(ho:QE X o F)(hn:i<=k:=by first|decide|omega) (hc:d.c=some c:=by rfl) (hx:d.x=m:=by rfl) {pl:Sem Bool} (ht:eval (.Call (.Attribute o m b8) [] [] pos) X.env=ud pos b8 o m [] X.env pl:=by rfl):QE X (.Call (.Attribute o m b8) [] [] pos) (λY=>wa c m h (F Y) (.ok [])):=
 Pa (C.ma hc hx) (C.ok.mono hn) q ho ht
theorem Mm(q:AA X.K (d.adr X.K))(hr:dk (k+1) X.A)(hm:X.mg "min"=none)(hl:QE X tg F)(ho:QE X o O)(hn:i<=k:=by first|decide|omega) (hc:d.c=some c:=by rfl) (hx:d.x=m:=by rfl) (ca:X.calm=true:=by rfl) (hg:Gl X "min":=by rfl) (cJ:bC [tg]=true:=by rfl) (hb:isCall o=false:=by rfl) (T':PySem.W.copiedNames.contains m=false:=by decide+kernel):
  QE X (.Call (.Name "min" p) [tg] [⟨some "key",.Attribute o m b8,kp⟩] pos) (λY=>Hq c m h (F Y) (O Y)):=
 Md (C.ma hc hx) q (C.ok.mono hn) hr hm hl ho ca hg cJ hb T'
end
section
variable {F:bX->Ab->Rz Tr}{L:bX->Ab->Rz (List Tr)}{h:List Tr->Ab->Rz Tr}(C:yZ X.prog X.w X.K X.mg X.base (vt X.prog X.w) i d (wb X.K h))
include C
theorem g8(hr:dk k X.A)(ha:ZL X (e::aA) L)(hn:i<=k:=by first|decide|omega) (hc:d.c=none:=by rfl) (hx:d.x=x:=by rfl) (hq:d.q=x:=by rfl) (he:X.ex=[]:=by rfl) (hg:Gl X x:=by rfl) (fQ:Db x:=by decide) (cJ:bC (e::aA)=true:=by rfl):ZE X (.Call (.Name x p) (e::aA) [] pos) (λY A=>(L Y A).bind h):=
 YF (C.da hc hx hq) (C.ok.mono hn) hr ha he hg fQ cJ
theorem cE(q:dk k X.A)(ho:ZE X o F)(ha:ZL X (e::aA) L)(hn:i<=k:=by first|decide|omega) (hc:d.c=some c:=by rfl) (hx:d.x=m:=by rfl) {pl:Sem Bool} (he:X.ex=[]:=by rfl) (cJ:bC (e::aA)=true:=by rfl) (ht:eval (.Call (.Attribute o m b8) (e::aA) [] pos) X.env=ud pos b8 o m (e::aA) X.env pl:=by rfl):ZE X (.Call (.Attribute o m b8) (e::aA) [] pos) (λY A=>uH c m h (F Y A) (L Y)):=
 Um (C.ma hc hx) (C.ok.mono hn) q ho ha he cJ ht
theorem BO(q:dk k X.A)(ho:ZE X o F)(hn:i<=k:=by first|decide|omega) (hc:d.c=some c:=by rfl) (hx:d.x=m:=by rfl) {pl:Sem Bool} (he:X.ex=[]:=by rfl) (ht:eval (.Call (.Attribute o m b8) [] [] pos) X.env=ud pos b8 o m [] X.env pl:=by rfl):ZE X (.Call (.Attribute o m b8) [] [] pos) (λY A=>uH c m h (F Y A) λA=>.ok [] A):=
 Pc (C.ma hc hx) (C.ok.mono hn) q ho he ht
theorem Us(M:Jx X.K X.mg c)(q:dk (k+1) X.A)(ha:ZL X (e::aA) L)(hn:i<=k:=by first|decide|omega) (hc:d.c=some c:=by rfl) (hx:d.x="__init__":=by rfl) (he:X.ex=[]:=by rfl) (hg:Gl X c:=by rfl) (fQ:Db c:=by decide) (cJ:bC (e::aA)=true:=by rfl):ZE X (.Call (.Name c p) (e::aA) [] pos) (λY A=>yN c h (L Y A)):=
 Uo (C.mk' M hc hx) (C.ok.mono hn) q ha he hg fQ cJ
theorem Ph(M:Jx X.K X.mg c)(q:dk (k+1) X.A)(hn:i<=k:=by first|decide|omega) (hc:d.c=some c:=by rfl) (hx:d.x="__init__":=by rfl) (he:X.ex=[]:=by rfl) (hg:Gl X c:=by rfl) (fQ:Db c:=by decide):ZE X (.Call (.Name c p) [] [] pos) (λ_ A=>yN c h (.ok [] A)):=
 Pd (C.mk' M hc hx) (C.ok.mono hn) q he hg fQ
end
end
def Ut(nn:Nat){c n:Str}{i:Nat}{G2:bX->Ab->Rz Out}(Tc:rh X.K X.mg c ps)(hb:∀pn E',ZB (X.lr pn E') ah aK)(hs:∀pn e,ZB (X.qj pn e) (ai::aj) G2)(hN:X.N.Nodup)(hi:X.N[i]?=some n:=by rfl) (hl:X.env.scope.names.lookup n=some .local:=by rfl)
  (cJ:X.stack=X.env::X.outer:=by rfl) (hf:X.env.frame=some X.env.locals:=by rfl) (hx:X.ex=[]:=by rfl) (Nz:zr X n:=by exact .inl rfl) (hg:Gl X c:=by rfl) (q:X.N.length=nn:=by rfl) (fQ:Db c:=by decide):
  ZS X (.Try ah [.ExceptHandler (some (.Name c p)) (some n) (ai::aj) b8] [] [] pos) (λY A=>FG nn i ps (aK Y A) G2):=by
 subst q;exact Pe Tc hb hs hN hi hl cJ hf hx Nz hg fQ
def Mn(r:Rs Tr):Rs (List Tr):=match r with
 |.ok (.lst ts)=>if nc ts=true then .ok ts else .bad
 |_=>.bad
def Hx:Tr->Tr->Rs Tr
 |.lst a,.lst b=>if a.length+b.length<=dZ then .ok (.lst (a++b))else .bad
 |_,_=>.bad
section
variable {b:Expr}{T:o4}
inductive tIn(X:Cx)(W:bX->Ab->Rs (List Tr))(Z:St)(H:Hp)(R:It->Hp->Prop):Prop
 |mk (B:fw) (A:Ab) (Y:bX):HA X.K B A H->cK X.K B H Z Y->fV Y->(Fi X H (W Y A) fun ts=>∀J H',bo H H'->lX X.K B J H' ts->R J H')->tIn X W Z H R
theorem YS(h:PE X e (tF X F)):PI X tg e (tIn X λY A=>Mn (F (dw A Y))):=by
 intro U s Z H R I ⟨B,A,Y,ha,r,n,q⟩;refine eN (h U s Z H (λx H1=>∃p vs ts,x=.ref p/\bo H H1/\(cn B H1).H p=some (.lst vs)/\bQ X.K (cn B H1) vs ts/\∀J H',bo H H'->lX X.K B J H' ts->R J H') I ⟨B.un,dw A Y,Ds ha.hb,r.OE ha n,?_⟩) λv s1 ⟨x,H1,g,r1,p,vs,ts,ex,l,hp,rr,k⟩=>?_
 ·have q:Fi X H (Mn (F (dw A Y))) _:=q;cases e:F (dw A Y)with
  |bad=>rw[e]at q;exact q
  |exc c=>rw[e]at q;exact fe q
  |ok t=>
   rw[e]at q;intro v H' s rv fr;have L:=ha.same s;have q:=q;unfold Mn at q;split at q
   ·rename_i e;cases e;obtain⟨p,vs,rfl,h,rr⟩:=rv.lst_inv;obtain⟨f,M⟩:=gR q;have S:H' p=some (.lst vs):=bJ _ _ h;exact⟨p,vs,_,rfl,s,by rw[gv (ha.hb.free (fr p rfl).1)];exact S,qa (lY.un L) rr f,M⟩
   ·exact q.elim
 ·subst ex;cases r1;obtain⟨cy,rv,pl,hz⟩:=g.list (lT.of (bJ _ _ hp));refine kP pl.isList ?_
  refine⟨s1.heap.objs.size,[s1.heap.objs.size],_,_,H1,rfl,g.kept (t':=s1.toks) λb o e=>bS _ e,zS p _,⟨_,cz _ rfl,rfl,rfl⟩,λb hb=>?_,k _ H1 l (yp hp rr)⟩;have e:b=s1.heap.objs.size:=by simpa using hb
  subst e;exact g.xW (bA _) (g.cW.fresh (bA _))
theorem Uu(ha:PE X am (tP X F))(hb:PE X b (tP X G)):PE X (.BinOp am .Add b pos) (tF X λY=>Iz Hx (F Y) (G Y)):=
 (Ql (Kw (X:=X)) ha hb).weak λZ H Q ⟨B,Y,hb,r,q⟩=>⟨B,Y,hb,r,q.bind.mono λx L v H1 s1 M=>⟨B,Y,hb.same s1,r.same s1,(L.bind.same s1).mono λy g u H2 s2 S=>by
  have l:=s1.trans s2;unfold Hx at g;split at g
  ·have f:=gR g;obtain⟨_,_,e1,h1,n⟩:=(M.same (bL s2)).lst_inv;obtain⟨_,_,e2,h2,I⟩:=S.lst_inv;exact⟨_,_,_,_,e1,e2,bJ _ _ h1,bJ _ _ h2,by rw[n.length,I.length,<-je];exact f.1,λp hp=>f.2 (.ref p) _ (l.Bh (l.free hp)) (.zD ((hb.same s1).same s2) hp (n.append I)) λp' e=>by cases e;exact .upd (l.free hp) (λ_ _ z=>by cases z)⟩
  ·exact g.elim⟩⟩
def Uv(q:QE X am F)(hb:QE X b G):NE X (.BinOp am .Add b pos) (λY=>Iz Hx (F Y) (G Y)):=⟨Uu q.h hb.h⟩
theorem Uw(h:NE X e F)(hg:QG X tg T)(hT:jT T)(hb:ZB X ah aK)(hp:PassesOwn (model X.prog X.w) X.A X.env X.xe:=by first|exact pH|exact xN) (hc:X.calm=true:=by rfl)
  (hs:isSet e=false:=by rfl):ZS X (.For tg e ah [] pos) (λY A=>G_ T aK (gS (Mn (F (dw A Y))) A) Y):=
 ⟨(ER hp hc (YS h.h) hg.h hb.h (gK hs)).weak λD Z H ⟨B0,H0,B,A,Y,S,g,ha,r,n,q⟩=>⟨B,A,Y,ha,r,n,(nh (g6.bind q)).mono λts qt J H1 s1 gt=>by
   have g1:Grows B0 H0 B H1:=g.trans S (.of s1);have Bs:HB B H1:=ha.hb.same s1;refine⟨λi m dB H'=>m=ts.length - i/\i<=ts.length/\∃B' A' iG,Grows B H1 B' H'/\HA X.K B' A' H'/\cK X.K B' H' dB iG/\fV iG/\g6 (XE X B0 H0) (sL T aK (ts.drop i) iG A') (v5 X D B0 H0),⟨_,rfl,d_ _,B,A,Y,.refl,ha.same s1,r.same s1,n,qt⟩,?_⟩
   rintro i m dB H' ⟨rfl,hi,B',A',iG,g',j9,r',n',q'⟩
   by_cases gJ:i<ts.length
   ·rw[o8 gJ]at q';refine .inr ⟨gt.go i B' H' gJ g'.jR j9.hb,λwL H2=>∃B2 A2 b,Grows B H1 B2 H2/\HA X.K B2 A2 H2/\cK X.K B2 H2 wL b/\fV b/\g6 (XE X B0 H0) (sL T aK (ts.drop (i+1)) b A2) (v5 X D B0 H0),
     λwL H2 x=>⟨ts.length - (i+1),by omega,rfl,gJ,x⟩,λx H2 hx=>?_⟩
    obtain⟨s2,t,et,rt⟩:=gt.Gs i B' H' x H2 gJ g'.jR j9.hb hx;have SF:ts[i]=t:=by rw[bZ gJ]at et;exact Option.some.inj et
    rw[SF]at q';have g2:Grows B H1 B' H2:=g'.trans Bs (.of s2);refine K_ hT Bs g2 (j9.same s2) (r'.same s2) n' rt (g6.bind q') λrR NG H3 q1 g3 Ha r3 n3 _=>?_
    refine⟨B,H1,B',A',rR,Bs,g3,Ha,r3,n3,((g6.bind q1).imp λc A'' x=>x.grow S g1).mono λo A4 qo=>?_⟩;cases o with
    |nx b=>exact λK' l H4 I L M n4=>⟨l,A4,b,I,L,M,n4,qo⟩
    |ct b=>exact λK' l H4 I L M n4=>⟨l,A4,b,I,L,M,n4,qo⟩
    |bk b=>exact λK' l H4 I L M n4=>qo K' l H4 (g1.trans S I) L M n4
    |ret t=>exact λv l H4 I L M=>qo v l H4 (g1.trans S I) L M
   ·have e:i=ts.length:=by omega
    subst e;rw[pA]at q';exact .inl ⟨gt.stop B' H' g'.jR,q' dB B' H' (g1.trans S g') j9 r' n'⟩⟩⟩
end
section
variable {A A':Ab}{n:Nat}{Y:bX}{t:Tr}
def Mo:aZ n A (.tup ts)=.tup ts:=by cases n<;>rfl
def sQ{z:Str}:aZ n A (.str z)=.str z:=by cases n<;>rfl
def Mp{z:Int}:aZ n A (.int z)=.int z:=by cases n<;>rfl
def Mq{z:Bool}:aZ n A (.bl z)=.bl z:=by cases n<;>rfl
def Ux:aZ n A .cA=.cA:=by cases n<;>rfl
def Uy{ns:List Int}:aZ n A (.vU ns)=.vU ns:=by cases n<;>rfl
def gX(h:A[i]?=some (.ins x bE)):aZ (n+1) A (.at i)=.ob x (bE.map λp=>(p.1,aZ n A p.2)):=by simp only[aZ,h]
def lu(h:A[i]?=some (.lst ts)):aZ (n+1) A (.at i)=.lst (ts.map (aZ n A)):=by simp only[aZ,h]
def gz(h:A[i]?=some (.bW aG)):aZ (n+1) A (.at i)=.bW (aG.map λp=>(p.1,aZ n A p.2)):=by simp only[aZ,h]
def fR(ts:List Tr):Prop:=∀t∈ts,∃us,t=.tup us
def wW(h:fR ts):ts.map (aZ n A)=ts:=by
 conv=>rhs;rw[<-jH ts]
 exact f_ λt b=>by obtain⟨us,rfl⟩:=h t b;exact Mo
def gU(bE:List (Key×Tr)):Prop:=∀p∈bE,∀n A,aZ n A p.2=p.2
def iW{bE:List (Key×Tr)}(h:gU bE):(bE.map λp=>(p.1,aZ n A p.2))=bE:=by
 conv=>rhs;rw[<-jH bE]
 exact f_ λp hp=>by rw[h p hp];rfl
structure Ext(A A':Ab)(pins:List (Nat×Ao)):Prop where
 le:A.length<=A'.length
 at':∀k o,A[k]?=some o->A'[k]?=some ((pins.lookup k).getD o)
def Ext.refl:Ext A A []:=⟨bA _,λk o e=>e⟩
def Ext.trans {A2:Ab}{pins V:List (Nat×Ao)}(a:Ext A A' pins)(b:Ext A' A2 V):Ext A A2 (V++pins):=⟨cB a.le b.le,λk o e=>by
 rw[b.at' k _ (a.at' k o e),List.lookup_append];cases V.lookup k<;>rfl⟩
theorem Ext.put {o o':Ao}(h:A[i]?=some o'):Ext A (A.set i o) [(i,o)]:=⟨by rw[kS];exact bA _,λk x e=>by
 by_cases b:k=i
 ·subst b;rw[pb (gD.mp e).1];simp only[List.lookup,bU,Option.getD]
 ·rw[mK (Ne.symm b),e];have:(k==i)=false:=by simpa using b
  simp only[List.lookup,this,Option.getD]⟩
def Ext.push {o:Ao}:Ext A (A++[o]) []:=⟨by simp,λk x e=>by rw[o7 (gD.mp e).1,e];rfl⟩
def ky{o:Ao}:(A++[o])[A.length]?=some o:=by simp
end
section
variable {β:Type}{A:Ab}{Y:bX}{x y t u:Tr}{a:ag}
def cP:(∀(a:ag) (f:ag->Rs β),(Rs.ok a).bind f=f a)/\(∀(a:ag) (A:Ab) (f:ag->Ab->Rz β),(Rz.ok a A).bind f=f a A)/\(∀(aC:Tr) (A:Ab) (f:ag->Ab->Rz β),(Rz.exc aC A:Rz ag).bind f=.exc aC A):=⟨λ_ _=>rfl,λ_ _ _=>rfl,λ_ _ _=>rfl⟩
def fg(a:ag)(A:Ab):gS (.ok a) A=.ok a A:=rfl
def ev:(∀Y A G,Fo (.ok (.nx Y) A) G=G Y A)/\(∀t A G,Fo (.ok (.ret t) A) G=.ok (.ret t) A)/\(∀aC A G,Fo (.exc aC A) G=.exc aC A)
  /\(∀i t A Y,Br i (.ok t A) Y=.ok (.nx (Y.set i (.sh t))) A)/\(∀i aC A Y,Br i (.exc aC A) Y=.exc aC A)
  /\(∀t A Y,rX (.ok t A) Y=.ok (.nx Y) A)/\(∀aC A Y,rX (.exc aC A) Y=.exc aC A)/\(∀t A,K9 (.ok t A)=.ok (.ret t) A)/\(∀aC A,K9 (.exc aC A)=.exc aC A)
  /\(∀Y A,cI (.ok (.nx Y) A)=.ok .cA A)/\(∀t A,cI (.ok (.ret t) A)=.ok t A)/\(∀aC A,cI (.exc aC A)=.exc aC A)
  /\(∀x A l,Hb (.ok x A) l=(l A).bind λxs A=>.ok (x::xs) A)/\(∀x l,yo (.ok x) l=l.bind λxs=>.ok (x::xs))
  /\(∀h x y,Iz h (.ok x) (.ok y)=h x y)/\(∀h l,dM h (.ok l)=h l)/\(∀b,Z1 (.ok (.bl b))=.ok b)
  /\(∀A a b,Z5 (.ok true A) a b=a A)/\(∀A a b,Z5 (.ok false A) a b=b A)/\(∀a b,Vj (.ok true) a b=a)/\(∀a b,Vj (.ok false) a b=b)
  /\(∀aC Y n,yl (aC::Y) (n+1)=yl Y n)/\(∀t Y,yl (.sh t::Y) 0=.ok t)/\(∀A t Y,dw A (.sh t::Y)=.sh (aZ 5 A t)::dw A Y)/\(∀A Y,dw A (.no::Y)=.no::dw A Y)/\(∀A,dw A []=[])
  /\(Bl (.ok [])=.ok (.tup []))/\(∀a,Bl (.ok [a])=.ok (.tup [a]))/\(∀a b,Bl (.ok [a,b])=.ok (.tup [a,b]))/\(∀a b aC,Bl (.ok [a,b,aC])=.ok (.tup [a,b,aC]))/\(∀a b aC d,Bl (.ok [a,b,aC,d])=.ok (.tup [a,b,aC,d]))/\(∀a b aC d e,Bl (.ok [a,b,aC,d,e])=.ok (.tup [a,b,aC,d,e]))
  /\(∀ts,Ay [.lst ts]=.ok (.int ts.length))/\(∀ts,Ay [.tup ts]=.ok (.int ts.length))/\(∀ts,Ay [.bW ts]=.ok (.int ts.length))
  /\(∀i j,vp (.int i) (.int j)=.ok (.int (i+j)))/\(∀x t A,FE x (.ok [t] A)=.exc (.str x) A)/\(∀i,SS (.int i)=.ok (.int (-i)))
  /\(∀i A,vZ (.ok (.int i)) A=.ok (.int i) A)/\(∀z A,vZ (.ok (.str z)) A=.ok (.str z) A)/\(∀b A,vZ (.ok (.bl b)) A=.ok (.bl b) A)/\(∀A,vZ (.ok .cA) A=.ok .cA A)/\(∀i A,vZ (.ok (.at i)) A=.ok (.at i) A)
  /\(∀b,IB (.ok true) b=b)/\(∀b,IB (.ok false) b=.ok false)/\(∀b,WB (.ok true) b=.ok true)/\(∀b,WB (.ok false) b=b)/\(∀b,IA (.ok b)=.ok (!b))/\(∀a b,KR (.ok true) a b=a)/\(∀a b,KR (.ok false) a b=b)
  /\(∀z bE,zu (.str z) (.bW bE)=.ok (.bl (e_ bE (.inr z)).isSome))/\(∀z bE,Ot (.str z) (.bW bE)=.ok (.bl (!(e_ bE (.inr z)).isSome)))/\(∀z,OR (.str z)=.ok (.str z))/\(∀z y,eqC (.str z) (.str y)=.ok (.bl (z==y)))/\(∀i j,eqC (.int i) (.int j)=.ok (.bl (i==j)))/\(∀i j,gtC (.int i) (.int j)=.ok (.bl (decide (j<i))))
  /\(∀Y,dC (.ok (.nx Y))=.ok .cA)/\(∀t,dC (.ok (.ret t))=.ok t)/\(∀t,KY (.ok t)=.ok (.ret t))/\(∀Y G,Dc (.ok (.nx Y)) G=G Y)/\(∀t G,Dc (.ok (.ret t)) G=.ok (.ret t))/\(∀i t Y,KW i (.ok t) Y=.ok (.nx (Y.set i (.sh t)))):=by
 refine⟨?_,?_,?_,?_,?_,?_,?_,?_,?_,?_,?_,?_,?_,?_,?_,?_,?_,?_,?_,?_,?_,?_,?_,?_,?_,?_,?_,?_,?_,?_,?_,?_,?_,?_,?_,?_,?_,?_,?_,?_,?_,?_,?_,?_,?_,?_,?_,?_,?_,?_,?_,?_,?_,?_,?_,?_,?_,?_,?_,?_,?_,?_⟩<;>intros<;>rfl
def fE:(∀n A ts,aZ n A (.tup ts)=.tup ts)/\(∀n A z,aZ n A (.str z)=.str z)/\(∀n A i,aZ n A (.int i)=.int i)/\(∀n A b,aZ n A (.bl b)=.bl b)/\(∀n A,aZ n A .cA=.cA)/\(∀n A ns,aZ n A (.vU ns)=.vU ns):=⟨λ_ _ _=>Mo,λ_ _ _=>sQ,λ_ _ _=>Mp,λ_ _ _=>Mq,λ_ _=>Ux,λ_ _ _=>Uy⟩
variable {z:Str}{bE:List (Key×Tr)}
def BP{F:Nat->List Tr->Ab->Rz Tr}{l:Ab->Rz (List Tr)}(h:A[i]?=some (.lst ts)):mtL F (.ok (.at i) A) l=(l A).bind λus A=>F i us A:=by
 show(if Xg A i=true then(l A).bind λus A=>F i us A else .bad)=_;exact aY (by unfold Xg;rw[h])
def BQ(h:A[i]?=some (.lst ts))(q:ts.length<dZ):S_ i [t] A=.ok .cA (A.set i (.lst (ts++[t]))):=by
 show(match A[i]? with|some (.lst ts)=>if ts.length<dZ then Rz.ok Tr.cA (A.set i (.lst (ts++[t])))else .bad|_=>.bad)=_;rw[h];exact aY q
def putD(A:Ab)(t q tv:Tr)(Y:bX):Rz Out:=match DQ A t q tv with
 |some A'=>.ok (.nx Y) A'
 |none=>.bad
def n_{o k:Ab->Rz Tr}:TK (.ok t A) o k Y=(o A).bind λu A=>(k A).bind λq A=>putD A u q t Y:=rfl
def mC(h:A[i]?=some (.bW bE))(q:bE.length<dZ):putD A (.at i) (.str z) t Y=.ok (.nx Y) (A.set i (.bW (ll bE (.inr z) t))):=by
 have:DQ A (.at i) (.str z) t=some (A.set i (.bW (ll bE (.inr z) t))):=by
  show(match A[i]? with|some (.bW bE)=>if bE.length<dZ then some (A.set i (.bW (ll bE (.inr z) t)))else none|_=>none)=_;rw[h];exact aY q
 unfold putD;rw[this]
def Hy(i:Nat)(q:Tr)(A:Ab):Rz Tr:=match ko q with
 |some key=>if nr A i=true then match e_ (o5 A i) key with
  |some v=>.ok v (A.set i (.bW (iT (o5 A i) key)))
  |none=>.bad
  else .bad
 |none=>.bad
def BR{k:Ab->Rz Tr}(h:A[i]?=some (.bW bE)):LC (.ok (.at i) A) k=(k A).bind λq A=>Hy i q A:=by
 have e:nr A i=true:=by unfold nr;rw[h]
 show(if nr A i=true then(k A).bind λq A=>Hy i q A else .bad)=_;exact aY e
def BS{v:Tr}(h:A[i]?=some (.bW bE))(q:e_ bE (.inr z)=some v):Hy i (.str z) A=.ok v (A.set i (.bW (iT bE (.inr z)))):=by
 have e:nr A i=true:=by unfold nr;rw[h]
 have g:o5 A i=bE:=by unfold o5;rw[h]
 unfold Hy;simp only[e,cj,ko,g,q]
def Hz(x:Ab->Rz Tr)(i:Nat)(q:Tr)(A:Ab):Rz Tr:=match ko q with
 |some key=>(x A).bind λtx A=>if nr A i=true then match e_ (o5 A i) key with
  |some v=>.ok v (A.set i (.bW (iT (o5 A i) key)))
  |none=>.ok tx A
  else .bad
 |none=>.bad
def HC{k x:Ab->Rz Tr}(h:A[i]?=some (.bW bE)):LF (.ok (.at i) A) k x=(k A).bind λq A=>Hz x i q A:=by
 have e:nr A i=true:=by unfold nr;rw[h]
 show(if nr A i=true then(k A).bind λq A=>Hz x i q A else .bad)=_;exact aY e
theorem Jy(q:e_ bE (.inr z)=none):iT bE (.inr z)=bE:=mM.mpr λp hp=>by
 unfold e_ at q;rw[Option.map_eq_none_iff,List.find?_eq_none]at q;simpa using q p hp
def Uz{o:Ao}(h:A[i]?=some o):A.set i o=A:=by
 apply pq;intro k;by_cases b:i=k
 ·subst b;rw[pb (gD.mp h).1,h]
 ·rw[mK b]
def HD{x:Ab->Rz Tr}(q:x A=.ok .cA A)(h:A[i]?=some (.bW bE)):Hz x i (.str z) A=.ok ((e_ bE (.inr z)).getD .cA) (A.set i (.bW (iT bE (.inr z)))):=by
 have e:nr A i=true:=by unfold nr;rw[h]
 have g:o5 A i=bE:=by unfold o5;rw[h]
 unfold Hz;simp only[ko,q,Rz.bind,e,cj,g];cases b:e_ bE (.inr z)with
 |some v=>rfl
 |none=>rw[Jy b,Uz h];rfl
def BU{y:Str}(h:z.length<=1000)(q:y.length<=1000):(λacc=>lq (.ok (.str z)) (λacc=>lq (.ok (.str y)) (λacc=>zG acc) acc) acc) Str.empty=.ok (.str (Str.empty++z++y)):=by
 have l1:(Str.empty++z).length<=cZ:=by rw[o9];show 0+z.length<=1000000;omega
 have l2:(Str.empty++z++y).length<=cZ:=by rw[o9,o9];show 0+z.length+y.length<=1000000;omega
 show(if(Str.empty++z).length<=cZ then lq (.ok (.str y)) (λacc=>zG acc) (Str.empty++z)else .bad)=_;rw[aY l1];show(if(Str.empty++z++y).length<=cZ then zG (Str.empty++z++y)else .bad)=_;rw[aY l2];exact aY l2
end
noncomputable def roomF(i:Nat):List (Str×Tr):=[("log",.at (i+1)),("ranks",.at (i+2)),("entries",.at (i+3)),("chosen",.at (i+4)),("banned",.at (i+5)),("invited",.at (i+6)),("read_marks",.at (i+7)),("said_by_key",.at (i+8))]
structure bG(A:Ab)(i:Nat)(rows:List Tr)(rk en ch bn iv:List (Key×Tr)):Prop where
 o:A[i]?=some (.ins "Room" (roomF i))
 lg:A[i+1]?=some (.lst rows)
 rk:A[i+2]?=some (.bW rk)
 en:A[i+3]?=some (.bW en)
 ch:A[i+4]?=some (.bW ch)
 bn:A[i+5]?=some (.bW bn)
 iv:A[i+6]?=some (.bW iv)
structure fi(rows:List Tr)(rk en ch bn iv:List (Key×Tr)):Prop where
 lg:fR rows
 rk:gU rk
 en:gU en
 ch:gU ch
 bn:gU bn
 iv:gU iv
section
variable {A:Ab}{rows:List Tr}{en ch bn iv:List (Key×Tr)}
def bG.abj (h:bG A i rows aG en ch bn iv)(f:fi rows aG en ch bn iv):j_ ["Room"] "log" (aZ 5 A (.at i))=.ok (.lst rows):=by
 rw[gX h.o];show Rs.ok (aZ 4 A (.at (i+1)))=_;rw[lu h.lg,wW f.lg]
def bG.rN (h:bG A i rows aG en ch bn iv)(f:fi rows aG en ch bn iv):j_ ["Room"] "ranks" (aZ 5 A (.at i))=.ok (.bW aG):=by
 rw[gX h.o];show Rs.ok (aZ 4 A (.at (i+2)))=_;rw[gz h.rk,iW f.rk]
def bG.abk (h:bG A i rows aG en ch bn iv)(f:fi rows aG en ch bn iv):j_ ["Room"] "entries" (aZ 5 A (.at i))=.ok (.bW en):=by
 rw[gX h.o];show Rs.ok (aZ 4 A (.at (i+3)))=_;rw[gz h.en,iW f.en]
def bG.YT (h:bG A i rows aG en ch bn iv)(f:fi rows aG en ch bn iv):j_ ["Room"] "chosen" (aZ 5 A (.at i))=.ok (.bW ch):=by
 rw[gX h.o];show Rs.ok (aZ 4 A (.at (i+4)))=_;rw[gz h.ch,iW f.ch]
def bG.Mr (h:bG A i rows aG en ch bn iv)(f:fi rows aG en ch bn iv):j_ ["Room"] "banned" (aZ 5 A (.at i))=.ok (.bW bn):=by
 rw[gX h.o];show Rs.ok (aZ 4 A (.at (i+5)))=_;rw[gz h.bn,iW f.bn]
def bG.YU (h:bG A i rows aG en ch bn iv)(f:fi rows aG en ch bn iv):j_ ["Room"] "invited" (aZ 5 A (.at i))=.ok (.bW iv):=by
 rw[gX h.o];show Rs.ok (aZ 4 A (.at (i+6)))=_;rw[gz h.iv,iW f.iv]
def bG.abl (h:bG A i rows aG en ch bn iv):uI ["Room"] "log" (.ok (.at i) A)=.ok (.at (i+1)) A:=by unfold uI Rz.bind;simp only[h.o];rfl
def bG.Pj (h:bG A i rows aG en ch bn iv):uI ["Room"] "ranks" (.ok (.at i) A)=.ok (.at (i+2)) A:=by unfold uI Rz.bind;simp only[h.o];rfl
def bG.abm (h:bG A i rows aG en ch bn iv):uI ["Room"] "entries" (.ok (.at i) A)=.ok (.at (i+3)) A:=by unfold uI Rz.bind;simp only[h.o];rfl
def bG.YV (h:bG A i rows aG en ch bn iv):uI ["Room"] "banned" (.ok (.at i) A)=.ok (.at (i+5)) A:=by unfold uI Rz.bind;simp only[h.o];rfl
def bG.abn (h:bG A i rows aG en ch bn iv):uI ["Room"] "invited" (.ok (.at i) A)=.ok (.at (i+6)) A:=by unfold uI Rz.bind;simp only[h.o];rfl
def bG.call (h:bG A i rows aG en ch bn iv){m:Str}(hm:EI (roomF i) m=true)(F:List Tr->Ab->Rz Tr)(l:Ab->Rz (List Tr)):uH "Room" m F (.ok (.at i) A) l=(l A).bind λts A=>F (.at i::ts) A:=by
 show(match A[i]? with|some (.ins x fs)=>if x="Room"/\EI fs m=true then(l A).bind λts A=>F (.at i::ts) A else .bad|_=>.bad)=_;rw[h.o];exact aY ⟨rfl,hm⟩
def Ext.same {A':Ab}{pins:List (Nat×Ao)}{k:Nat}{o:Ao}(e:Ext A A' pins)(h:A[k]?=some o)(n:pins.lookup k=none):A'[k]?=some o:=by rw[e.at' k o h,n];rfl
def Ext.new {A':Ab}{pins:List (Nat×Ao)}{k:Nat}{o o':Ao}(e:Ext A A' pins)(h:A[k]?=some o)(n:pins.lookup k=some o'):A'[k]?=some o':=by rw[e.at' k o h,n];rfl
variable {A':Ab}{dm:List Tr}{d':List (Key×Tr)}
theorem gV{o:Ao}(h:i≠az):[(az,o)].lookup i=none:=by
 have:(i==az)=false:=by simpa using h
 simp only[List.lookup,this]
theorem JZ{o:Ao}:[(i,o)].lookup i=some o:=by simp only[List.lookup,bU]
def bG.e_0 (h:bG A i rows aG en ch bn iv)(e:Ext A A' []):bG A' i rows aG en ch bn iv:=⟨e.same h.o rfl,e.same h.lg rfl,e.same h.rk rfl,e.same h.en rfl,e.same h.ch rfl,e.same h.bn rfl,e.same h.iv rfl⟩
def bG.y0 (h:bG A i rows aG en ch bn iv)(e:Ext A A' [(i+1,.lst dm)]):bG A' i dm aG en ch bn iv:=⟨e.same h.o (gV (by omega)),e.new h.lg JZ,e.same h.rk (gV (by omega)),e.same h.en (gV (by omega)),e.same h.ch (gV (by omega)),e.same h.bn (gV (by omega)),e.same h.iv (gV (by omega))⟩
def bG.Pk (h:bG A i rows aG en ch bn iv)(e:Ext A A' [(i+2,.bW d')]):bG A' i rows d' en ch bn iv:=⟨e.same h.o (gV (by omega)),e.same h.lg (gV (by omega)),e.new h.rk JZ,e.same h.en (gV (by omega)),e.same h.ch (gV (by omega)),e.same h.bn (gV (by omega)),e.same h.iv (gV (by omega))⟩
def bG.abo (h:bG A i rows aG en ch bn iv)(e:Ext A A' [(i+3,.bW d')]):bG A' i rows aG d' ch bn iv:=⟨e.same h.o (gV (by omega)),e.same h.lg (gV (by omega)),e.same h.rk (gV (by omega)),e.new h.en JZ,e.same h.ch (gV (by omega)),e.same h.bn (gV (by omega)),e.same h.iv (gV (by omega))⟩
def bG.Pl (h:bG A i rows aG en ch bn iv)(e:Ext A A' [(i+5,.bW d')]):bG A' i rows aG en ch d' iv:=⟨e.same h.o (gV (by omega)),e.same h.lg (gV (by omega)),e.same h.rk (gV (by omega)),e.same h.en (gV (by omega)),e.same h.ch (gV (by omega)),e.new h.bn JZ,e.same h.iv (gV (by omega))⟩
def bG.abp (h:bG A i rows aG en ch bn iv)(e:Ext A A' [(i+6,.bW d')]):bG A' i rows aG en ch bn d':=⟨e.same h.o (gV (by omega)),e.same h.lg (gV (by omega)),e.same h.rk (gV (by omega)),e.same h.en (gV (by omega)),e.same h.ch (gV (by omega)),e.same h.bn (gV (by omega)),e.new h.iv JZ⟩
def qF(h:fR rows):fR (rows++[.tup ts]):=λt b=>by
 rcases dF.mp b with b|b
 ·exact h t b
 ·exact⟨ts,de.mp b⟩
def Jz{k:Key}(h:gU aG):gU (iT aG k):=λp hp=>h p ((fJ.mp hp).1)
end
section
variable {f:ag->Tr}{l:List (Str×ag)}{z:Str}{a:ag}
noncomputable def dP(f:ag->Tr)(l:List (Str×ag)):List (Key×Tr):=l.map λp=>(Sum.inr p.1,f p.2)
noncomputable def fN(l:List (Str×ag))(z:Str)(a:ag):List (Str×ag):=if(l.any λp=>decide (p.1=z))=true then l.map (λp=>if p.1=z then(p.1,a)else p)else l++[(z,a)]
noncomputable def iA(l:List (Str×ag))(z:Str):List (Str×ag):=l.filter λp=>decide (p.1≠z)
def HE:((Sum.inr x:Key)=.inr z)↔x=z:=⟨λh=>by injection h,λh=>by rw[h]⟩
def HF:(decide ((Sum.inr x:Key)=.inr z))=decide (x=z):=xE.mpr HE
theorem eC:∀{l:List (Str×ag)},e_ (dP f l) (.inr z)=(l.lookup z).map f
 |[]=>rfl
 |(y,b)::l=>by
  have g:=eC (l:=l);unfold e_ at g⊢;show Option.map _ (List.find? _ ((Sum.inr y,f b)::dP f l))=_;rw[kl,cQ];by_cases h:y=z
  ·subst h;simp
  ·have h2:(z==y)=false:=by simpa using Ne.symm h
   simp only[HF,h,decide_false,h2];exact g
theorem lx:ll (dP f l) (.inr z) (f a)=dP f (fN l z a):=by
 unfold ll fN;have e:((dP f l).any λb=>decide (b.1=(.inr z:Key)))=l.any λp=>decide (p.1=z):=by
  unfold dP;rw[List.any_map];congr 1;funext p;exact HF
 rw[e];split
 ·unfold dP;rw[cO,cO];apply f_;intro p hp;by_cases h:p.1=z
  ·simp[h]
  ·simp[h]
 ·unfold dP;rw[iL];rfl
def wX:iT (dP f l) (.inr z)=dP f (iA l z):=by
 unfold iT iA dP;rw[pE];congr 1;apply tT;intro p hp;show decide ((Sum.inr p.1:Key)≠ .inr z)=decide (p.1≠z);simp[HE]
def jX:(dP f l).length=l.length:=bu _
def uL(h:∀a n A,aZ n A (f a)=f a):gU (dP f l):=λp hp n A=>by
 obtain⟨q,_,rfl⟩:=cC.mp hp;exact h q.2 n A
def HG(h:∀p∈l,p.1.length<=cZ):Dx (dP f l)=.ok (l.map λp=>.str p.1):=by
 unfold Dx;rw[aY]
 ·unfold dP;rw[cO];rfl
 ·unfold dP;rw[pL,dE];intro p hp;exact hU (h p hp)
end
section
variable {k:Str->Int×Int}
theorem AJ:∀{ns:List Str},(∀z∈ns,h [aC,.str z]=.ok (.tup [.int (k z).1,.int (k z).2]))->keysOf h aC (ns.map .str)=some (ns.map k)
 |[],_=>rfl
 |z::ns,q=>by
  show((keyOf (h [aC,.str z])).bind λk=>(keysOf h aC (ns.map .str)).map λks=>k::ks)=_;rw[q z (cG ..),AJ λy b=>q y (cw _ b)]
  rfl
theorem vD{kf:Nat->Int×Int}:∀j,dt kf j<=j
 |0=>bA _
 |j+1=>by
  unfold dt;split
  ·exact bA _
  ·exact Nat.le_succ_of_le (vD j)
theorem uM{kf:Nat->Int×Int}:∀j,(∀a b,a<b->b<=j->(kf a).2<(kf b).2)->(∀a,a<=j->(kf (dt kf j)).1<=(kf a).1)/\(∀a,a<dt kf j->(kf (dt kf j)).1<(kf a).1)
 |0,_=>⟨λa ha=>by cases Nat.le_zero.mp ha;exact Int.le_refl _,λa ha=>absurd ha (xH _)⟩
 |j+1,l=>by
  obtain⟨g,h2⟩:=uM (kf:=kf) j λa b n hb=>l a b n (Nat.le_succ_of_le hb);have hb:=vD (kf:=kf) j;have r:=l (dt kf j) (j+1) (Nat.lt_succ_of_le hb) (bA _);have e:jU (kf (j+1)) (kf (dt kf j))=decide ((kf (j+1)).1<(kf (dt kf j)).1):=by
   unfold jU;by_cases q:(kf (j+1)).1<(kf (dt kf j)).1
   ·simp[q]
   ·simp[q];intros;omega
  unfold dt;rw[e];by_cases q:(kf (j+1)).1<(kf (dt kf j)).1
  ·rw[aY (hU q)];refine⟨λa ha=>?_,λa ha=>Int.lt_of_lt_of_le q (g a (xC ha))⟩;rcases Nat.lt_or_eq_of_le ha with ha|rfl
   ·exact Int.le_of_lt (Int.lt_of_lt_of_le q (g a (xC ha)))
   ·exact Int.le_refl _
  ·rw[bc (by simpa using q)];refine⟨λa ha=>?_,h2⟩;rcases Nat.lt_or_eq_of_le ha with ha|rfl
   ·exact g a (xC ha)
   ·exact Int.not_lt.mp q
end
section
variable {α:Type}{f:α->Tr}{l:List (Str×α)}{z:Str}{A:Ab}{n:Nat}
def dS:lj (.bW (dP f l)) (.str z)=lh ((l.lookup z).map f):=by
 show(lh (ko (.str z))).bind (λk=>lh (e_ (dP f l) k))=_;show lh (e_ (dP f l) (.inr z))=_;rw[eC]
theorem nv:∀{ns:List Str},nc (ns.map .str)=true
 |[]=>rfl
 |z::ns=>by rw[bB,nc,JX,pJ];exact nv
def rn{ns:List Str}:(ns.map Tr.str).map (aZ n A)=ns.map .str:=by
 rw[cO];exact f_ λz _=>sQ
theorem D9{C:bX->Rs Bool}{Y:bX}{P:Str->Bool}(hF:∀z,F (.sh (.str z)::Y)=.ok (.str z)):∀{ns:List Str} {c:Cell},(∀z∈ns,C (.sh (.str z)::Y)=.ok (P z))->Fb (gN 0) C F (ns.map .str) (c::Y)=.ok ((ns.filter P).map .str)
 |[],_,_=>rfl
 |z::ns,c,hC=>by
  have b:=D9 (Y:=Y) hF (ns:=ns) (c:=.sh (.str z)) λy g=>hC y (cw _ g);show(Oc (C (.sh (.str z)::Y))).bind (λk=>if k then(Oc (F (.sh (.str z)::Y))).bind λy=>(Fb (gN 0) C F (ns.map .str) (.sh (.str z)::Y)).bind λys=>.ok (y::ys)else Fb (gN 0) C F (ns.map .str) (.sh (.str z)::Y))=_;rw[hC z (cG ..),hF z,b];show(if P z then _ else _)=_;cases e:P z with
  |true=>rw[lN e];rfl
  |false=>rw[ke (by rw[e];exact fI)];rfl
def Ms{ks:List (Int×Int)}{t:Tr}(q:EI bE av=true)(Ua:0<ts.length)(hs:keysOf h (.ob x bE) ts=some ks)(ht:ts[dt (λi=>ks.getD i (0,0)) (ts.length - 1)]?=some t):wc x av h (.lst ts) (.ob x bE)=.ok t:=by
 unfold wc;simp only[q,Ua,and_self,cj,hs,ht]
 rfl
def ny{r:Rs (List Tr)}{ix:List (Option Nat)}{Y AK:bX}{c:Cell}(P:Str->Bool){ns:List Str}(hr:r=.ok (ns.map .str))(hl:ns.length<=dZ)(q:uA ix Y=c::AK)(hF:∀z,F (.sh (.str z)::AK)=.ok (.str z))(hC:∀z∈ns,aF (.sh (.str z)::AK)=.ok (P z)):vX ix (gN 0) aF F r Y=.ok (.lst ((ns.filter P).map .str)):=by
 unfold vX;rw[hr,q];show(if(ns.map Tr.str).length<=dZ then _ else _)=_;rw[aY (by rw[bu];exact hl),D9 hF hC]
 rfl
def uN(h:nc ts=true):vv (.ok (.lst ts)) A=.ok (.at A.length) (A++[.lst ts]):=aY h
def wY(h:∀p∈l,p.1.length<=1000):Ld (.ok (.bW (dP f l)))=.ok (l.map λp=>.str p.1):=HG λp hp=>cB (h p hp) (by decide)
def map_fst:(l.map λp=>Tr.str p.1)=(l.map (·.1)).map .str:=by rw[cO];rfl
def Ext.idem {A':Ab}{pins:List (Nat×Ao)}{k:Nat}{o:Ao}(e:Ext A A' pins)(h:A[k]?=some o)(hu:pins.lookup k=none):Ext A A' ((k,o)::pins):=⟨e.le,λj x q=>by
 rw[cQ];by_cases b:j=k
 ·subst b;rw[h]at q;cases q;rw[e.at' j o h,hu];simp
 ·have:(j==k)=false:=by simpa using b
  rw[this];exact e.at' j x q⟩
def Ext.cons {A' A2:Ab}{pins:List (Nat×Ao)}{k:Nat}{o:Ao}(a:Ext A A' pins)(b:Ext A' A2 [(k,o)]):Ext A A2 ((k,o)::pins):=a.trans b
def Ext.past {A' A2:Ab}{pins:List (Nat×Ao)}(a:Ext A A' [])(b:Ext A' A2 pins):Ext A A2 pins:=by have:=a.trans b;rwa[kj]at this
end
structure cx(A:Ab)(bf:List (Str×Bool))(a9:List (Str×Nat)):Prop where
 o:A[0]?=some (.ins "Hall" [("persons",.at 1),("places",.at 2),("hands",.at 3)])
 ps:A[1]?=some (.bW (dP .bl bf))
 pl:A[2]?=some (.bW (dP .at a9))
section
variable {A A':Ab}{bf:List (Str×Bool)}{a9:List (Str×Nat)}
def flB{l:List (Str×Bool)}:gU (dP .bl l):=uL λ_ _ _=>Mq
def cx.Pm (h:cx A bf a9):j_ ["Hall"] "persons" (aZ 5 A (.at 0))=.ok (.bW (dP .bl bf)):=by
 rw[gX h.o];show Rs.ok (aZ 4 A (.at 1))=_;rw[gz h.ps,iW flB]
def cx.UA (h:cx A bf a9):j_ ["Hall"] "places" (aZ 5 A (.at 0))=.ok (.bW (dP (λj=>aZ 3 A (.at j)) a9)):=by
 rw[gX h.o];show Rs.ok (aZ 4 A (.at 2))=_;rw[gz h.pl];unfold dP;rw[cO];rfl
def cx.abq (h:cx A bf a9):uI ["Hall"] "places" (.ok (.at 0) A)=.ok (.at 2) A:=by unfold uI Rz.bind;simp only[h.o];rfl
def cx.call (h:cx A bf a9){m:Str}(hm:EI [("persons",.at 1),("places",.at 2),("hands",.at 3)] m=true)(F:List Tr->Ab->Rz Tr)(l:Ab->Rz (List Tr)):uH "Hall" m F (.ok (.at 0) A) l=(l A).bind λts A=>F (.at 0::ts) A:=by
 show(match A[0]? with|some (.ins x fs)=>if x="Hall"/\EI fs m=true then(l A).bind λts A=>F (.at 0::ts) A else .bad|_=>.bad)=_;rw[h.o];exact aY ⟨rfl,hm⟩
def kz{b:Ab->Rz Tr}:O1 aE (.ok aC A) b=(b A).bind λy A=>vZ (aE (aZ 1 A aC) (aZ 1 A y)) A:=rfl
def BV{f:ag->Tr}{l:List (Str×ag)}(h:A[i]?=some (.bW (dP f l))):aZ 1 A (.at i)=.bW (dP f l):=by
 rw[gz h];unfold dP;rw[cO];rfl
theorem FU:(∀T G Y A,sL T G [] Y A=.ok (.nx Y) A)/\(∀T G t ts Y A,sL T G (t::ts) Y A=(gS (T t Y) A).bind λrR A=>(G rR A).bind λo A=>match o with
  |.nx q=>sL T G ts q A
  |.ct q=>sL T G ts q A
  |.bk q=>.ok (.nx q) A
  |.ret t=>.ok (.ret t) A)/\(∀T G ts A Y,G_ T G (.ok ts A) Y=sL T G ts Y A)/\(∀i t Y,gN i t Y=.ok (Y.set i (.sh t)))/\(∀ts,KZ (.ok (.tup ts))=.ok ts)/\(∀ts,KZ (.ok (.lst ts))=.ok ts):=by
 refine⟨?_,?_,?_,?_,?_,?_⟩<;>intros<;>rfl
end
noncomputable def AL(j ks kb ka:Nat)(d v p:Str):List (Str×Tr):=[("rows",.at (j+1)),("roles",.at (j+2)),("stays",.at ks),("barred",.at kb),("asked",.at ka),("door",.str d),("voice",.str v),("past",.str p)]
abbrev og:=Str×Int×Int×Option Int
noncomputable def FV:Option Int->Tr
 |none=>.cA
 |some n=>.int n
def wD(s:og):Tr:=.tup [.str s.1,.int s.2.1,.int s.2.2.1,FV s.2.2.2]
structure bK(A:Ab)(j ks kb ka:Nat)(rows:List Tr)(bj:List (Str×Str))(stays:List og)(bx asked:List Str)(d v p:Str):Prop where
 o:A[j]?=some (.bW (dP id (AL j ks kb ka d v p)))
 rw:A[j+1]?=some (.lst rows)
 rl:A[j+2]?=some (.bW (dP .str bj))
 st:A[ks]?=some (.lst (stays.map wD))
 br:A[kb]?=some (.lst (bx.map .str))
 as:A[ka]?=some (.lst (asked.map .str))
 nd:[j,j+1,j+2,ks,kb,ka].Nodup
section
variable {A A':Ab}{j kb ka n:Nat}{bj:List (Str×Str)}{stays:List og}{asked:List Str}{v p:Str}
def h8(h:A[j]?=some (.bW (dP id bE))):aZ (n+1) A (.at j)=.bW (dP (aZ n A) bE):=by
 rw[gz h];unfold dP;rw[cO];rfl
def y1(h:A[j]?=some (.bW (dP id bE))):aZ 1 A (.at j)=.bW (dP id bE):=by
 rw[gz h];unfold dP;rw[cO];rfl
def Mt:(stays.map wD).map (aZ n A)=stays.map wD:=wW λt b=>by obtain⟨s,_,rfl⟩:=cC.mp b;exact⟨_,rfl⟩
def bK.UB (h:bK A j az kb ka ts bj stays ps asked av v p)(f:fR ts):lj (aZ (n+2) A (.at j)) (.str "rows")=.ok (.lst ts):=by
 rw[h8 h.o,dS];show Rs.ok (aZ (n+1) A (.at (j+1)))=_;rw[lu h.rw,wW f]
def bK.vE (h:bK A j az kb ka ts bj stays ps asked av v p):lj (aZ (n+2) A (.at j)) (.str "roles")=.ok (.bW (dP .str bj)):=by
 rw[h8 h.o,dS];show Rs.ok (aZ (n+1) A (.at (j+2)))=_;rw[gz h.rl,iW (uL λ_ _ _=>sQ)]
def bK.YW (h:bK A j az kb ka ts bj stays ps asked av v p):lj (aZ (n+2) A (.at j)) (.str "stays")=.ok (.lst (stays.map wD)):=by
 rw[h8 h.o,dS];show Rs.ok (aZ (n+1) A (.at az))=_;rw[lu h.st,Mt]
def bK.Mu (h:bK A j az kb ka ts bj stays ps asked av v p):lj (aZ (n+2) A (.at j)) (.str "barred")=.ok (.lst (ps.map .str)):=by
 rw[h8 h.o,dS];show Rs.ok (aZ (n+1) A (.at kb))=_;rw[lu h.br,rn]
def bK.UC (h:bK A j az kb ka ts bj stays ps asked av v p):lj (aZ (n+2) A (.at j)) (.str "asked")=.ok (.lst (asked.map .str)):=by
 rw[h8 h.o,dS];show Rs.ok (aZ (n+1) A (.at ka))=_;rw[lu h.as,rn]
def bK.a_d (h:bK A j az kb ka ts bj stays ps asked av v p):lj (aZ (n+1) A (.at j)) (.str "door")=.ok (.str av):=by
 rw[h8 h.o,dS];show Rs.ok (aZ n A (.str av))=_;rw[sQ]
def bK.a_v (h:bK A j az kb ka ts bj stays ps asked av v p):lj (aZ (n+1) A (.at j)) (.str "voice")=.ok (.str v):=by
 rw[h8 h.o,dS];show Rs.ok (aZ n A (.str v))=_;rw[sQ]
def bK.a_p (h:bK A j az kb ka ts bj stays ps asked av v p):lj (aZ (n+1) A (.at j)) (.str "past")=.ok (.str p):=by
 rw[h8 h.o,dS];show Rs.ok (aZ n A (.str p))=_;rw[sQ]
def bK.abr (h:bK A j az kb ka ts bj stays ps asked av v p):lj (aZ 1 A (.at j)) (.str "rows")=.ok (.at (j+1)):=by rw[y1 h.o,dS];rfl
def bK.Pn (h:bK A j az kb ka ts bj stays ps asked av v p):lj (aZ 1 A (.at j)) (.str "roles")=.ok (.at (j+2)):=by rw[y1 h.o,dS];rfl
def bK.abt (h:bK A j az kb ka ts bj stays ps asked av v p):lj (aZ 1 A (.at j)) (.str "stays")=.ok (.at az):=by rw[y1 h.o,dS];rfl
def bK.ext {pins:List (Nat×Ao)}(h:bK A j az kb ka ts bj stays ps asked av v p)(e:Ext A A' pins)(q:∀k∈[j,j+1,j+2,az,kb,ka],pins.lookup k=none):bK A' j az kb ka ts bj stays ps asked av v p:=
 ⟨e.same h.o (q _ (by simp)),e.same h.rw (q _ (by simp)),e.same h.rl (q _ (by simp)),e.same h.st (q _ (by simp)),e.same h.br (q _ (by simp)),e.same h.as (q _ (by simp)),h.nd⟩
variable {dm:List Tr}{ly:List (Str×Str)}{qG:List og}{y2:List Str}
def bK.ne (h:bK A j az kb ka ts bj stays ps asked av v p):j≠az/\j≠kb/\j≠ka/\j+1≠az/\j+1≠kb/\j+1≠ka/\j+2≠az/\j+2≠kb/\j+2≠ka/\az≠kb/\az≠ka/\kb≠ka:=by
 have:=h.nd;simp only[gF,bH,cM,cN,kX]at this;obtain⟨⟨_,_,a,b,c⟩,⟨_,av,e,f⟩,⟨g,i,k⟩,⟨l,m⟩,n,_⟩:=this;exact⟨a,b,c,av,e,f,g,i,k,l,m,n⟩
theorem bK.YX:j+2≠j+1/\j+2≠j:=⟨mT _,dN (Nat.lt_add_of_pos_right (Nat.succ_pos 1))⟩
def bK.FW (h:bK A j az kb ka ts bj stays ps asked av v p)(e:Ext A A' [(j+1,.lst dm)]):bK A' j az kb ka dm bj stays ps asked av v p:=by
 obtain⟨_,_,_,b1,b2,b3,_⟩:=h.ne;exact⟨e.same h.o (gV (mT j).symm),e.new h.rw JZ,e.same h.rl (gV bK.YX.1),e.same h.st (gV b1.symm),e.same h.br (gV b2.symm),e.same h.as (gV b3.symm),h.nd⟩
def bK.Po (h:bK A j az kb ka ts bj stays ps asked av v p)(e:Ext A A' [(j+2,.bW (dP .str ly))]):bK A' j az kb ka ts ly stays ps asked av v p:=by
 obtain⟨_,_,_,_,_,_,b1,b2,b3,_⟩:=h.ne;exact⟨e.same h.o (gV bK.YX.2.symm),e.same h.rw (gV bK.YX.1.symm),e.new h.rl JZ,e.same h.st (gV b1.symm),e.same h.br (gV b2.symm),e.same h.as (gV b3.symm),h.nd⟩
def bK.abu (h:bK A j az kb ka ts bj stays ps asked av v p)(e:Ext A A' [(az,.lst (qG.map wD))]):bK A' j az kb ka ts bj qG ps asked av v p:=by
 obtain⟨a,_,_,b,_,_,c,_,_,g,l,_⟩:=h.ne;exact⟨e.same h.o (gV a),e.same h.rw (gV b),e.same h.rl (gV c),e.new h.st JZ,e.same h.br (gV g.symm),e.same h.as (gV l.symm),h.nd⟩
def gi{o:Ao}(h:A[i]?=some o):i<A.length:=(gD.mp h).1
def Mv{l1 l2:List Nat}(h:(l1++i::l2).Nodup)(q:∀k∈l1++l2,k<az):(l1++az::l2).Nodup:=
 List.perm_middle.nodup_iff.mpr (gF.mpr ⟨λm=>eZ _ (q _ m),(gF.mp (List.perm_middle.nodup_iff.mp h)).2⟩)
def bK.abv (h:bK A j az kb ka ts bj stays ps asked av v p):bK ((A++[Ao.lst (y2.map .str)]).set j (.bW (dP id (AL j az kb A.length av v p)))) j az kb A.length ts bj stays ps y2 av v p:=by
 obtain⟨a,b,_⟩:=h.ne;have g:Ext A (A++[Ao.lst (y2.map .str)]) []:=Ext.push;have l:Ext (A++[Ao.lst (y2.map .str)]) _ _:=Ext.put (o:=.bW (dP id (AL j az kb A.length av v p))) (g.same h.o rfl);refine⟨l.new (g.same h.o rfl) JZ,l.same (g.same h.rw rfl) (gV (mT j)),l.same (g.same h.rl rfl) (gV bK.YX.2),l.same (g.same h.st rfl) (gV a.symm),l.same (g.same h.br rfl) (gV b.symm),l.same ky (gV (dN (gi h.o))),Mv (l1:=[j,j+1,j+2,az,kb]) (l2:=[]) h.nd λk m=>?_⟩;simp only[dF,bH,cM,cN]at m;rcases m with rfl|rfl|rfl|rfl|rfl
 ·exact gi h.o
 ·exact gi h.rw
 ·exact gi h.rl
 ·exact gi h.st
 ·exact gi h.br
def bK.abw (h:bK A j az kb ka ts bj stays ps asked av v p):bK ((A++[Ao.lst (qG.map wD)]).set j (.bW (dP id (AL j A.length kb ka av v p)))) j A.length kb ka ts bj qG ps asked av v p:=by
 obtain⟨_,b,c,_⟩:=h.ne;have g:Ext A (A++[Ao.lst (qG.map wD)]) []:=Ext.push;have l:Ext (A++[Ao.lst (qG.map wD)]) _ _:=Ext.put (o:=.bW (dP id (AL j A.length kb ka av v p))) (g.same h.o rfl);refine⟨l.new (g.same h.o rfl) JZ,l.same (g.same h.rw rfl) (gV (mT j)),l.same (g.same h.rl rfl) (gV bK.YX.2),l.same ky (gV (dN (gi h.o))),l.same (g.same h.br rfl) (gV b.symm),l.same (g.same h.as rfl) (gV c.symm),Mv (l1:=[j,j+1,j+2]) (l2:=[kb,ka]) h.nd λk m=>?_⟩;simp only[dF,bH,cM,cN,or_assoc]at m;rcases m with rfl|rfl|rfl|rfl|rfl
 ·exact gi h.o
 ·exact gi h.rw
 ·exact gi h.rl
 ·exact gi h.br
 ·exact gi h.as
def HH:Ny (.str x) (.str av)=.ok (.bl (!(x==av))):=rfl
theorem y3:∀{stays:List og},nc (stays.map wD)=true
 |[]=>rfl
 |s::stays=>by
  rw[bB,nc,y3,Bool.and_true];obtain⟨a,b,c,e⟩:=s;cases e<;>rfl
theorem Mw{α:Type}{C:bX->Rs Bool}{F:bX->Rs Tr}{Y:bX}{P:α->Bool}{g h:α->Tr}:∀{xs:List α} {c:Cell},(∀x∈xs,C (.sh (g x)::Y)=.ok (P x))->(∀x∈xs,P x=true->F (.sh (g x)::Y)=.ok (h x))->Fb (gN 0) C F (xs.map g) (c::Y)=.ok ((xs.filter P).map h)
 |[],_,_,_=>rfl
 |x::xs,c,hC,hF=>by
  have l:=Mw (Y:=Y) (C:=C) (F:=F) (P:=P) (g:=g) (h:=h) (xs:=xs) (c:=.sh (g x)) (λy b=>hC y (cw _ b)) λy b=>hF y (cw _ b);show(Oc (C (.sh (g x)::Y))).bind (λk=>if k then(Oc (F (.sh (g x)::Y))).bind λy=>(Fb (gN 0) C F (xs.map g) (.sh (g x)::Y)).bind λys=>.ok (y::ys)else Fb (gN 0) C F (xs.map g) (.sh (g x)::Y))=_;rw[hC x (cG ..),l];show(if P x then _ else _)=_;cases e:P x with
  |true=>rw[lN e,hF x (cG ..) e];rfl
  |false=>rw[ke (by rw[e];exact fI)];rfl
def l6{r:Rs (List Tr)}{ix:List (Option Nat)}{Y AK:bX}{c:Cell}(P:ag->Bool)(g h:ag->Tr){xs:List ag}(hr:r=.ok (xs.map g))(hl:xs.length<=dZ)(q:uA ix Y=c::AK)(hC:∀x∈xs,aF (.sh (g x)::AK)=.ok (P x))(hF:∀x∈xs,P x=true->F (.sh (g x)::AK)=.ok (h x)):vX ix (gN 0) aF F r Y=.ok (.lst ((xs.filter P).map h)):=by
 unfold vX;rw[hr,q];show(if(xs.map g).length<=dZ then _ else _)=_;rw[aY (by rw[bu];exact hl),Mw hC hF]
 rfl
def JA:ll (dP id (AL j az kb ka av v p)) (.inr "asked") (.at n)=dP id (AL j az kb n av v p):=lx (f:=id) (a:=.at n)
def JB:ll (dP id (AL j az kb ka av v p)) (.inr "stays") (.at n)=dP id (AL j n kb ka av v p):=lx (f:=id) (a:=.at n)
def bK.abx {x:Ao}{Y:bX}(h:bK A j az kb ka ts bj stays ps asked av v p):putD (A++[x]) (.at j) (.str "asked") (.at A.length) Y=.ok (.nx Y) ((A++[x]).set j (.bW (dP id (AL j az kb A.length av v p)))):=by
 rw[mC (Ext.push.same h.o rfl) (by rw[jX];show 8<dZ;decide),JA]
def bK.aby {x:Ao}{Y:bX}(h:bK A j az kb ka ts bj stays ps asked av v p):putD (A++[x]) (.at j) (.str "stays") (.at A.length) Y=.ok (.nx Y) ((A++[x]).set j (.bW (dP id (AL j A.length kb ka av v p)))):=by
 rw[mC (Ext.push.same h.o rfl) (by rw[jX];show 8<dZ;decide),JB]
end
open PyProof
section
variable {A:Ab}
def FX{ns:List Int}(h:0<ns.length):r8 ns∈ns/\∀x∈ns,x<=r8 ns:=by
 obtain⟨n,h2⟩:=argBest_gt (λi=>ns.getD i 0) (ns.length - 1);have b:argBest (λi j=>decide (ns.getD i 0>ns.getD j 0)) (ns.length - 1)<ns.length:=by omega
 constructor
 ·unfold r8;rw[eQ,bZ b];exact kR _
 ·intro x g;obtain⟨a,ha,e⟩:=List.getElem_of_mem g;have:=h2 a (by omega);have l:ns.getD a 0=x:=by rw[eQ,bZ ha,e];rfl
  rw[<-l];exact this
theorem ints_map{α:Type}{f:α->Int}:∀{l:List α},r6 (l.map λx=>.int (f x))=some (l.map f)
 |[]=>rfl
 |x::l=>by show(r6 (l.map λx=>.int (f x))).map (λr=>f x::r)=_;rw[ints_map];rfl
def max_map{f:ag->Int}{l:List ag}(h:l≠[]):LQ [.lst (l.map λx=>.int (f x))]=.ok (.int (r8 (l.map f))):=by
 show(match r6 (l.map λx=>Tr.int (f x))with|some ns=>if 0<ns.length then Rs.ok (Tr.int (r8 ns))else .bad|none=>.bad)=_;rw[ints_map];exact aY (by rw[bu];exact tK.mpr h)
theorem wZ:zu (.str x) (.lst (ps.map .str))=.ok (.bl (ps.contains x)):=by
 show Sw (K4 (.str x) (ps.map .str))=_;have:((ps.map Tr.str).all yu)=true:=by rw[pL];exact dE.mpr λ_ _=>rfl
 unfold K4;rw[aY ⟨rfl,this⟩,List.any_map];show Rs.ok (Tr.bl _)=_;congr 2;rw[List.contains_eq_any_beq];congr 1;funext y;show(y==x)=(x==y);exact Bool.beq_comm
def uO:Ot (.str x) (.lst (ps.map .str))=.ok (.bl (!ps.contains x)):=by
 show Sw (IA (K4 (.str x) (ps.map .str)))=_;have:Sw (K4 (.str x) (ps.map .str))=.ok (.bl (ps.contains x)):=wZ;unfold K4 at*;have h:((ps.map Tr.str).all yu)=true:=by rw[pL];exact dE.mpr λ_ _=>rfl
 rw[aY ⟨rfl,h⟩]at*;have e:Rs.ok (Tr.bl ((ps.map Tr.str).any λy=>eqT y (.str x)))=.ok (.bl (ps.contains x)):=this;injection e with e;injection e with e
 show Rs.ok (Tr.bl (!_))=_;rw[e]
def UD{f:ag->Tr}{l:List (Str×ag)}:pZ (.bW (dP f l))=.ok (!l.isEmpty):=by cases l<;>rfl
end
def nS(l:List Str):List (Key×Tr):=dP .bl (l.map λz=>(z,true))
theorem BW{z:Str}:∀{l:List Str},(l.map λz=>(z,true)).lookup z=if l.contains z=true then some true else none
 |[]=>rfl
 |y::l=>by
  rw[bB,cQ,List.contains_cons];cases e:(z==y)with
  |true=>rfl
  |false=>rw[BW,iM]
def vF{z:Str}:e_ (nS ps) (.inr z)=if ps.contains z=true then some (.bl true)else none:=by
 unfold nS;rw[eC,BW];cases ps.contains z<;>rfl
def HI:iT (nS ps) (.inr x)=nS (ps.filter λy=>!(y==x)):=by
 unfold nS;rw[wX];congr 1;unfold iA;rw[pE];congr 1;apply tT;intro y _;show decide (y≠x)=!(y==x);by_cases h:y=x
 ·subst h;simp
 ·simp[h]
def w4:gU (nS ps):=uL λ_ _ _=>Mq
structure gj(A:Ab)(bN:List Str)(c8:List (Str×Nat)):Prop where
 o:A[4]?=some (.bW (dP id [("people",.at 5),("rooms",.at 6)]))
 pe:A[5]?=some (.lst (bN.map .str))
 rs:A[6]?=some (.bW (dP .at c8))
section
variable {A A':Ab}{c8:List (Str×Nat)}{n:Nat}
def gj.UE (h:gj A ps c8):lj (aZ (n+2) A (.at 4)) (.str "people")=.ok (.lst (ps.map .str)):=by
 rw[h8 h.o,dS];show Rs.ok (aZ (n+1) A (.at 5))=_;rw[lu h.pe,rn]
def gj.Mx (h:gj A ps c8):lj (aZ (n+2) A (.at 4)) (.str "rooms")=.ok (.bW (dP (λj=>aZ n A (.at j)) c8)):=by
 rw[h8 h.o,dS];show Rs.ok (aZ (n+1) A (.at 6))=_;rw[gz h.rs];unfold dP;rw[cO];rfl
def gj.YY (h:gj A ps c8):lj (aZ 1 A (.at 4)) (.str "rooms")=.ok (.at 6):=by rw[y1 h.o,dS];rfl
def D_{f:ag->Tr}{l:List (Str×ag)}:K5 (.ok (.bW (dP f l))) (.ok (.str x))=.ok (((l.lookup x).map f).getD .cA):=by
 show(lh (ko (.str x))).bind (λk=>Rs.ok ((e_ (dP f l) k).getD .cA))=_;show Rs.ok ((e_ (dP f l) (.inr x)).getD .cA)=_;rw[eC]
def Pp:GZ (.bW aG) .cA=.ok (.bl false):=rfl
end
section
variable {A A':Ab}{kb ka n:Nat}{bj:List (Str×Str)}{stays:List og}{asked l':List Str}{p d' v' p' jj:Str}
def bK.abz (h:bK A i az kb ka ts bj stays ps asked x av p)(e:Ext A A' [(kb,.lst (l'.map .str))]):bK A' i az kb ka ts bj stays l' asked x av p:=by
 have n:=h.ne;exact⟨e.same h.o (gV (by omega)),e.same h.rw (gV (by omega)),e.same h.rl (gV (by omega)),e.same h.st (gV (by omega)),e.new h.br JZ,e.same h.as (gV (by omega)),h.nd⟩
def bK.abA (h:bK A i az kb ka ts bj stays ps asked x av p):bK ((A++[Ao.lst (l'.map .str)]).set i (.bW (dP id (AL i az A.length ka x av p)))) i az A.length ka ts bj stays l' asked x av p:=by
 have n:=h.ne;have l1:=gi h.o;have l2:=gi h.rw;have l:=gi h.rl;have r:=gi h.st;have I:=gi h.as;have b:Ext A (A++[Ao.lst (l'.map .str)]) []:=Ext.push;have g:Ext (A++[Ao.lst (l'.map .str)]) _ _:=Ext.put (o:=.bW (dP id (AL i az A.length ka x av p))) (b.same h.o rfl);refine⟨g.new (b.same h.o rfl) JZ,g.same (b.same h.rw rfl) (gV (by omega)),g.same (b.same h.rl rfl) (gV (by omega)),g.same (b.same h.st rfl) (gV (by omega)),g.same ky (gV (by omega)),g.same (b.same h.as rfl) (gV (by omega)),?_⟩;simp only[gF,bH,cM,cN,kX,xQ,not_false_eq_true,and_true];omega
def bK.p_o {t:Tr}{Y:bX}{l:List (Str×Tr)}(h:bK A i az kb ka ts bj stays ps asked x av p)(e:fN (AL i az kb ka x av p) jj t=l):putD A (.at i) (.str jj) t Y=.ok (.nx Y) (A.set i (.bW (dP id l))):=by
 rw[mC h.o (by rw[jX];show 8<dZ;decide),<-e];exact cV (λz=>Rz.ok (Out.nx Y) (A.set i (.bW z))) (lx (f:=id) (a:=t))
def bK.abB (h:bK A i az kb ka ts bj stays ps asked x av p):lj (aZ 1 A (.at i)) (.str "barred")=.ok (.at kb):=by rw[y1 h.o,dS];rfl
end
noncomputable def arr:Nat->List Str->List (List Str)
 |0,_=>[[]]
 |n+1,l=>[]::l.flatMap λz=>(arr n (l.filter λy=>!(y==z))).map (z::·)
theorem HJ:∀{n:Nat} {l ss:List Str},ss.length<=n->ss.Nodup->(∀z∈ss,z∈l)->ss∈arr n l
 |0,l,[],_,_,_=>de.mpr rfl
 |n+1,l,[],_,_,_=>cG ..
 |n+1,l,z::ss,g,hn,hs=>by
  rw[gF]at hn;refine cw _ (List.mem_flatMap.mpr ⟨z,hs z (cG ..),cC.mpr ⟨ss,HJ (xm g) hn.2 λy b=>fJ.mpr ⟨hs y (cw _ b),?_⟩,rfl⟩⟩);have:y≠z:=λe=>hn.1 (e▸b);simpa using this
def Pq(ss:List Str):Bool:=match il ss with
 |some p=>(p.map λi=>ss.getD i ("":Str)).isPerm ss&&sortedS (p.map λi=>ss.getD i ("":Str))
 |none=>false
noncomputable abbrev six:List Str:=["ann","bo","cy","dee","ed","zed"]
def ch5(z y:Str):Bool:=y==z||(((arr 4 ((six.filter λx=>!(x==z)).filter λx=>!(x==y))).map (y::·)).map (z::·)).all Pq
set_option maxHeartbeats 4000000 in
def abC:∀z∈six,∀y∈six,ch5 z y=true:=by
 intro z hz y b;simp only[bH,cM,cN]at hz b;rcases hz with rfl|rfl|rfl|rfl|rfl|rfl<;>rcases b with rfl|rfl|rfl|rfl|rfl|rfl<;>decide+kernel
theorem abD:(arr 6 six).all Pq=true:=by
 rw[arr,iN,List.all_flatMap,bY,dE];refine⟨rfl,λz hz=>?_⟩;rw[arr,bB,iN,List.map_flatMap,List.all_flatMap,bY,dE];refine⟨(by decide+kernel:∀z∈six,Pq [z]=true) z hz,λy b=>?_⟩;have n:=fJ.mp b;have h:=abC z hz y n.1;rw[ch5,show(y==z)=false by simpa using n.2,iM]at h;exact h
theorem vG:∀{ss l:List Str},ss.Nodup->(∀z∈ss,z∈l)->ss.length<=l.length
 |[],_,_,_=>d_ _
 |z::ss,l,hn,hs=>by
  rw[gF]at hn;have hz:=hs z (cG ..);have g:=vG (l:=l.erase z) hn.2 λy b=>(List.mem_erase_of_ne (λe:y=z=>hn.1 (by rw[<-e];exact b))).mpr (hs y (cw _ b));rw[List.length_erase_of_mem hz]at g;have:=List.length_pos_of_mem hz;rw[dA];omega
def FY{ss:List Str}(q:ss.Nodup)(hs:∀z∈ss,z∈(["ann","bo","cy","dee","ed","zed"]:List Str)):∃p,il ss=some p/\p.map (λi=>ss.getD i ("":Str))=c_ ss:=by
 have h:=dE.mp abD ss (HJ (vG q hs) q hs);unfold Pq at h;cases e:il ss with
 |none=>rw[e]at h;cases h
 |some p=>
  rw[e]at h;rw[bY]at h;exact⟨p,rfl,uG (List.isPerm_iff.mp h.1) h.2⟩
theorem Ea{α:Type}{f:α->Tr}:∀{l:List (Str×α)},r_ (dP f l)=some (l.map (·.1))
 |[]=>rfl
 |p::l=>by show(r_ (dP f l)).map (λs=>p.1::s)=_;rw[Ea];rfl
def FZ{aT:List (Str×Str)}(q:(aT.map (·.1)).Nodup)(hs:∀z∈aT.map (·.1),z∈(["ann","bo","cy","dee","ed","zed"]:List Str))(hl:∀p∈aT,aT.lookup p.1=some p.2):
  wV (.bW (dP .str aT))=.ok (.lst ((c_ (aT.map (·.1))).map λz=>.tup [.str z,.str ((aT.lookup z).getD "")])):=by
 obtain⟨p,l,n⟩:=FY q hs;have r:=vG q hs;have b:((aT.map (·.1)).all λz=>decide (z.length<=cZ))=true:=dE.mpr λz hz=>hU (cB ((by decide+kernel:∀z∈(["ann","bo","cy","dee","ed","zed"]:List Str),z.length<=10) z (hs z hz)) (by decide));show lh ((r_ (dP .str aT)).bind λss=>if ss.length<64/\(ss.all λz=>decide (z.length<=cZ))=true then(il ss).map λp=>Tr.lst (p.map λi=>.tup [.str (ss.getD i ("":Str)),((dP .str aT).map (·.2)).getD i .cA])else none)=_;rw[Ea];show lh (if(aT.map (·.1)).length<64/\_ then _ else none)=_;rw[aY ⟨xr r (by decide),b⟩,l];show Rs.ok (Tr.lst _)=_;congr 2;rw[<-n,cO];apply f_;intro i hi;have g:=AF l i hi;rw[bu]at g;have g1:(aT.map (·.1)).getD i ("":Str)=aT[i].1:=by rw[eQ,cq,bZ g];rfl
 have g2:((dP .str aT).map (·.2)).getD i .cA=.str aT[i].2:=by
  unfold dP;rw[cO,eQ,cq,bZ g];rfl
 show Tr.tup [.str ((aT.map (·.1)).getD i ("":Str)),((dP .str aT).map (·.2)).getD i .cA]=Tr.tup [.str ((aT.map (·.1)).getD i ("":Str)),.str ((aT.lookup ((aT.map (·.1)).getD i ("":Str))).getD "")];rw[g1,g2,hl aT[i] (kR _)]
 rfl
section
variable {A:Ab}{n:Nat}{rows:List Tr}{en ch bn iv:List (Key×Tr)}
def bG.abE (h:bG A i rows aG en ch bn iv)(f:fR rows):j_ ["Room"] "log" (aZ (n+2) A (.at i))=.ok (.lst rows):=by
 rw[gX h.o];show Rs.ok (aZ (n+1) A (.at (i+1)))=_;rw[lu h.lg,wW f]
def bG.abF (h:bG A i rows aG en ch bn iv)(f:gU aG):j_ ["Room"] "ranks" (aZ (n+2) A (.at i))=.ok (.bW aG):=by
 rw[gX h.o];show Rs.ok (aZ (n+1) A (.at (i+2)))=_;rw[gz h.rk,iW f]
def bG.abG (h:bG A i rows aG en ch bn iv)(f:gU ch):j_ ["Room"] "chosen" (aZ (n+2) A (.at i))=.ok (.bW ch):=by
 rw[gX h.o];show Rs.ok (aZ (n+1) A (.at (i+4)))=_;rw[gz h.ch,iW f]
def bG.abH (h:bG A i rows aG en ch bn iv)(f:gU bn):j_ ["Room"] "banned" (aZ (n+2) A (.at i))=.ok (.bW bn):=by
 rw[gX h.o];show Rs.ok (aZ (n+1) A (.at (i+5)))=_;rw[gz h.bn,iW f]
def bG.abI (h:bG A i rows aG en ch bn iv)(f:gU iv):j_ ["Room"] "invited" (aZ (n+2) A (.at i))=.ok (.bW iv):=by
 rw[gX h.o];show Rs.ok (aZ (n+1) A (.at (i+6)))=_;rw[gz h.iv,iW f]
def bG.dM (h:bG A i rows aG en ch bn iv){m:Str}(hm:EI ((roomF i).map λp=>(p.1,aZ n A p.2)) m=true)(F:List Tr->Rs Tr)(l:Rs (List Tr)):wa "Room" m F (.ok (aZ (n+1) A (.at i))) l=l.bind λts=>F (aZ (n+1) A (.at i)::ts):=by
 rw[gX h.o];exact aY ⟨rfl,hm⟩
variable {bf:List (Str×Bool)}{a9:List (Str×Nat)}
def cx.dM (h:cx A bf a9){m:Str}(hm:EI (([("persons",.at 1),("places",.at 2),("hands",.at 3)]:List (Str×Tr)).map λp=>(p.1,aZ n A p.2)) m=true)(F:List Tr->Rs Tr)(l:Rs (List Tr)):wa "Hall" m F (.ok (aZ (n+1) A (.at 0))) l=l.bind λts=>F (aZ (n+1) A (.at 0)::ts):=by
 rw[gX h.o];exact aY ⟨rfl,hm⟩
theorem Eb{α:Type}{f:α->Tr}:∀{l:List (Str×α)},(∀p∈l,p.1.length<=1000)->v_ (dP f l)=some (l.map (·.1))
 |[],_=>rfl
 |p::l,h=>by
  show(if p.1.length<=cZ then(v_ (dP f l)).map (λr=>p.1::r)else none)=_;rw[aY (cB (h p (cG ..)) (by decide)),Eb λq b=>h q (cw _ b)]
  rfl
theorem vH:∀{ss:List Str},oQ (ss.map .str)=some ss
 |[]=>rfl
 |z::ss=>by show(oQ (ss.map .str)).map (λr=>z::r)=_;rw[vH];rfl
def rq{f:ag->Tr}{l:List (Str×ag)}(h:∀p∈l,p.1.length<=1000)(q:l.length<64):n5 [.bW (dP f l)]=.ok (.lst ((c_ (l.map (·.1))).map .str)):=by
 show As (v_ (dP f l))=_;rw[Eb h];exact aY (by rw[bu];exact q)
def AM{ss:List Str}(q:ss.length<64):n5 [.lst (ss.map .str)]=.ok (.lst ((c_ ss).map .str)):=by
 show As (oQ (ss.map .str))=_;rw[vH];exact aY q
theorem Pt:(∀T G Y,zC T G [] Y=.ok (.nx Y))/\(∀T G t ts Y,zC T G (t::ts) Y=(T t Y).bind λrR=>(G rR).bind λo=>match o with
  |.nx q=>zC T G ts q
  |.ct q=>zC T G ts q
  |.bk q=>.ok (.nx q)
  |.ret t=>.ok (.ret t))/\(∀T G ts Y,GO T G (.ok ts) Y=zC T G ts Y)/\(∀ts,Fj [.lst ts]=.ok (.tup ts)):=by
 refine⟨?_,?_,?_,?_⟩<;>intros<;>rfl
theorem My:∀{ts:List Tr},(∀t∈ts,t=.bl true)->OD [.lst ts]=.ok (.bl true):=λ{ts} h=>by
 have:IL ts=.ok (ts.map λ_=>true):=by
  induction ts with
  |nil=>rfl
  |cons t ts b=>
   rw[h t (cG ..)];show(IL ts).bind (λzs=>Rs.ok (true::zs))=_;rw[b λu g=>h u (cw _ g)]
   rfl
 show(IL ts).bind (λbs=>Rs.ok (Tr.bl (bs.all id)))=_;rw[this];show Rs.ok (Tr.bl ((ts.map λ_=>true).all id))=_;congr 2;rw[pL];exact dE.mpr λ_ _=>rfl
theorem Ec:∀{ts:List Tr},Q7 ts ts=ts.map λt=>.tup [t,t]
 |[]=>rfl
 |t::ts=>by show Tr.tup [t,t]::Q7 ts ts=_;rw[Ec];rfl
end
structure Vx where
 bl:List Str
 own:List Str
 X_:List Str
 fl:List (Str×List Str)
 kd:List Df
 er:List Str
 xs:List (Str⊕String)
 cs:List Str
 rs:List Str
namespace Vx
def val(K:Frag):Str⊕String->Value
 |.inl c=>.ref (clsAt K c)
 |.inr c=>.type c
noncomputable def tab(q:List Str):Str⊕String->List (Str×Bool)
 |.inl c=>q.map λx=>(x,x==c)
 |.inr _=>q.map λx=>(x,true)
def Rh(K:Frag)(o:Vx):Bool:=o.bl.all (λx=>decide (nsIn K mainGlobals x=some none))&&(o.own.all (λc=>decide (nsIn K mainGlobals c=some (some (.ref (clsAt K c)))))&&(o.X_.all (λc=>makesIn K (clsAt K c)&&(keepIn K (.ref (clsAt K c))&&decide (nsIn K mainGlobals c=some (some (.ref (clsAt K c))))))&&
 (o.fl.all (λp=>Pg K (clsAt K p.1)&&abg K (clsAt K p.1) p.2)&&(o.kd.all (λd=>decide (specialIn K (.ref (d.adr K)) "__get__"=some (some (.builtin "function.__get__")))&&decide (takesIn K (.ref (d.adr K))=some false))&&
 (YJ K o.er&&(o.xs.all (λc=>YI K (val K c) (tab o.er c))&&(o.cs.all (λc=>YK K c o.er)&&o.rs.all (λc=>excIn K (clsAt K c) bmV "ValueError.__new__"))))))))
structure Ok(o:Vx)(K:Frag)(mg:Str->Option Value):Prop where
 bl:∀{x},o.bl.contains x=true->mg x=none
 HK:∀{c},o.own.contains c=true->mg c=some (.ref (clsAt K c))
 mk_:∀{c},o.X_.contains c=true->Jx K mg c
 fl:∀{c f fs},o.fl.lookup c=some fs->fs.contains f=true->ja K [c] f
 bn:∀(i:Nat) {d:Df},o.kd[i]?=some d->AA K (d.adr K)
 xc:∀(i:Nat) {c},o.xs[i]?=some c->jb K (val K c) (tab o.er c)
 ca:∀{c},o.cs.contains c=true->o.own.contains c=true->rh K mg c o.er
 er:∀{c},o.rs.contains c=true->o.own.contains c=true->rZ K mg c
def ok{o:Vx}{K:Frag}{h:Heap}(X:K.In h)(G:h.Ns mainGlobals mg)(k:o.Rh K=true):o.Ok K mg:=by
 unfold Rh at k;simp only[bY,dE,iK]at k;obtain⟨k1,k2,k3,b,k5,g,r,I,L⟩:=k;have HK:∀{c},o.own.contains c=true->mg c=some (.ref (clsAt K c)):=λm=>mg_of X G (k2 _ (eY.mp m));refine⟨λm=>mg_none_of X G (k1 _ (eY.mp m)),HK,λm=>?_,λ{c f fs} l m=>?_,λi d e=>?_,λi c e=>?_,λm n=>Mh (HK n) (I _ (eY.mp m)),λm n=>⟨HK n,L _ (eY.mp m)⟩⟩
 ·have q:=k3 _ (eY.mp m);exact⟨q.1,q.2.1,mg_of X G q.2.2⟩
 ·have q:=b _ (ji l);refine⟨λx M=>?_⟩;cases de.mp M;exact⟨Mi q.1,(eR (dE.mp q.2 f (eY.mp m)):findIn K (.ref (clsAt K c)) f=some none)⟩
 ·have q:=k5 _ (d8 e);exact⟨q.1,q.2⟩
 ·refine Uq (r _ (d8 e)) g ?_
  cases c<;>simp[tab,Function.comp_def]
end Vx
end L2
namespace M10
open PySem.W (Frag)
open PySem L2
variable {aN:Nat}{aO:List (Str×Str)}{aP:Str}{aQ:List Str}
variable {aT bj:List (Str×Str)}{bf:List (Str×Bool)}{ents:List (Str×Int)}{a9 c8:List (Str×Nat)}{rows:List Tr}{cs:List (Bool×Str×Str)}{bN bx:List Str}{a_:Str}{stays:List og}
noncomputable def top(i:Nat):Stmt:=PySem.Challenge.pw_talkhall_k10_put_out_and_barred.main.body.getD i (.Pass ⟨0,0,0,0⟩)
def Pu:Stmt->List Stmt
 |.ClassDef _ _ _ b _ _ _ _ _ _ _=>b
 |_=>[]
def fG(i j:Nat):Stmt:=(Pu (top i)).getD j (.Pass ⟨0,0,0,0⟩)
def BX:Df:=⟨none,"level","level",top 23,["role"]⟩
def iX:Df:=⟨some "Room","claim","Room.claim",fG 24 4,["self","who"]⟩
def jk:Df:=⟨some "Room","write_row","Room.write_row",fG 24 1,["self","who","word","parts"]⟩
def mD:Df:=⟨some "Room","let_in","Room.let_in",fG 24 2,["self","who","word","role"]⟩
def jl:Df:=⟨some "Room","give_role","Room.give_role",fG 24 3,["self","who","whom","role"]⟩
def lz:Df:=⟨some "Room","need_in","Room.need_in",fG 24 6,["self","who"]⟩
def iq:Df:=⟨some "Hall","need_people","Hall.need_people",fG 26 1,["self","names"]⟩
def iY:Df:=⟨some "Hall","place","Hall.place",fG 26 2,["self","room"]⟩
def jm:Df:=⟨some "Hall","place_for","Hall.place_for",fG 26 3,["self","names","room"]⟩
def qH:Df:=⟨some "Hall","come","Hall.come",fG 26 5,["self","who"]⟩
def h_:Df:=⟨some "Room","__init__","Room.__init__",fG 24 0,["self","who"]⟩
def jY:Df:=⟨some "Hall","__init__","Hall.__init__",fG 26 0,["self"]⟩
def oh:Df:=⟨some "Hall","found","Hall.found",fG 26 8,["self","who","room"]⟩
def fy:Df:=⟨some "Room","see_to_owner","Room.see_to_owner",fG 24 5,["self"]⟩
def ir:Df:=⟨some "Room","need_keeper","Room.need_keeper",fG 24 7,["self","who"]⟩
def iZ:Df:=⟨some "Room","need_above","Room.need_above",fG 24 8,["self","who","whom"]⟩
def jZ:Df:=⟨some "Room","may_give","Room.may_give",fG 24 9,["self","who","whom","role"]⟩
def qI:Df:=⟨some "Room","role","Room.role",fG 24 18,["self","who","whom","role"]⟩
def sR:Df:=⟨some "Room","out","Room.out",fG 24 19,["self","who","whom"]⟩
def sS:Df:=⟨some "Room","bar","Room.bar",fG 24 20,["self","who","whom"]⟩
def oj:Df:=⟨some "Room","unbar","Room.unbar",fG 24 21,["self","who","whom"]⟩
def om:Df:=⟨some "Room","enter","Room.enter",fG 24 14,["self","who"]⟩
def oo:Df:=⟨some "Room","leave","Room.leave",fG 24 15,["self","who"]⟩
def oq:Df:=⟨some "Hall","enter","Hall.enter",fG 26 9,["self","who","room"]⟩
def ou:Df:=⟨some "Hall","leave","Hall.leave",fG 26 10,["self","who","room"]⟩
def qJ:Df:=⟨some "Hall","role","Hall.role",fG 26 13,["self","who","room","whom","role"]⟩
def sT:Df:=⟨some "Hall","out","Hall.out",fG 26 14,["self","who","room","whom"]⟩
def sU:Df:=⟨some "Hall","bar","Hall.bar",fG 26 15,["self","who","room","whom"]⟩
def oz:Df:=⟨some "Hall","unbar","Hall.unbar",fG 26 16,["self","who","room","whom"]⟩
def mE:Df:=⟨some "Hall","people","Hall.people",fG 26 6,["self"]⟩
def oA:Df:=⟨some "Hall","rooms","Hall.rooms",fG 26 7,["self"]⟩
def oB:Df:=⟨some "Room","roles","Room.roles",fG 24 26,["self"]⟩
def qK:Df:=⟨some "Room","rows","Room.rows",fG 24 30,["self"]⟩
def mF:Df:=⟨some "Room","barred","Room.barred",fG 24 28,["self"]⟩
def oC:Df:=⟨some "Room","asked","Room.asked",fG 24 29,["self"]⟩
def lA:Df:=⟨some "Room","setting","Room.setting",fG 24 27,["self","what"]⟩
def oE:Df:=⟨some "Hall","roles","Hall.roles",fG 26 21,["self","room"]⟩
def qL:Df:=⟨some "Hall","rows","Hall.rows",fG 26 25,["self","room"]⟩
def mG:Df:=⟨some "Hall","barred","Hall.barred",fG 26 23,["self","room"]⟩
def oF:Df:=⟨some "Hall","asked","Hall.asked",fG 26 24,["self","room"]⟩
def lB:Df:=⟨some "Hall","setting","Hall.setting",fG 26 22,["self","room","what"]⟩
def y4:Df:=⟨none,"_law_rank","_law_rank",top 36,["_law_room","_law_who"]⟩
def y6:Df:=⟨none,"_law_word","_law_word",top 32,["_law_kept"]⟩
def vI:Df:=⟨none,"_law_begin","_law_begin",top 35,["_law_people"]⟩
def BY:Df:=⟨none,"_law_row","_law_row",top 42,["_law_room","_law_who","_law_parts"]⟩
def rA:Df:=⟨none,"_law_enter","_law_enter",top 43,["_law_room","_law_who","_law_word_here"]⟩
def uP:Df:=⟨none,"_law_quit","_law_quit",top 44,["_law_room","_law_who","_law_number"]⟩
def BZ:Df:=⟨none,"_law_mix","_law_mix",top 29,["_law_cell_here","_law_prime","_law_many"]⟩
def y8:Df:=⟨none,"_law_cell","_law_cell",top 28,["_law_script","_law_k"]⟩
def kL:Df:=⟨none,"_law_owned","_law_owned",top 45,["_law_room"]⟩
def l7:Df:=⟨none,"_law_changed","_law_changed",top 47,["_law_room","_law_deed_here"]⟩
def y9:Df:=⟨none,"_law_done","_law_done",top 46,["_law_model","_law_deed_here"]⟩
def jn:Df:=⟨none,"_law_refused_deed","_law_refused_deed",top 41,["_law_room","_law_deed_here"]⟩
def jO:Df:=⟨none,"_law_refused","_law_refused",top 39,["_law_model","_law_deed_here"]⟩
def uQ:Df:=⟨none,"_law_deed","_law_deed",top 49,["_law_cell_here","_law_model","_law_words_here"]⟩
def y_:Df:=⟨none,"_law_call","_law_call",top 33,["_law_hall_here","_law_deed_here"]⟩
def y':Df:=⟨none,"_law_told","_law_told",top 34,["_law_hall_here","_law_deed_here"]⟩
def uR:Df:=⟨none,"_law_same","_law_same",top 30,["_law_found","_law_due"]⟩
def za:Df:=⟨none,"_law_both","_law_both",top 48,["_law_hall_here","_law_model","_law_deed_here"]⟩
def zb:Df:=⟨none,"_law_hall","_law_hall",top 50,["_law_hall_here","_law_model"]⟩
def nz:Df:=⟨none,"_law_is_as","_law_is_as",top 51,["_law_hall_here","_law_model"]⟩
def Ed:Df:=⟨none,"law","law",top 52,["_law_script"]⟩
def DS:List Df:=[BX,iX,jk,mD,jl,lz,iq,iY,jm,qH,h_,jY,oh,fy,ir,iZ,jZ,qI,sR,sS,oj,om,oo,oq,ou,qJ,sT,sU,oz,mE,oA,oB,qK,mF,oC,lA,oE,qL,mG,oF,lB,y4,y6,vI,BY,rA,uP,BZ,y8,kL,l7,y9,jn,jO,uQ,y_,y',uR,za,zb,nz,Ed]
structure Ri(K:Frag)(w:World)(mg:Str->Option Value):Prop where
 d:∀(i:Nat) {e:Df},DS[i]?=some e->e.Ok K mg
 ValueError:mg "ValueError"=none
 all:mg "all"=none
 bool:mg "bool"=none
 dict:mg "dict"=none
 int:mg "int"=none
 isinstance:mg "isinstance"=none
 len:mg "len"=none
 list:mg "list"=none
 max:mg "max"=none
 min:mg "min"=none
 range:mg "range"=none
 set:mg "set"=none
 sorted:mg "sorted"=none
 str:mg "str"=none
 tuple:mg "tuple"=none
 zip:mg "zip"=none
 B5:AA K (iX.adr K)
 UG:Jx K mg "Hall"
 UH:Jx K mg "Room"
 Pw:LA K mg "ROLES" [.str "guest",.str "speaker",.str "keeper",.str "owner"]
 lC:ja K ["Room"] "banned"
 zc:ja K ["Room"] "chosen"
 vJ:ja K ["Room"] "entries"
 Px:ja K ["Hall"] "hands"
 rB:ja K ["Room"] "invited"
 HL:ja K ["Room"] "log"
 nA:ja K ["Hall"] "persons"
 jP:ja K ["Hall"] "places"
 dG:ja K ["Room"] "ranks"
 B6:ja K ["Room"] "read_marks"
 zJ:ja K ["Room"] "said_by_key"
 Mz:Bq K w mg "SETTINGS" [("door",.tup [.str "open",.str "asked"]),("voice",.tup [.str "all",.str "some"]),("past",.tup [.str "shown",.str "hidden"])]
 F0:BH K w mg "SETTINGS" ["door","voice","past"]
 MA:jb K (.ref (clsAt K "Barred")) [("Known",false),("NoPerson",false),("NoRoom",false),("NotIn",false),("NotAsked",false),("Barred",true),("NoRight",false),("NoRow",false),("NoHand",false),("NoLine",false)]
 Py:jb K (.ref (clsAt K "Known")) [("Known",true),("NoPerson",false),("NoRoom",false),("NotIn",false),("NotAsked",false),("Barred",false),("NoRight",false),("NoRow",false),("NoHand",false),("NoLine",false)]
 MB:jb K (.ref (clsAt K "NoHand")) [("Known",false),("NoPerson",false),("NoRoom",false),("NotIn",false),("NotAsked",false),("Barred",false),("NoRight",false),("NoRow",false),("NoHand",true),("NoLine",false)]
 MC:jb K (.ref (clsAt K "NoLine")) [("Known",false),("NoPerson",false),("NoRoom",false),("NotIn",false),("NotAsked",false),("Barred",false),("NoRight",false),("NoRow",false),("NoHand",false),("NoLine",true)]
 F1:jb K (.ref (clsAt K "NoPerson")) [("Known",false),("NoPerson",true),("NoRoom",false),("NotIn",false),("NotAsked",false),("Barred",false),("NoRight",false),("NoRow",false),("NoHand",false),("NoLine",false)]
 JC:jb K (.ref (clsAt K "NoRight")) [("Known",false),("NoPerson",false),("NoRoom",false),("NotIn",false),("NotAsked",false),("Barred",false),("NoRight",true),("NoRow",false),("NoHand",false),("NoLine",false)]
 MD:jb K (.ref (clsAt K "NoRoom")) [("Known",false),("NoPerson",false),("NoRoom",true),("NotIn",false),("NotAsked",false),("Barred",false),("NoRight",false),("NoRow",false),("NoHand",false),("NoLine",false)]
 Pz:jb K (.ref (clsAt K "NoRow")) [("Known",false),("NoPerson",false),("NoRoom",false),("NotIn",false),("NotAsked",false),("Barred",false),("NoRight",false),("NoRow",true),("NoHand",false),("NoLine",false)]
 F2:jb K (.ref (clsAt K "NotAsked")) [("Known",false),("NoPerson",false),("NoRoom",false),("NotIn",false),("NotAsked",true),("Barred",false),("NoRight",false),("NoRow",false),("NoHand",false),("NoLine",false)]
 PB:jb K (.ref (clsAt K "NotIn")) [("Known",false),("NoPerson",false),("NoRoom",false),("NotIn",true),("NotAsked",false),("Barred",false),("NoRight",false),("NoRow",false),("NoHand",false),("NoLine",false)]
 B7:jb K (.type "ValueError") [("Known",true),("NoPerson",true),("NoRoom",true),("NotIn",true),("NotAsked",true),("Barred",true),("NoRight",true),("NoRow",true),("NoHand",true),("NoLine",true)]
 JD:mg "Barred"=some (.ref (clsAt K "Barred"))
 ME:mg "Known"=some (.ref (clsAt K "Known"))
 JE:mg "NoHand"=some (.ref (clsAt K "NoHand"))
 JF:mg "NoLine"=some (.ref (clsAt K "NoLine"))
 Ee:mg "NoPerson"=some (.ref (clsAt K "NoPerson"))
 F3:mg "NoRight"=some (.ref (clsAt K "NoRight"))
 JG:mg "NoRoom"=some (.ref (clsAt K "NoRoom"))
 MF:mg "NoRow"=some (.ref (clsAt K "NoRow"))
 Ef:mg "NotAsked"=some (.ref (clsAt K "NotAsked"))
 MG:mg "NotIn"=some (.ref (clsAt K "NotIn"))
 Eg:rh K mg "TalkError" ["Known","NoPerson","NoRoom","NotIn","NotAsked","Barred","NoRight","NoRow","NoHand","NoLine"]
 MH:rZ K mg "Barred"
 rD:rZ K mg "Known"
 F4:rZ K mg "NoPerson"
 vK:rZ K mg "NoRight"
 MI:rZ K mg "NoRoom"
 F5:rZ K mg "NotAsked"
 PC:rZ K mg "NotIn"
abbrev CS(n:Nat)(d:Df)(a b:Nat):={F:bX->Ab->Rz Out//∀{P:Program} {w:World} {K:Frag} {mg:Str->Option Value} {base:Heap},Ri K w mg->yZ P w K mg base (vt P w) n d (wb K (fb a b F))}
abbrev CP(n:Nat)(d:Df)(a b:Nat):={F:bX->Rs Out//∀{P:Program} {w:World} {K:Frag} {mg:Str->Option Value} {base:Heap},Ri K w mg->yZ P w K mg base mH n d (spT K (rW a b F))}
abbrev CZ(n:Nat)(d:Df)(a b:Nat):={F:bX->Ab->Rz Out//∀{P:Program} {w:World} {K:Frag} {mg:Str->Option Value} {base:Heap},Ri K w mg->yZ P w K mg base mH n d (spT K (Dw a b F))}
abbrev CR(n:Nat)(d:Df)(a b:Nat)(r:List Tr->Rs Tr):={F:bX->Rs Out//∀{P:Program} {w:World} {K:Frag} {mg:Str->Option Value} {base:Heap} {k:Nat},Ri K w mg->n<=k->yZ P w K mg base mH k d (spT K r)->yZ P w K mg base mH (k+1) d (spT K (rW a b F))}
abbrev KS(n:Nat)(d:Df)(m:List Tr->Ab->Rz Tr):Prop:=∀{P:Program} {w:World} {K:Frag} {mg:Str->Option Value} {base:Heap},Ri K w mg->yZ P w K mg base (vt P w) n d (wb K m)
abbrev KP(n:Nat)(d:Df)(m:List Tr->Rs Tr):Prop:=∀{P:Program} {w:World} {K:Frag} {mg:Str->Option Value} {base:Heap},Ri K w mg->yZ P w K mg base mH n d (spT K m)
noncomputable def HM:CP 1 BX 1 1:=⟨_,λT=>jV ["role"] (T.d 0 rfl) λ_ _ _ _ _ _ _ b=>(cD (cL (YD (ba b) T.Pw (aR 0))))⟩
def w6:=rW 1 1 HM.1
def l8:KP 1 BX w6:=HM.2
noncomputable def kA:CP 2 iX 2 2:=⟨_,λT=>jV ["self","who"] (T.d 1 rfl) λ_ _ _ _ _ _ _ b=>(cD (cL (ck (aS (Rc (d7 (l8 T) b (aS (bT (ba b) (cY T.dG (aR 0)) (aR 1)) bb))) (aS (bT (ba b) (cY T.vJ (aR 0)) (aR 1)) bb)))))⟩
def i7:=rW 2 2 kA.1
def B8:KP 2 iX i7:=kA.2
noncomputable def gO:CS 1 jk 4 5:=⟨_,λT=>f9 ["self","who","word","parts","number"] (T.d 2 rfl) λb _ _ _ _ _ _ g=>(bp (g7 (i:=4) (bh (fB iP (cR jg T.len (aS (cY T.HL (aR 0)) bb)) bD)) b) (bp (cc (AI nM qS jc vx (jh T.HL (aX (aR 0))) (aW (bh (fB iP (ck (aS (aR 4) (aS (aR 1) (aS (aR 2) bb)))) (aR 3))) bw))) (bM (fk (aX (aR 4))))))⟩
def nC:=fb 4 5 gO.1
def eJ:KS 1 jk nC:=gO.2
noncomputable def jy:CS 2 mD 4 4:=⟨_,λT=>f9 ["self","who","word","role"] (T.d 3 rfl) λ_ _ _ _ _ _ _ b=>(bp (ip (ba b) (jh T.vJ (aX (aR 0))) (aX (aR 1)) (cE (eJ T) b (aX (aR 0)) (aW (aX (aR 1)) (aW (aX (aR 2)) (aW (bh (ck bb)) bw))))) (bp (ip (ba b) (jh T.dG (aX (aR 0))) (aX (aR 1)) (aX (aR 3))) (bM (cc (L_ (jh T.rB (aX (aR 0))) (aX (aR 1)) (bh gf))))))⟩
def se:=fb 4 4 jy.1
def sf:KS 2 mD se:=jy.2
noncomputable def gP:CS 2 jl 4 4:=⟨_,λT=>f9 ["self","who","whom","role"] (T.d 4 rfl) λ_ _ _ _ _ _ _ b=>(bp (cc (cE (eJ T) b (aX (aR 0)) (aW (aX (aR 1)) (aW (bh aV) (aW (bh (ck (aS (aR 2) (aS (aR 3) bb)))) bw))))) (bM (ip (ba b) (jh T.dG (aX (aR 0))) (aX (aR 2)) (aX (aR 3)))))⟩
def nD:=fb 4 4 gP.1
def nE:KS 2 jl nD:=gP.2
noncomputable def i8:CS 1 lz 2 2:=⟨_,λT=>f9 ["self","who"] (T.d 5 rfl) λ_ _ _ _ _ _ _ b=>(bM (fh (cp (bF (rV (ba b)) (aR 1) (cY T.dG (aR 0)))) (bM (gg T.PC (aW (bh (iV (dh (fZ (aR 1)) (dh aV l0)))) bw))) dz))⟩
def lD:=fb 2 2 i8.1
def eP:KS 1 lz lD:=i8.2
noncomputable def dJ:CS 1 iq 2 3:=⟨_,λT=>f9 ["self","names","name"] (T.d 6 rfl) λb _ _ _ _ _ _ g=>(bM (Hw (oR (aR 1)) (fM 2 b) (fY 2) (bM (fh (cp (bF (rV (ba g)) (aR 2) (cY T.nA (aR 0)))) (bM (gg T.F4 (aW (bh (iV (dh aV (dh (fZ (aR 2)) l0)))) bw))) dz))))⟩
def iu:=fb 2 3 dJ.1
def lE:KS 1 iq iu:=dJ.2
noncomputable def kB:CS 1 iY 2 2:=⟨_,λT=>f9 ["self","room"] (T.d 7 rfl) λ_ _ _ _ _ _ _ b=>(bp (fh (cp (bF (rV (ba b)) (aR 1) (cY T.jP (aR 0)))) (bM (gg T.MI (aW (bh (iV (dh aV (dh (fZ (aR 1)) l0)))) bw))) dz) (bM (fk (uK (ba b) (jh T.jP (aX (aR 0))) (aX (aR 1))))))⟩
def uS:=fb 2 2 kB.1
def B9:KS 1 iY uS:=kB.2
noncomputable def eK:CS 2 jm 3 3:=⟨_,λT=>f9 ["self","names","room"] (T.d 8 rfl) λ_ _ _ _ _ _ _ b=>(bp (cc (cE (lE T) b (aX (aR 0)) (aW (aX (aR 1)) bw))) (bM (fk (cE (B9 T) b (aX (aR 0)) (aW (aX (aR 2)) bw)))))⟩
def jo:=fb 3 3 eK.1
def eL:KS 2 jm jo:=eK.2
noncomputable def wk:CS 1 qH 2 2:=⟨_,λT=>f9 ["self","who"] (T.d 9 rfl) λ_ _ _ _ _ _ _ b=>(bp (fh (cp (bF (mq (ba b)) (aR 1) (cY T.nA (aR 0)))) (bM (gg T.rD (aW (bh (iV (dh (fZ (aR 1)) (dh aV l0)))) bw))) dz) (bM (ip (ba b) (jh T.nA (aX (aR 0))) (aX (aR 1)) (bh yV))))⟩
def Eh:=fb 2 2 wk.1
def wm:KS 1 qH Eh:=wk.2
def oS:CS 3 h_ 2 2:=⟨_,λT=>f9 ["self","who"] (T.d 10 rfl) λ_ _ _ _ _ _ _ b=>(bp (qE T.HL (aX (aR 0)) (gy (yX bb))) (bp (qE T.dG (aX (aR 0)) (gy mz)) (bp (qE T.vJ (aX (aR 0)) (gy mz)) (bp (qE T.zc (aX (aR 0)) (gy (yY (Hn rfl) T.dict (aS (Jw (N':=["what"]) (ix:=[none]) (g0.of (N:=["self","who"]) (sc:=bI h_.st) rfl rfl (by decide+kernel)) (Uj T.F0) ⟨λs H ex=>⟨(fM 0 (by show List.Nodup (["what"]:List Str);decide+kernel)),AH,(ck (aS (aR 0) (aS (bT (ba b) (YA T.Mz (aR 0)) bD) bb)))⟩⟩ (fY 0)) bb)))) (bp (qE T.lC (aX (aR 0)) (gy mz)) (bp (qE T.rB (aX (aR 0)) (gy mz)) (bp (qE T.B6 (aX (aR 0)) (gy mz)) (bp (qE T.zJ (aX (aR 0)) (gy mz)) (bM (cc (cE (sf T) b (aX (aR 0)) (aW (aX (aR 1)) (aW (bh aV) (aW (bh aV) bw))))))))))))))⟩
def wF:=fb 2 2 oS.1
def wG:KS 3 h_ wF:=oS.2
noncomputable def oU:CS 1 jY 1 1:=⟨_,λT=>f9 ["self"] (T.d 11 rfl) λ_ _ _ _ _ _ _ b=>(bp (qE T.nA (aX (aR 0)) (gy mz)) (bp (qE T.jP (aX (aR 0)) (gy mz)) (bM (qE T.Px (aX (aR 0)) (gy (yX bb))))))⟩
def oV:=fb 1 1 oU.1
def wH:KS 1 jY oV:=oU.2
noncomputable def uT:CS 5 oh 3 3:=⟨_,λT=>f9 ["self","who","room"] (T.d 12 rfl) λ_ _ _ _ _ _ _ b=>(bp (cc (cE (lE T) b (aX (aR 0)) (aW (bh (ck (aS (aR 1) bb))) bw))) (bp (fh (cp (bF (mq (ba b)) (aR 2) (cY T.jP (aR 0)))) (bM (gg T.rD (aW (bh (iV (dh aV (dh (fZ (aR 2)) (dh aV l0))))) bw))) dz) (bM (ip (ba b) (jh T.jP (aX (aR 0))) (aX (aR 2)) (Us (wG T) T.UH b (aW (aX (aR 1)) bw))))))⟩
def B_:=fb 3 3 uT.1
def Ca:KS 5 oh B_:=uT.2
def fA:CS 4 fy 1 3:=⟨_,λT=>f9 ["self","owners","heir"] (T.d 13 rfl) λg _ _ _ _ _ _ b=>(bp (L' (i:=1) (N':=["name","self"]) (ix:=[none,some 0]) (g0.of (N:=["self","owners","heir"]) (sc:=bI fy.st) rfl rfl (by decide+kernel)) (Hv (cY T.dG (aR 0))) ⟨λs H ex=>⟨(fM 0 (by show List.Nodup (["name","self"]:List Str);decide+kernel)),(wg (bF (d5 (dH b)) (bT (ba b) (cY T.dG (aR 1)) (aR 0)) aV)),(aR 0)⟩⟩ (fY 0) g) (bM (fh (cp (eW (lZ (bF SM (cR jg T.len (aS (cY T.dG (aR 0)) bb)) bD) (iU (bF (d5 (dH b)) (cR jg T.len (aS (aR 1) bb)) bD))))) (bp (g7 (i:=2) (bh (Mm (B8 T) T.B5 b T.min (fc (OT rfl) T.list (aS (cY T.dG (aR 0)) bb)) (aR 0))) g) (bM (cc (cE (nE T) b (aX (aR 0)) (aW (aX (aR 2)) (aW (aX (aR 2)) (aW (bh aV) bw))))))) dz)))⟩
def kc:=fb 1 3 fA.1
def gY:KS 4 fy kc:=fA.2
noncomputable def fO:CS 2 ir 2 2:=⟨_,λT=>f9 ["self","who"] (T.d 14 rfl) λ_ _ _ _ _ _ _ b=>(bM (fh (cp (bF K3 (d7 (l8 T) b (aS (bT (ba b) (cY T.dG (aR 0)) (aR 1)) bb)) (d7 (l8 T) b (aS aV bb)))) (bM (gg T.vK (aW (bh (iV (dh (fZ (aR 1)) (dh aV l0)))) bw))) dz))⟩
def lF:=fb 2 2 fO.1
def lG:KS 2 ir lF:=fO.2
noncomputable def gm:CS 3 iZ 3 3:=⟨_,λT=>f9 ["self","who","whom"] (T.d 15 rfl) λ_ _ _ _ _ _ _ b=>(bp (cc (cE (lG T) b (aX (aR 0)) (aW (aX (aR 1)) bw))) (bM (fh (cp (eW (lZ (bF (mq (ba b)) (aR 2) (cY T.dG (aR 0))) (iU (bF SN (d7 (l8 T) b (aS (bT (ba b) (cY T.dG (aR 0)) (aR 2)) bb)) (d7 (l8 T) b (aS (bT (ba b) (cY T.dG (aR 0)) (aR 1)) bb))))))) (bM (gg T.vK (aW (bh (iV (dh (fZ (aR 2)) (dh aV (dh (fZ (aR 1)) l0))))) bw))) dz)))⟩
def l9:=fb 3 3 gm.1
def l_:KS 3 iZ l9:=gm.2
noncomputable def ib:CP 2 jZ 4 4:=⟨_,λT=>jV ["self","who","whom","role"] (T.d 16 rfl) λ_ _ _ _ _ _ _ b=>(bR (gx (bF (d5 (dH b)) (bT (ba b) (cY T.dG (aR 0)) (aR 1)) aV) (cD (cL (AG aaT (cR (Q_ rfl) T.max (aS (d7 (l8 T) b (aS (bT (ba b) (cY T.dG (aR 0)) (aR 2)) bb)) (aS (d7 (l8 T) b (aS (aR 3) bb)) bb))) (d7 (l8 T) b (aS aV bb))))) dR) (cD (cL (AG (d5 (dH b)) (bT (ba b) (cY T.dG (aR 0)) (aR 1)) aV))))⟩
def oW:=rW 4 4 ib.1
def wI:KP 2 jZ oW:=ib.2
noncomputable def iB:CS 5 qI 4 4:=⟨_,λT=>f9 ["self","who","whom","role"] (T.d 17 rfl) λ_ _ _ _ _ _ _ b=>(bp (cc (cE (eP T) b (aX (aR 0)) (aW (aX (aR 1)) bw))) (bp (cc (cE (eP T) b (aX (aR 0)) (aW (aX (aR 2)) bw))) (bp (fh (cp (yW (nu (jW (wI T) b (aR 0) (aS (aR 1) (aS (aR 2) (aS (aR 3) bb))))))) (bM (gg T.vK (aW (bh (iV (dh (fZ (aR 1)) (dh aV (dh (fZ (aR 2)) (dh aV (dh (fZ (aR 3)) l0))))))) bw))) dz) (bp (fh (cp (bF (d5 (dH b)) (bT (ba b) (cY T.dG (aR 0)) (aR 2)) (aR 3))) (bM (gg T.rD (aW (bh (iV (dh (fZ (aR 2)) (dh aV (dh (fZ (aR 3)) l0))))) bw))) dz) (bp (cc (cE (nE T) b (aX (aR 0)) (aW (aX (aR 1)) (aW (aX (aR 2)) (aW (aX (aR 3)) bw))))) (bM (cc (BO (gY T) b (aX (aR 0))))))))))⟩
def gA:=fb 4 4 iB.1
def Ei:KS 5 qI gA:=iB.2
noncomputable def oG:CS 4 sR 3 3:=⟨_,λT=>f9 ["self","who","whom"] (T.d 18 rfl) λ_ _ _ _ _ _ _ b=>(bp (cc (cE (eP T) b (aX (aR 0)) (aW (aX (aR 1)) bw))) (bp (cc (cE (eP T) b (aX (aR 0)) (aW (aX (aR 2)) bw))) (bp (cc (cE (l_ T) b (aX (aR 0)) (aW (aX (aR 1)) (aW (aX (aR 2)) bw)))) (bp (cc (cE (eJ T) b (aX (aR 0)) (aW (aX (aR 1)) (aW (bh aV) (aW (bh (ck (aS (aR 2) bb))) bw))))) (bM (cc (BM (jh T.dG (aX (aR 0))) (aX (aR 2)))))))))⟩
def sV:=fb 3 3 oG.1
def F6:KS 4 sR sV:=oG.2
noncomputable def oH:CS 4 sS 3 3:=⟨_,λT=>f9 ["self","who","whom"] (T.d 19 rfl) λ_ _ _ _ _ _ _ b=>(bp (cc (cE (eP T) b (aX (aR 0)) (aW (aX (aR 1)) bw))) (bp (cc (cE (l_ T) b (aX (aR 0)) (aW (aX (aR 1)) (aW (aX (aR 2)) bw)))) (bp (fh (cp (bF (mq (ba b)) (aR 2) (cY T.lC (aR 0)))) (bM (gg T.rD (aW (bh (iV (dh (fZ (aR 2)) (dh aV l0)))) bw))) dz) (bp (cc (cE (eJ T) b (aX (aR 0)) (aW (aX (aR 1)) (aW (bh aV) (aW (bh (ck (aS (aR 2) bb))) bw))))) (bp (ip (ba b) (jh T.lC (aX (aR 0))) (aX (aR 2)) (bh yV)) (bM (cc (L_ (jh T.dG (aX (aR 0))) (aX (aR 2)) (bh gf)))))))))⟩
def sW:=fb 3 3 oH.1
def F7:KS 4 sS sW:=oH.2
noncomputable def kC:CS 3 oj 3 3:=⟨_,λT=>f9 ["self","who","whom"] (T.d 20 rfl) λ_ _ _ _ _ _ _ b=>(bp (cc (cE (eP T) b (aX (aR 0)) (aW (aX (aR 1)) bw))) (bp (cc (cE (lG T) b (aX (aR 0)) (aW (aX (aR 1)) bw))) (bp (fh (cp (bF (rV (ba b)) (aR 2) (cY T.lC (aR 0)))) (bM (gg T.rD (aW (bh (iV (dh (fZ (aR 2)) (dh aV l0)))) bw))) dz) (bp (cc (cE (eJ T) b (aX (aR 0)) (aW (aX (aR 1)) (aW (bh aV) (aW (bh (ck (aS (aR 2) bb))) bw))))) (bM (cc (BM (jh T.lC (aX (aR 0))) (aX (aR 2)))))))))⟩
def oJ:=fb 3 3 kC.1
def Cb:KS 3 oj oJ:=kC.2
noncomputable def dO:CS 5 om 2 2:=⟨_,λT=>f9 ["self","who"] (T.d 21 rfl) λ_ _ _ _ _ _ _ b=>(bp (fh (cp (bF (mq (ba b)) (aR 1) (cY T.dG (aR 0)))) (bM (gg T.rD (aW (bh (iV (dh (fZ (aR 1)) (dh aV l0)))) bw))) dz) (bp (fh (cp (bF (mq (ba b)) (aR 1) (cY T.lC (aR 0)))) (bM (gg T.MH (aW (bh (iV (dh (fZ (aR 1)) (dh aV l0)))) bw))) dz) (bp (fh (cp (eW (lZ (bF (d5 (dH b)) (bT (ba b) (cY T.zc (aR 0)) aV) aV) (iU (bF (rV (ba b)) (aR 1) (cY T.rB (aR 0))))))) (bM (gg T.F5 (aW (bh (iV (dh (fZ (aR 1)) (dh aV l0)))) bw))) dz) (bp (cc (cE (sf T) b (aX (aR 0)) (aW (aX (aR 1)) (aW (bh aV) (aW (bh aV) bw))))) (bM (cc (BO (gY T) b (aX (aR 0)))))))))⟩
def ff:=fb 2 2 dO.1
def Cc:KS 5 om ff:=dO.2
noncomputable def uU:CS 5 oo 2 2:=⟨_,λT=>f9 ["self","who"] (T.d 22 rfl) λ_ _ _ _ _ _ _ b=>(bp (cc (cE (eP T) b (aX (aR 0)) (aW (aX (aR 1)) bw))) (bp (cc (cE (eJ T) b (aX (aR 0)) (aW (aX (aR 1)) (aW (bh aV) (aW (bh (ck bb)) bw))))) (bp (cc (BM (jh T.dG (aX (aR 0))) (aX (aR 1)))) (bM (cc (BO (gY T) b (aX (aR 0))))))))⟩
def Cd:=fb 2 2 uU.1
def Ce:KS 5 oo Cd:=uU.2
noncomputable def kD:CS 6 oq 3 3:=⟨_,λT=>f9 ["self","who","room"] (T.d 23 rfl) λ_ _ _ _ _ _ _ b=>(bM (cc (cE (Cc T) b (cE (eL T) b (aX (aR 0)) (aW (bh (ck (aS (aR 1) bb))) (aW (aX (aR 2)) bw))) (aW (aX (aR 1)) bw))))⟩
def oK:=fb 3 3 kD.1
def Cf:KS 6 oq oK:=kD.2
noncomputable def uV:CS 6 ou 3 3:=⟨_,λT=>f9 ["self","who","room"] (T.d 24 rfl) λ_ _ _ _ _ _ _ b=>(bM (cc (cE (Ce T) b (cE (eL T) b (aX (aR 0)) (aW (bh (ck (aS (aR 1) bb))) (aW (aX (aR 2)) bw))) (aW (aX (aR 1)) bw))))⟩
def Cg:=fb 3 3 uV.1
def Ci:KS 6 ou Cg:=uV.2
noncomputable def md:CS 6 qJ 5 5:=⟨_,λT=>f9 ["self","who","room","whom","role"] (T.d 25 rfl) λ_ _ _ _ _ _ _ b=>(bM (cc (cE (Ei T) b (cE (eL T) b (aX (aR 0)) (aW (bh (ck (aS (aR 1) (aS (aR 3) bb)))) (aW (aX (aR 2)) bw))) (aW (aX (aR 1)) (aW (aX (aR 3)) (aW (aX (aR 4)) bw))))))⟩
def Ej:=fb 5 5 md.1
def Ek:KS 6 qJ Ej:=md.2
noncomputable def oM:CS 5 sT 4 4:=⟨_,λT=>f9 ["self","who","room","whom"] (T.d 26 rfl) λ_ _ _ _ _ _ _ b=>(bM (cc (cE (F6 T) b (cE (eL T) b (aX (aR 0)) (aW (bh (ck (aS (aR 1) (aS (aR 3) bb)))) (aW (aX (aR 2)) bw))) (aW (aX (aR 1)) (aW (aX (aR 3)) bw)))))⟩
def F8:=fb 4 4 oM.1
def F9:KS 5 sT F8:=oM.2
noncomputable def oN:CS 5 sU 4 4:=⟨_,λT=>f9 ["self","who","room","whom"] (T.d 27 rfl) λ_ _ _ _ _ _ _ b=>(bM (cc (cE (F7 T) b (cE (eL T) b (aX (aR 0)) (aW (bh (ck (aS (aR 1) (aS (aR 3) bb)))) (aW (aX (aR 2)) bw))) (aW (aX (aR 1)) (aW (aX (aR 3)) bw)))))⟩
def F_:=fb 4 4 oN.1
def Ga:KS 5 sU F_:=oN.2
noncomputable def kE:CS 4 oz 4 4:=⟨_,λT=>f9 ["self","who","room","whom"] (T.d 28 rfl) λ_ _ _ _ _ _ _ b=>(bM (cc (cE (Cb T) b (cE (eL T) b (aX (aR 0)) (aW (bh (ck (aS (aR 1) (aS (aR 3) bb)))) (aW (aX (aR 2)) bw))) (aW (aX (aR 1)) (aW (aX (aR 3)) bw)))))⟩
def Cj:=fb 4 4 kE.1
def Ck:KS 4 oz Cj:=kE.2
noncomputable def jz:CP 1 mE 1 1:=⟨_,λT=>jV ["self"] (T.d 29 rfl) λ_ _ _ _ _ _ _ b=>(cD (cL (fc hZ T.tuple (aS (cR (jL rfl) T.sorted (aS (cY T.nA (aR 0)) bb)) bb))))⟩
def sg:=rW 1 1 jz.1
def zK:KP 1 mE sg:=jz.2
noncomputable def kF:CP 1 oA 1 1:=⟨_,λT=>jV ["self"] (T.d 30 rfl) λ_ _ _ _ _ _ _ b=>(cD (cL (fc hZ T.tuple (aS (cR (jL rfl) T.sorted (aS (cY T.jP (aR 0)) bb)) bb))))⟩
def uW:=rW 1 1 kF.1
def Cm:KP 1 oA uW:=kF.2
noncomputable def ig:CP 1 iY 2 2:=⟨_,λT=>jV ["self","room"] (T.d 7 rfl) λ_ _ _ _ _ _ _ b=>(bR (gx (bF (rV (ba b)) (aR 1) (cY T.jP (aR 0))) (cD YG) dR) (cD (cL (bT (ba b) (cY T.jP (aR 0)) (aR 1)))))⟩
def oX:=rW 2 2 ig.1
def fS:KP 1 iY oX:=ig.2
noncomputable def kG:CP 1 oB 1 1:=⟨_,λT=>jV ["self"] (T.d 31 rfl) λ_ _ _ _ _ _ _ b=>(cD (cL (fc hZ T.tuple (aS (Me T.sorted (cY T.dG (aR 0))) bb))))⟩
def uX:=rW 1 1 kG.1
def Cn:KP 1 oB uX:=kG.2
noncomputable def me:CP 1 qK 1 1:=⟨_,λT=>jV ["self"] (T.d 32 rfl) λ_ _ _ _ _ _ _ b=>(cD (cL (fc hZ T.tuple (aS (cY T.HL (aR 0)) bb))))⟩
def wo:=rW 1 1 me.1
def El:KP 1 qK wo:=me.2
noncomputable def jA:CP 1 mF 1 1:=⟨_,λT=>jV ["self"] (T.d 33 rfl) λ_ _ _ _ _ _ _ b=>(cD (cL (fc hZ T.tuple (aS (cR (jL rfl) T.sorted (aS (cY T.lC (aR 0)) bb)) bb))))⟩
def sj:=rW 1 1 jA.1
def zL:KP 1 mF sj:=jA.2
noncomputable def kH:CP 1 oC 1 1:=⟨_,λT=>jV ["self"] (T.d 34 rfl) λ_ _ _ _ _ _ _ b=>(cD (cL (fc hZ T.tuple (aS (cR (jL rfl) T.sorted (aS (cY T.rB (aR 0)) bb)) bb))))⟩
def uY:=rW 1 1 kH.1
def Co:KP 1 oC uY:=kH.2
noncomputable def i9:CP 1 lA 2 2:=⟨_,λT=>jV ["self","what"] (T.d 35 rfl) λ_ _ _ _ _ _ _ b=>(cD (cL (bT (ba b) (cY T.zc (aR 0)) (aR 1))))⟩
def qM:=rW 2 2 i9.1
def zd:KP 1 lA qM:=i9.2
noncomputable def kI:CP 2 oE 2 2:=⟨_,λT=>jV ["self","room"] (T.d 36 rfl) λ_ _ _ _ _ _ _ b=>(cD (cL (rj (Cn T) b (jW (fS T) b (aR 0) (aS (aR 1) bb)))))⟩
def uZ:=rW 2 2 kI.1
def Cp:KP 2 oE uZ:=kI.2
noncomputable def mf:CP 2 qL 2 2:=⟨_,λT=>jV ["self","room"] (T.d 37 rfl) λ_ _ _ _ _ _ _ b=>(cD (cL (rj (El T) b (jW (fS T) b (aR 0) (aS (aR 1) bb)))))⟩
def wq:=rW 2 2 mf.1
def Em:KP 2 qL wq:=mf.2
noncomputable def jB:CP 2 mG 2 2:=⟨_,λT=>jV ["self","room"] (T.d 38 rfl) λ_ _ _ _ _ _ _ b=>(cD (cL (rj (zL T) b (jW (fS T) b (aR 0) (aS (aR 1) bb)))))⟩
def sk:=rW 2 2 jB.1
def zM:KP 2 mG sk:=jB.2
noncomputable def kJ:CP 2 oF 2 2:=⟨_,λT=>jV ["self","room"] (T.d 39 rfl) λ_ _ _ _ _ _ _ b=>(cD (cL (rj (Co T) b (jW (fS T) b (aR 0) (aS (aR 1) bb)))))⟩
def u0:=rW 2 2 kJ.1
def Cq:KP 2 oF u0:=kJ.2
noncomputable def i_:CP 2 lB 3 3:=⟨_,λT=>jV ["self","room","what"] (T.d 40 rfl) λ_ _ _ _ _ _ _ b=>(cD (cL (jW (zd T) b (jW (fS T) b (aR 0) (aS (aR 1) bb)) (aS (aR 2) bb))))⟩
def qN:=rW 3 3 i_.1
def ze:KP 2 lB qN:=i_.2
noncomputable def nF:CP 1 y4 2 2:=⟨_,λT=>jV ["_law_room","_law_who"] (T.d 41 rfl) λ_ _ _ _ _ _ _ b=>(cD (cL (D7 (bF (mq (ba b)) (aR 1) (bT (ba b) (aR 0) aV)) (YE (ba b) (aS aV (aS aV (aS aV (aS aV bb)))) (bT (ba b) (bT (ba b) (aR 0) aV) (aR 1))) (Rc bD))))⟩
def zf:=rW 2 2 nF.1
def u3:KP 1 y4 zf:=nF.2
noncomputable def En:CP 1 y6 1 3:=⟨_,λT=>jV ["_law_kept","_law_kinds","_law_words_here"] (T.d 42 rfl) λb _ _ _ _ _ _ g=>(bR (fD (i:=1) (qA (aS (mB T.Py T.ME T.isinstance (aR 0)) (aS (mB T.F1 T.Ee T.isinstance (aR 0)) bb))) b) (bR (fD (i:=1) (fB iP (aR 1) (qA (aS (mB T.MD T.JG T.isinstance (aR 0)) (aS (mB T.PB T.MG T.isinstance (aR 0)) bb)))) b) (bR (fD (i:=1) (fB iP (aR 1) (qA (aS (mB T.F2 T.Ef T.isinstance (aR 0)) (aS (mB T.MA T.JD T.isinstance (aR 0)) bb)))) b) (bR (fD (i:=1) (fB iP (aR 1) (qA (aS (mB T.JC T.F3 T.isinstance (aR 0)) bb))) b) (bR (fD (i:=1) (fB iP (aR 1) (qA (aS (mB T.Pz T.MF T.isinstance (aR 0)) (aS (mB T.MB T.JE T.isinstance (aR 0)) (aS (mB T.MC T.JF T.isinstance (aR 0)) bb))))) b) (bR (fD (i:=2) (ck (aS aV (aS aV (aS aV (aS aV (aS aV (aS aV bb))))))) b) (bR (fD (i:=2) (fB iP (aR 2) (ck (aS aV (aS aV (aS aV (aS aV bb)))))) b) (bR (gx (eW (D6 (bF (IK (dH g)) (YC PySem.F.slot_list_count PySem.F.type_list_count (TB (ba g)) (aR 1) yV) bD) (we (yW (nu (Up T.B7 T.ValueError T.isinstance (aR 0))))))) (cD (cL aV)) dR) (cD (cL (bT (ba g) (aR 2) (YC PySem.F.slot_list_index PySem.F.type_list_index (Tz (ba g)) (aR 1) yV))))))))))))⟩
def zg:=rW 1 3 En.1
def MJ:KP 1 y6 zg:=En.2
noncomputable def AN:CS 1 vI 1 1:=⟨_,λT=>f9 ["_law_people"] (T.d 43 rfl) λ_ _ _ _ _ _ _ b=>(bM (fk (Mf (n8 (aX aV) (gy (yY OJ T.list (aS (aR 0) bb))) (n8 (aX aV) (gy mz) LJ)))))⟩
def AO:=fb 1 1 AN.1
def JH:KS 1 vI AO:=AN.2
noncomputable def w8:CS 1 BY 3 3:=⟨_,λT=>f9 ["_law_room","_law_who","_law_parts"] (T.d 44 rfl) λ_ _ _ _ _ _ _ b=>(bp (cc (AI nM qS jc vx (uK (ba b) (aX (aR 0)) (bh aV)) (aW (bh (fB iP (ck (aS (fB iP (cR jg T.len (aS (bT (ba b) (aR 0) aV) bb)) bD) (aS (aR 1) bb))) (aR 2))) bw))) (bM (fk (bh (cR jg T.len (aS (bT (ba b) (aR 0) aV) bb))))))⟩
def HN:=fb 3 3 w8.1
def u4:KS 1 BY HN:=w8.2
def rE:CS 2 rA 3 5:=⟨_,λT=>f9 ["_law_room","_law_who","_law_word_here","_law_number","_law_first"] (T.d 45 rfl) λg _ _ _ _ _ _ b=>(bp (g7 (i:=3) (g8 (u4 T) b (aW (aX (aR 0)) (aW (aX (aR 1)) (aW (bh (ck (aS (aR 2) bb))) bw)))) g) (bp (g7 (i:=4) (bh (D7 (bF (d5 (dH b)) (bT (ba b) (aR 0) aV) aV) bD (aR 3))) g) (bp (cc (AI nM qS jc vx (uK (ba b) (aX (aR 0)) (bh aV)) (aW (bh (ck (aS (aR 1) (aS (aR 4) (aS (aR 3) (aS gf bb)))))) bw))) (bp (ip (ba b) (uK (ba b) (aX (aR 0)) (bh aV)) (aX (aR 1)) (bh aV)) (bM (ip (ba b) (aX (aR 0)) (bh aV) (gy (Ul (N':=["_law_one","_law_who"]) (ix:=[none,some 1]) (g0.of (N:=["_law_room","_law_who","_law_word_here","_law_number","_law_first"]) (sc:=bI rA.st) rfl rfl (by decide+kernel)) (oR (bT (ba b) (aR 0) aV)) ⟨λs H ex=>⟨(fM 0 (by show List.Nodup (["_law_one","_law_who"]:List Str);decide+kernel)),(wg (bF (IK (dH b)) (aR 0) (aR 1))),(aR 0)⟩⟩ (fY 0)))))))))⟩
def vL:=fb 3 5 rE.1
def AQ:KS 2 rA vL:=rE.2
def u5:CS 1 uP 3 3:=⟨_,λT=>f9 ["_law_room","_law_who","_law_number"] (T.d 46 rfl) λ_ _ _ _ _ _ _ b=>(bp (cc (BM (uK (ba b) (aX (aR 0)) (bh aV)) (aX (aR 1)))) (bM (ip (ba b) (aX (aR 0)) (bh aV) (gy (Ul (N':=["_law_stay","_law_who","_law_number"]) (ix:=[none,some 1,some 2]) (g0.of (N:=["_law_room","_law_who","_law_number"]) (sc:=bI uP.st) rfl rfl (by decide+kernel)) (oR (bT (ba b) (aR 0) aV)) ⟨λs H ex=>⟨(fM 0 (by show List.Nodup (["_law_stay","_law_who","_law_number"]:List Str);decide+kernel)),AH,(D7 (eW (lZ (bF (d5 (dH b)) (bT (ba b) (aR 0) bD) (aR 1)) (iU (bF Dp (bT (ba b) (aR 0) bD) gf)))) (fB iP (wj (aR 0) qC (qD bD)) (ck (aS (aR 2) bb))) (aR 0))⟩⟩ (fY 0))))))⟩
def Eo:=fb 3 3 u5.1
def Ep:KS 1 uP Eo:=u5.2
noncomputable def w_:CP 1 BZ 3 4:=⟨_,λT=>jV ["_law_cell_here","_law_prime","_law_many","_law_blend"] (T.d 47 rfl) λb _ _ _ _ _ _ g=>(bR (fD (i:=3) (fB Dk (fB K1 (aR 0) bD) (aR 1)) b) (cD (cL (fB Dk (fB Dk (fB K1 (aR 3) (fB iP (aR 3) bD)) (aR 1)) (aR 2)))))⟩
def HP:=rW 3 4 w_.1
def jD:KP 1 BZ HP:=w_.2
noncomputable def Er:CP 1 y8 2 2:=⟨_,λT=>jV ["_law_script","_law_k"] (T.d 48 rfl) λ_ _ _ _ _ _ _ b=>(bR (gx (bF K3 (aR 1) (cR jg T.len (aS (aR 0) bb))) (cD (cL (bT (ba b) (aR 0) (aR 1)))) dR) (cD (cL bD)))⟩
def Es:=rW 2 2 Er.1
def MK:KP 1 y8 Es:=Er.2
def rG:CS 2 kL 1 3:=⟨_,λT=>f9 ["_law_room","_law_most","_law_there"] (T.d 49 rfl) λg _ _ _ _ _ _ b=>(bp (fh (cp (eW (D6 (yW (nu (bT (ba b) (aR 0) aV))) (we (bF (mq (ba b)) aV (Rf (N':=["_law_who","_law_room"]) (ix:=[none,some 0]) (g0.of (N:=["_law_room","_law_most","_law_there"]) (sc:=bI kL.st) rfl rfl (by decide+kernel)) (Hv (bT (ba b) (aR 0) aV)) ⟨λs H ex=>⟨(fM 0 (by show List.Nodup (["_law_who","_law_room"]:List Str);decide+kernel)),AH,(bT (ba b) (bT (ba b) (aR 1) aV) (aR 0))⟩⟩ (fY 0))))))) (bM Uk) dz) (bp (g7 (i:=1) (bh (cR (Q_ rfl) T.max (aS (Rf (N':=["_law_who","_law_room"]) (ix:=[none,some 0]) (g0.of (N:=["_law_room","_law_most","_law_there"]) (sc:=bI kL.st) rfl rfl (by decide+kernel)) (Hv (bT (ba b) (aR 0) aV)) ⟨λs H ex=>⟨(fM 0 (by show List.Nodup (["_law_who","_law_room"]:List Str);decide+kernel)),AH,(d7 (u3 T) b (aS (aR 1) (aS (aR 0) bb)))⟩⟩ (fY 0)) bb))) g) (bp (Pb (i:=2) (N':=["_law_stay","_law_most","_law_room"]) (ix:=[none,some 1,some 0]) (g0.of (N:=["_law_room","_law_most","_law_there"]) (sc:=bI kL.st) rfl rfl (by decide+kernel)) (oR (bT (ba b) (aR 0) aV)) ⟨λs H ex=>⟨(fM 0 (by show List.Nodup (["_law_stay","_law_most","_law_room"]:List Str);decide+kernel)),(wg (eW (lZ (bF Dp (bT (ba b) (aR 0) bD) gf) (iU (bF (d5 (dH b)) (d7 (u3 T) b (aS (aR 2) (aS (bT (ba b) (aR 0) bD) bb))) (aR 1)))))),(bT (ba b) (aR 0) bD)⟩⟩ (fY 0) g) (bp (ip (ba b) (uK (ba b) (aX (aR 0)) (bh aV)) (bh (bT (ba b) (aR 2) bD)) (bh aV)) (bM (cc (g8 (u4 T) b (aW (aX (aR 0)) (aW (bh (bT (ba b) (aR 2) bD)) (aW (bh (ck (aS aV (aS (bT (ba b) (aR 2) bD) (aS aV bb))))) bw))))))))))⟩
def nG:=fb 1 3 rG.1
def JI:KS 2 kL nG:=rG.2
def eE:CS 2 l7 2 6:=⟨_,λT=>f9 ["_law_room","_law_deed_here","_law_word_here","_law_who","_law_names","_law_number"] (T.d 50 rfl) λg _ _ _ _ _ _ b=>(bp (Rg (Ht (is:=[2,3]) (qB (i:=2) (qB (i:=3) Hs g) g)) (Fc [2,3]) (bh (wj (aR 1) qC (qD bD)))) (bp (g7 (i:=4) (gy (yY (Hn rfl) T.dict (aS (qA (aS (ck (aS aV (aS aV bb))) (aS (ck (aS aV (aS aV bb))) bb))) bb))) g) (bp (g7 (i:=5) (g8 (u4 T) b (aW (aX (aR 0)) (aW (aX (aR 3)) (aW (bh (fB iP (ck (aS (L9 (ba b) (aR 4) (aR 2) (aR 2)) bb)) (wj (aR 1) (qD bD) qC))) bw)))) g) (bp (fh (cp (bF (d5 (dH b)) (aR 2) aV)) (bM (ip (ba b) (aX (aR 0)) (bh (bT (ba b) (aR 1) bD)) (bh (bT (ba b) (aR 1) bD)))) dz) (bp (fh (cp (bF (d5 (dH b)) (aR 2) aV)) (bM (cc (AI nM qS jc vx (uK (ba b) (aX (aR 0)) (bh aV)) (aW (bh (bT (ba b) (aR 1) bD)) bw)))) dz) (bp (fh (cp (bF (d5 (dH b)) (aR 2) aV)) (bM (ip (ba b) (uK (ba b) (aX (aR 0)) (bh aV)) (bh (bT (ba b) (aR 1) bD)) (bh (bT (ba b) (aR 1) bD)))) dz) (bp (fh (cp (bF (d5 (dH b)) (aR 2) aV)) (bM (cc (AI nM qS jc vx (uK (ba b) (aX (aR 0)) (bh aV)) (aW (bh (bT (ba b) (aR 1) bD)) bw)))) dz) (bp (fh (cp (bF (d5 (dH b)) (aR 2) aV)) (bM (ip (ba b) (aX (aR 0)) (bh aV) (gy (Ul (N':=["_law_one","_law_deed_here"]) (ix:=[none,some 1]) (g0.of (N:=["_law_room","_law_deed_here","_law_word_here","_law_who","_law_names","_law_number"]) (sc:=bI l7.st) rfl rfl (by decide+kernel)) (oR (bT (ba b) (aR 0) aV)) ⟨λs H ex=>⟨(fM 0 (by show List.Nodup (["_law_one","_law_deed_here"]:List Str);decide+kernel)),(wg (bF (IK (dH b)) (aR 0) (bT (ba b) (aR 1) bD))),(aR 0)⟩⟩ (fY 0))))) dz) (bM (fh (cp (eW (lZ (bF (mq (ba b)) (aR 2) (ck (aS aV (aS aV bb)))) (iU (bF (mq (ba b)) (bT (ba b) (aR 1) bD) (bT (ba b) (aR 0) aV)))))) (bM (cc (g8 (Ep T) b (aW (aX (aR 0)) (aW (bh (bT (ba b) (aR 1) bD)) (aW (aX (aR 5)) bw)))))) dz))))))))))⟩
def iC:=fb 2 6 eE.1
def Et:KS 2 l7 iC:=eE.2
noncomputable def nH:CS 3 y9 2 5:=⟨_,λT=>f9 ["_law_model","_law_deed_here","_law_word_here","_law_who","_law_room"] (T.d 51 rfl) λg _ _ _ _ _ _ b=>(bp (Rg (Ht (is:=[2,3]) (qB (i:=2) (qB (i:=3) Hs g) g)) (Fc [2,3]) (bh (wj (aR 1) qC (qD bD)))) (bp (fh (cp (bF (d5 (dH b)) (aR 2) aV)) (bp (cc (AI nM qS jc vx (uK (ba b) (aX (aR 0)) (bh aV)) (aW (aX (aR 3)) bw))) (bM (fk (bh gf)))) dz) (bp (fh (cp (bF (d5 (dH b)) (aR 2) aV)) (bp (g7 (i:=4) (Mf (n8 (aX aV) (gy (yX bb)) (n8 (aX aV) (gy mz) (n8 (aX aV) (gy (yX bb)) (n8 (aX aV) (gy (yX bb)) (n8 (aX aV) (gy (yX bb)) LJ)))))) g) (bp (cc (YH (aX (aR 4)) (aX (L8 (BN aV aV (BN aV aV (BN aV aV QK))))))) (bp (ip (ba b) (uK (ba b) (aX (aR 0)) (bh aV)) (bh (bT (ba b) (aR 1) bD)) (aX (aR 4))) (bp (cc (g8 (AQ T) b (aW (aX (aR 4)) (aW (aX (aR 3)) (aW (bh aV) bw))))) (bp (ip (ba b) (uK (ba b) (aX (aR 4)) (bh aV)) (aX (aR 3)) (bh aV)) (bM (fk (bh gf)))))))) dz) (bp (g7 (i:=4) (uK (ba b) (uK (ba b) (aX (aR 0)) (bh aV)) (bh (bT (ba b) (aR 1) bD))) g) (bp (fh (cp (bF (d5 (dH b)) (aR 2) aV)) (bM (fk (g8 (u4 T) b (aW (aX (aR 4)) (aW (aX (aR 3)) (aW (bh (fB iP (wj (aR 1) qC (qD bD)) (wj (aR 1) (qD bD) qC))) bw)))))) dz) (bp (fh (cp (bF (d5 (dH b)) (aR 2) aV)) (bM (cc (g8 (AQ T) b (aW (aX (aR 4)) (aW (aX (aR 3)) (aW (bh aV) bw)))))) (bM (fh (cp (bF (d5 (dH b)) (aR 2) aV)) (bM (cc (g8 (Ep T) b (aW (aX (aR 4)) (aW (aX (aR 3)) (aW (g8 (u4 T) b (aW (aX (aR 4)) (aW (aX (aR 3)) (aW (bh (ck (aS aV bb))) bw)))) bw)))))) (bM (cc (g8 (Et T) b (aW (aX (aR 4)) (aW (aX (aR 1)) bw)))))))) (bp (cc (g8 (JI T) b (aW (aX (aR 4)) bw))) (bM (fk (bh gf))))))))))⟩
def qO:=fb 2 5 nH.1
def Eu:KS 3 y9 qO:=nH.2
noncomputable def cT:CP 2 jn 2 6:=⟨_,λT=>jV ["_law_room","_law_deed_here","_law_word_here","_law_who","_law_mine","_law_yours"] (T.d 52 rfl) λg _ _ _ _ _ _ b=>(bR (Yz (Ht (is:=[2,3]) (qB (i:=2) (qB (i:=3) Hs g) g)) (wj (aR 1) qC (qD bD))) (bR (fD (i:=4) (d7 (u3 T) b (aS (aR 0) (aS (aR 3) bb))) g) (bR (fD (i:=5) (d7 (u3 T) b (aS (aR 0) (aS (bT (ba b) (aR 1) bD) bb))) g) (bR (gx (eW (lZ (bF (mq (ba b)) (aR 2) (ck (aS aV (aS aV bb)))) (iU (bF K3 (aR 5) bD)))) (cD (cL aV)) dR) (bR (gx (bF (d5 (dH b)) (aR 2) aV) (bR (gx (eW (D6 (bF K3 (aR 4) bD) (we (eW (lZ (bF (d5 (dH b)) (aR 4) bD) (iU (eW (D6 (bF SM (aR 5) bD) (we (bF (mq (ba b)) (bT (ba b) (aR 1) bD) (ck (aS aV (aS aV bb))))))))))))) (cD (cL aV)) dR) (cD (cL (D7 (bF (d5 (dH b)) (bT (ba b) (bT (ba b) (aR 0) aV) (bT (ba b) (aR 1) bD)) (bT (ba b) (aR 1) bD)) aV gf)))) dR) (bR (gx (eW (D6 (bF K3 (aR 4) bD) (we (eW (lZ (bF (mq (ba b)) (aR 2) (ck (aS aV (aS aV bb)))) (iU (bF SN (aR 5) (aR 4)))))))) (cD (cL aV)) dR) (bR (gx (eW (D6 (eW (lZ (bF (d5 (dH b)) (aR 2) aV) (iU (bF SN (aR 5) bD)))) (we (eW (lZ (bF (d5 (dH b)) (aR 2) aV) (iU (bF (mq (ba b)) (bT (ba b) (aR 1) bD) (bT (ba b) (aR 0) aV)))))))) (cD (cL aV)) dR) (bR (gx (eW (lZ (bF (d5 (dH b)) (aR 2) aV) (iU (bF (rV (ba b)) (bT (ba b) (aR 1) bD) (bT (ba b) (aR 0) aV))))) (cD (cL aV)) dR) (cD (cL gf))))))))))⟩
def eM:=rW 2 6 cT.1
def vM:KP 2 jn eM:=cT.2
def iD:CP 3 jO 2 5:=⟨_,λT=>jV ["_law_model","_law_deed_here","_law_word_here","_law_some","_law_room"] (T.d 53 rfl) λg _ _ _ _ _ _ b=>(bR (fD (i:=2) (bT (ba b) (aR 1) bD) g) (bR (gx (bF (d5 (dH b)) (aR 2) aV) (cD (cL (D7 (bF (mq (ba b)) (bT (ba b) (aR 1) bD) (bT (ba b) (aR 0) aV)) aV gf))) dR) (bR (fD (i:=3) (fB iP (qA (aS (bT (ba b) (aR 1) bD) bb)) (Jw (N':=["_law_k","_law_deed_here","_law_word_here"]) (ix:=[none,some 1,some 2]) (g0.of (N:=["_law_model","_law_deed_here","_law_word_here","_law_some","_law_room"]) (sc:=bI jO.st) rfl rfl (by decide+kernel)) (oR (ck (aS bD bb))) ⟨λs H ex=>⟨(fM 0 (by show List.Nodup (["_law_k","_law_deed_here","_law_word_here"]:List Str);decide+kernel)),(wg (bF (mq (ba b)) (aR 2) (ck (aS aV (aS aV (aS aV (aS aV (aS aV bb)))))))),(bT (ba b) (aR 1) (aR 0))⟩⟩ (fY 0))) g) (bR (gx (nu (Jw (N':=["_law_who","_law_model"]) (ix:=[none,some 0]) (g0.of (N:=["_law_model","_law_deed_here","_law_word_here","_law_some","_law_room"]) (sc:=bI jO.st) rfl rfl (by decide+kernel)) (oR (aR 3)) ⟨λs H ex=>⟨(fM 0 (by show List.Nodup (["_law_who","_law_model"]:List Str);decide+kernel)),(wg (bF (rV (ba b)) (aR 0) (bT (ba b) (aR 1) aV))),(aR 0)⟩⟩ (fY 0))) (cD (cL aV)) dR) (bR (fD (i:=4) (Ue (ba b) (bT (ba b) (aR 0) aV) (bT (ba b) (aR 1) bD)) g) (bR (gx (bF (d5 (dH b)) (aR 2) aV) (cD (cL (D7 (bF Dp (aR 4) gf) gf aV))) dR) (bR (gx (bF Dp (aR 4) gf) (cD (cL aV)) dR) (bR (gx (bF (d5 (dH b)) (aR 2) aV) (bR (gx (bF (mq (ba b)) (bT (ba b) (aR 1) bD) (bT (ba b) (aR 4) aV)) (cD (cL aV)) dR) (bR (gx (bF (mq (ba b)) (bT (ba b) (aR 1) bD) (bT (ba b) (aR 4) aV)) (cD (cL aV)) dR) (cD (cL (D7 (eW (lZ (bF (d5 (dH b)) (bT (ba b) (aR 4) aV) aV) (iU (bF (rV (ba b)) (bT (ba b) (aR 1) bD) (bT (ba b) (aR 4) aV))))) aV gf))))) dR) (bR (gx (bF (rV (ba b)) (bT (ba b) (aR 1) bD) (bT (ba b) (aR 4) aV)) (cD (cL aV)) dR) (bR (gx (bF (mq (ba b)) (aR 2) (ck (aS aV (aS aV (aS aV bb))))) (cD (cL Mc)) dR) (cD (cL (D7 (bF (d5 (dH b)) (aR 2) aV) gf (d7 (vM T) b (aS (aR 4) (aS (aR 1) bb))))))))))))))))⟩
def fH:=rW 2 5 iD.1
def Ew:KP 3 jO fH:=iD.2
def u6:CP 2 uQ 3 12:=⟨_,λT=>jV ["_law_cell_here","_law_model","_law_words_here","_law_names","_law_who","_law_whom","_law_room","_law_word_here","_law_some","_law_there","_law_number","_law_said_here"] (T.d 54 rfl) λg _ _ _ _ _ _ b=>(bR (fD (i:=3) (ck (aS aV (aS aV (aS aV (aS aV (aS aV bb)))))) g) (bR (gx (bF (d5 (dH b)) (d7 (jD T) b (aS (aR 0) (aS bD (aS bD bb)))) bD) (cD (fD (i:=3) (ck (aS aV (aS aV (aS aV bb)))) g)) dR) (bR (fD (i:=4) (bT (ba b) (aR 3) (d7 (jD T) b (aS (aR 0) (aS bD (aS (cR jg T.len (aS (aR 3) bb)) bb))))) g) (bR (fD (i:=5) (bT (ba b) (aR 3) (d7 (jD T) b (aS (aR 0) (aS bD (aS (cR jg T.len (aS (aR 3) bb)) bb))))) g) (bR (fD (i:=6) (bT (ba b) (ck (aS aV (aS aV (aS aV (aS aV bb))))) (d7 (jD T) b (aS (aR 0) (aS bD (aS bD bb))))) g) (bR (fD (i:=7) (bT (ba b) (aR 2) (d7 (jD T) b (aS (aR 0) (aS bD (aS (cR jg T.len (aS (aR 2) bb)) bb))))) g) (bR (gx (bF (mq (ba b)) (aR 7) (ck (aS aV (aS aV (aS aV (aS aV bb)))))) (cD (cL (wj (ck (aS (aR 7) (aS (aR 4) (aS (aR 6) bb)))) qC (qD (fB iP bD (fc X2 T.int (aS (AG (IK (dH b)) (aR 7) aV) bb))))))) dR) (bR (gx (bF (d5 (dH b)) (aR 7) aV) (bR (fD (i:=8) (qA (aS (ck (aS aV (aS aV bb))) (aS (ck (aS aV (aS aV bb))) (aS (ck (aS aV (aS aV bb))) bb)))) g) (bR (fD (i:=8) (fB iP (aR 8) (qA (aS (ck (aS aV (aS aV bb))) (aS (ck (aS aV (aS aV bb))) (aS (ck (aS aV (aS aV bb))) bb))))) g) (cD (cL (fB iP (ck (aS (aR 7) (aS (aR 4) (aS (aR 6) bb)))) (bT (ba b) (aR 8) (d7 (jD T) b (aS (aR 0) (aS bD (aS bD bb)))))))))) dR) (bR (gx (bF (d5 (dH b)) (aR 7) aV) (cD (cL (ck (aS (aR 7) (aS (aR 4) (aS (aR 6) (aS (aR 5) (aS (bT (ba b) (ck (aS aV (aS aV (aS aV (aS aV bb))))) (d7 (jD T) b (aS (aR 0) (aS bD (aS bD bb))))) bb)))))))) dR) (bR (gx (bF (mq (ba b)) (aR 7) (ck (aS aV (aS aV (aS aV (aS aV bb)))))) (cD (cL (ck (aS (aR 7) (aS (aR 4) (aS (aR 6) (aS (aR 5) bb))))))) dR) (bR (fD (i:=9) (bT (ba b) (L9 (ba b) (bT (ba b) (aR 1) aV) (aR 6) (L8 (BN aV (qA bb) QK))) aV) g) (bR (fD (i:=10) (d7 (jD T) b (aS (aR 0) (aS bD (aS (fB iP (cR jg T.len (aS (aR 9) bb)) bD) bb)))) g) (bR (O_ (i:=11) (N':=["_law_row_here"]) (ix:=[none]) (g0.of (N:=["_law_cell_here","_law_model","_law_words_here","_law_names","_law_who","_law_whom","_law_room","_law_word_here","_law_some","_law_there","_law_number","_law_said_here"]) (sc:=bI uQ.st) rfl rfl (by decide+kernel)) (oR (aR 9)) ⟨λs H ex=>⟨(fM 0 (by show List.Nodup (["_law_row_here"]:List Str);decide+kernel)),(wg (bF (d5 (dH b)) (bT (ba b) (aR 0) bD) aV)),(bT (ba b) (aR 0) bD)⟩⟩ (fY 0) g) (bR (gx (eW (lZ (nu (aR 11)) (iU (bF SM (fB Dk (aR 0) bD) bD)))) (cD (fD (i:=10) (bT (ba b) (aR 11) (d7 (jD T) b (aS (aR 0) (aS bD (aS (cR jg T.len (aS (aR 11) bb)) bb))))) g)) dR) (bR (gx (bF (d5 (dH b)) (aR 7) aV) (cD (cL (ck (aS (aR 7) (aS (aR 4) (aS (aR 6) (aS Mc (aS (bT (ba b) (ck (aS gf (aS gf (aS (aR 10) bb)))) (d7 (jD T) b (aS (aR 0) (aS bD (aS bD bb))))) bb)))))))) dR) (bR (gx (bF (d5 (dH b)) (aR 7) aV) (cD (cL (ck (aS (aR 7) (aS (aR 4) (aS (aR 6) (aS (aR 10) (aS Mc bb)))))))) dR) (cD (cL (ck (aS (aR 7) (aS (aR 4) (aS (aR 6) (aS (aR 10) bb)))))))))))))))))))))))⟩
def Ex:=rW 3 12 u6.1
def ML:KP 2 uQ Ex:=u6.2
noncomputable def fT:CS 7 y_ 2 3:=⟨_,λT=>f9 ["_law_hall_here","_law_deed_here","_law_word_here"] (T.d 55 rfl) λg _ _ _ _ _ _ b=>(bp (g7 (i:=2) (bh (bT (ba b) (aR 1) bD)) g) (bp (fh (cp (bF (d5 (dH b)) (aR 2) aV)) (bM (fk (cE (wm T) b (aX (aR 0)) (aW (bh (bT (ba b) (aR 1) bD)) bw)))) dz) (bp (fh (cp (bF (d5 (dH b)) (aR 2) aV)) (bM (fk (cE (Ca T) b (aX (aR 0)) (aW (bh (bT (ba b) (aR 1) bD)) (aW (bh (bT (ba b) (aR 1) bD)) bw))))) dz) (bp (fh (cp (bF (d5 (dH b)) (aR 2) aV)) (bM (fk (cE (Cf T) b (aX (aR 0)) (aW (bh (bT (ba b) (aR 1) bD)) (aW (bh (bT (ba b) (aR 1) bD)) bw))))) dz) (bp (fh (cp (bF (d5 (dH b)) (aR 2) aV)) (bM (fk (cE (Ci T) b (aX (aR 0)) (aW (bh (bT (ba b) (aR 1) bD)) (aW (bh (bT (ba b) (aR 1) bD)) bw))))) dz) (bp (fh (cp (bF (d5 (dH b)) (aR 2) aV)) (bM (fk D8)) dz) (bp (fh (cp (bF (d5 (dH b)) (aR 2) aV)) (bM (fk D8)) dz) (bp (fh (cp (bF (d5 (dH b)) (aR 2) aV)) (bM (fk (cE (Ek T) b (aX (aR 0)) (aW (bh (bT (ba b) (aR 1) bD)) (aW (bh (bT (ba b) (aR 1) bD)) (aW (bh (bT (ba b) (aR 1) bD)) (aW (bh (bT (ba b) (aR 1) bD)) bw))))))) dz) (bp (fh (cp (bF (d5 (dH b)) (aR 2) aV)) (bM (fk (cE (F9 T) b (aX (aR 0)) (aW (bh (bT (ba b) (aR 1) bD)) (aW (bh (bT (ba b) (aR 1) bD)) (aW (bh (bT (ba b) (aR 1) bD)) bw)))))) dz) (bp (fh (cp (bF (d5 (dH b)) (aR 2) aV)) (bM (fk (cE (Ga T) b (aX (aR 0)) (aW (bh (bT (ba b) (aR 1) bD)) (aW (bh (bT (ba b) (aR 1) bD)) (aW (bh (bT (ba b) (aR 1) bD)) bw)))))) dz) (bp (fh (cp (bF (d5 (dH b)) (aR 2) aV)) (bM (fk (cE (Ck T) b (aX (aR 0)) (aW (bh (bT (ba b) (aR 1) bD)) (aW (bh (bT (ba b) (aR 1) bD)) (aW (bh (bT (ba b) (aR 1) bD)) bw)))))) dz) (bp (fh (cp (bF (d5 (dH b)) (aR 2) aV)) (bM (fk D8)) dz) (bp (fh (cp (bF (d5 (dH b)) (aR 2) aV)) (bM (fk D8)) dz) (bM (fk D8)))))))))))))))⟩
def gB:=fb 2 3 fT.1
def Ey:KS 7 y_ gB:=fT.2
noncomputable def nJ:CS 8 y' 2 5:=⟨_,λT=>f9 ["_law_hall_here","_law_deed_here","_law_kept","_law_answer","e"] (T.d 56 rfl) λb _ _ _ _ _ _ g=>(bp (g7 (i:=2) (bh gf) b) (bp (g7 (i:=3) (bh gf) b) (bp (Ut 5 (i:=4) T.Eg (λpn l=>(bM (g7 (i:=3) (g8 (Ey T) g (aW (aX (aR 0)) (aW (aX (aR 1)) bw))) b))) (λpn e=>(bM (g7 (i:=2) (aX (aR 4)) b))) b) (bp (fh (cp (bF Dp (aR 2) gf)) (bM (fk (aX (aR 3)))) dz) (bM (fk (bh (d7 (MJ T) g (aS (aR 2) bb)))))))))⟩
def qP:=fb 2 5 nJ.1
def MM:KS 8 y' qP:=nJ.2
def u7(r:List Tr->Rs Tr):CR 0 uR 2 2 r:=⟨_,λT g G=>jV ["_law_found","_law_due"] (T.d 57 rfl) λ_ _ _ _ _ _ _ b=>(bR (gx (nu (cR Ad T.isinstance (aS (aR 1) (aS (D5 T.tuple) bb)))) (bR (gx (eW (D6 (yW (nu (cR Ad T.isinstance (aS (aR 0) (aS (D5 T.tuple) bb))))) (we (bF (IK (dH b)) (cR jg T.len (aS (aR 0) bb)) (cR jg T.len (aS (aR 1) bb)))))) (cD (cL yV)) dR) (cD (cL (cR (W5 rfl) T.all (aS (Jw (N':=["_law_one","_law_other"]) (ix:=[none,none]) (g0.of (N:=["_law_found","_law_due"]) (sc:=bI uR.st) rfl rfl (by decide+kernel)) (YB T.zip (aS (aR 0) (aS (aR 1) bb))) ⟨λs H ex=>⟨(Ht (is:=[0,1]) (qB (i:=0) (qB (i:=1) Hs (by show List.Nodup (["_law_one","_law_other"]:List Str);decide+kernel)) (by show List.Nodup (["_law_one","_law_other"]:List Str);decide+kernel))),AH,(d7 G b (aS (aR 0) (aS (aR 1) bb)))⟩⟩ (Fc [0,1])) bb))))) dR) (bR (gx (bF Dp (aR 1) gf) (cD (cL (AG Dp (aR 0) gf))) dR) (bR (gx (eW (D6 (nu (cR Ad T.isinstance (aS (aR 1) (aS (D5 T.bool) bb)))) (we (nu (cR Ad T.isinstance (aS (aR 0) (aS (D5 T.bool) bb))))))) (cD (cL (L6 (cR Ad T.isinstance (aS (aR 1) (aS (D5 T.bool) bb))) (L6 (cR Ad T.isinstance (aS (aR 0) (aS (D5 T.bool) bb))) (Rb (AG (d5 (dH b)) (aR 0) (aR 1))))))) dR) (cD (cL (L6 (cR Tu T.isinstance (aS (aR 0) (aS (ck (aS (D5 T.int) (aS (D5 T.str) bb))) bb))) (Rb (AG (d5 (dH b)) (aR 0) (aR 1)))))))))⟩
def fF:Nat->List Tr->Rs Tr
 |0=>λ_=>.bad
 |n+1=>rW 2 2 (u7 (fF n)).1
theorem kM{P:Program}{w:World}{K:Frag}{mg:Str->Option Value}{base:Heap}(T:Ri K w mg):∀n:Nat,yZ P w K mg base mH (0+n) uR (spT K (fF n))
 |0=>abi (T.d 57 rfl)
 |n+1=>(u7 _).2 T (mU ..) (kM T n)
noncomputable def nK:CS 9 za 3 4:=⟨_,λT=>f9 ["_law_hall_here","_law_model","_law_deed_here","_law_due"] (T.d 58 rfl) λg _ _ _ _ _ _ b=>(bp (g7 (i:=3) (bh (d7 (Ew T) b (aS (aR 1) (aS (aR 2) bb)))) g) (bp (fh (cp (bF Dp (aR 3) gf)) (bM (g7 (i:=3) (g8 (Eu T) b (aW (aX (aR 1)) (aW (aX (aR 2)) bw))) g)) dz) (bM (fk (g8 (kM T 5).toZ b (aW (g8 (MM T) b (aW (aX (aR 0)) (aW (aX (aR 2)) bw))) (aW (aX (aR 3)) bw)))))))⟩
def jQ:=fb 3 4 nK.1
def Ez:KS 9 za jQ:=nK.2
noncomputable def EA:CS 8 zb 2 4:=⟨_,λT=>f9 ["_law_hall_here","_law_model","_law_who","_law_deed_here"] (T.d 59 rfl) λg _ _ _ _ _ _ b=>(bp (Hw (oR (ck (aS aV (aS aV (aS aV (aS aV (aS aV bb))))))) (fM 2 g) (fY 2) (bM (cc (cE (wm T) b (aX (aR 0)) (aW (aX (aR 2)) bw))))) (bM (Hw (oR (ck (aS (ck (aS aV (aS aV (aS aV bb)))) (aS (ck (aS aV (aS aV (aS aV bb)))) (aS (ck (aS aV (aS aV (aS aV bb)))) (aS (ck (aS aV (aS aV (aS aV bb)))) bb)))))) (fM 3 g) (fY 3) (bp (cc (g8 (Ey T) b (aW (aX (aR 0)) (aW (aX (aR 3)) bw)))) (bM (cc (g8 (Eu T) b (aW (aX (aR 1)) (aW (aX (aR 3)) bw)))))))))⟩
def EB:=fb 2 4 EA.1
def MN:KS 8 zb EB:=EA.2
def vN:CP 6 nz 2 6:=⟨_,λT=>jV ["_law_hall_here","_law_model","_law_name","_law_room","_law_roles","_law_due"] (T.d 60 rfl) λg _ _ _ _ _ _ b=>(bR (Ug (Hv (bT (ba b) (aR 1) aV)) (fM 2 g) (bR (fD (i:=3) (bT (ba b) (bT (ba b) (aR 1) aV) (aR 2)) g) (bR (fD (i:=4) (fc hZ T.tuple (aS (Jw (N':=["_law_who","_law_room"]) (ix:=[none,some 3]) (g0.of (N:=["_law_hall_here","_law_model","_law_name","_law_room","_law_roles","_law_due"]) (sc:=bI nz.st) rfl rfl (by decide+kernel)) (oR (cR (jL rfl) T.sorted (aS (bT (ba b) (aR 3) aV) bb))) ⟨λs H ex=>⟨(fM 0 (by show List.Nodup (["_law_who","_law_room"]:List Str);decide+kernel)),AH,(ck (aS (aR 0) (aS (bT (ba b) (bT (ba b) (aR 1) aV) (aR 0)) bb)))⟩⟩ (fY 0)) bb)) g) (bR (gx (yW (nu (d7 (kM T 5) b (aS (ck (aS (jW (Em T) b (aR 0) (aS (aR 2) bb)) (aS (jW (Cp T) b (aR 0) (aS (aR 2) bb)) bb))) (aS (ck (aS (fc hZ T.tuple (aS (bT (ba b) (aR 3) aV) bb)) (aS (aR 4) bb))) bb))))) (cD (cL yV)) dR) (bR (gx (yW (nu (d7 (kM T 5) b (aS (jW (zM T) b (aR 0) (aS (aR 2) bb)) (aS (fc hZ T.tuple (aS (cR (jL rfl) T.sorted (aS (bT (ba b) (aR 3) aV) bb)) bb)) bb))))) (cD (cL yV)) dR) (bR (gx (yW (nu (d7 (kM T 5) b (aS (jW (Cq T) b (aR 0) (aS (aR 2) bb)) (aS (fc hZ T.tuple (aS (Ui T.sorted T.set (bT (ba b) (aR 3) aV)) bb)) bb))))) (cD (cL yV)) dR) (cD (gx (nu (Jw (N':=["_law_what","_law_name","_law_room","_law_hall_here"]) (ix:=[none,some 2,some 3,some 0]) (g0.of (N:=["_law_hall_here","_law_model","_law_name","_law_room","_law_roles","_law_due"]) (sc:=bI nz.st) rfl rfl (by decide+kernel)) (oR (ck (aS aV (aS aV (aS aV bb))))) ⟨λs H ex=>⟨(fM 0 (by show List.Nodup (["_law_what","_law_name","_law_room","_law_hall_here"]:List Str);decide+kernel)),(wg (bF (IK (dH b)) (jW (ze T) b (aR 3) (aS (aR 1) (aS (aR 0) bb))) (bT (ba b) (aR 2) (aR 0)))),bD⟩⟩ (fY 0))) (cD (cL yV)) dR)))))))) (bR (fD (i:=5) (ck (aS (fc hZ T.tuple (aS (cR (jL rfl) T.sorted (aS (bT (ba b) (aR 1) aV) bb)) bb)) (aS (fc hZ T.tuple (aS (cR (jL rfl) T.sorted (aS (bT (ba b) (aR 1) aV) bb)) bb)) bb))) g) (cD (cL (d7 (kM T 5) b (aS (ck (aS (rj (Cm T) b (aR 0)) (aS (rj (zK T) b (aR 0)) bb))) (aS (aR 5) bb)))))))⟩
def AR:=rW 2 6 vN.1
def JJ:KP 6 nz AR:=vN.2
noncomputable def HQ:CZ 10 Ed 1 7:=⟨_,λT=>abh ["_law_script","_law_hall_here","_law_model","_law_some","_law_deed_here","_law_words_here","_law_k"] (T.d 61 rfl) λg _ _ _ _ _ _ b=>(bp (g7 (i:=1) (Ph (wH T) T.UG b) g) (bp (g7 (i:=2) (g8 (JH T) b (aW (bh (ck (aS aV (aS aV (aS aV (aS aV (aS aV bb))))))) bw)) g) (bp (cc (g8 (MN T) b (aW (aX (aR 1)) (aW (aX (aR 2)) bw)))) (bp (g7 (i:=3) (gy (yX (aS (ck (aS aV (aS aV (aS aV (aS aV (aS aV bb)))))) (aS (ck (aS aV (aS aV (aS aV bb)))) bb)))) g) (bp (Uw (Uv (aR 3) (qA (aS (ck (aS aV (aS aV (aS aV (aS aV (aS aV bb)))))) bb))) (fM 4 g) (fY 4) (bM (fh (Mb (Ma (g8 (Ez T) b (aW (aX (aR 1)) (aW (aX (aR 2)) (aW (aX (aR 4)) bw)))))) (bM (fk (bh yV))) dz))) (bp (g7 (i:=5) (bh (ck (aS aV (aS aV (aS aV (aS aV (aS aV (aS aV (aS aV (aS aV bb)))))))))) g) (bp (Hw (L7 T.range (aS bD bb)) (fM 6 g) (fY 6) (bp (g7 (i:=4) (bh (d7 (ML T) b (aS (fB iP (d7 (MK T) b (aS (aR 0) (aS (fB Dk (aR 6) bD) bb))) (fB K1 bD (aR 6))) (aS (aR 2) (aS (aR 5) bb))))) g) (bM (fh (Mb (Ma (g8 (Ez T) b (aW (aX (aR 1)) (aW (aX (aR 2)) (aW (aX (aR 4)) bw)))))) (bM (fk (bh yV))) dz)))) (bM (fk (bh (d7 (JJ T) b (aS (aR 1) (aS (aR 2) bb)))))))))))))⟩
def zh:=Dw 1 7 HQ.1
def YZ:KP 10 Ed zh:=HQ.2
section
variable {A:Ab}{rk en ch bn iv:List (Key×Tr)}
def u9{a_ c7:Str}{ps:List Tr}(h:bG A aN rows rk en ch bn iv)(f:fi rows rk en ch bn iv)(q:rows.length<dZ)(hp:3+ps.length<=dZ)(ht:nc ps=true):
  nC [.at aN,.str a_,.str c7,.tup ps] A=.ok (.int (rows.length+1)) (A.set (aN+1) (.lst (rows++[.tup (.int (rows.length+1):: .str a_:: .str c7::ps)]))):=by
 show cI (gO.1 [.sh (.at aN),.sh (.str a_),.sh (.str c7),.sh (.tup ps),.no] A)=_;unfold gO;have b:vp (.tup [.int (rows.length+1),.str a_,.str c7]) (.tup ps)=.ok (.tup (.int (rows.length+1):: .str a_:: .str c7::ps)):=aY hp;have g:∀A,vZ (.ok (.tup (.int (rows.length+1):: .str a_:: .str c7::ps))) A=.ok (.tup (.int (rows.length+1):: .str a_:: .str c7::ps)) A:=λA=>aY (by simpa only[JX,nc,pJ]using ht);simp only[ev,cP,fg,fE,h.abj f,h.abl,cF,b_,BP h.lg,BQ h.lg q,b,g]
noncomputable abbrev iI(rows:List Tr)(a_ c7:Str)(ps:List Tr):Tr:=.tup (.int (rows.length+1):: .str a_:: .str c7::ps)
def PD{a_ c7 role:Str}(h:bG A aN rows rk en ch bn iv)(f:fi rows rk en ch bn iv)(q:rows.length<dZ)(hr:rk.length<dZ)(he:en.length<dZ):
  ∃A',se [.at aN,.str a_,.str c7,.str role] A=.ok .cA A'/\Ext A A' [(aN+6,.bW (iT iv (.inr a_))),(aN+2,.bW (ll rk (.inr a_) (.str role))),(aN+3,.bW (ll en (.inr a_) (.int (rows.length+1)))),(aN+1,.lst (rows++[iI rows a_ c7 []]))]/\bG A' aN (rows++[iI rows a_ c7 []]) (ll rk (.inr a_) (.str role)) (ll en (.inr a_) (.int (rows.length+1))) ch bn (iT iv (.inr a_)):=by
 have h1:=h.y0 (Ext.put (o:=.lst (rows++[iI rows a_ c7 []])) h.lg);have h2:=h1.abo (Ext.put (o:=.bW (ll en (.inr a_) (.int (rows.length+1)))) h1.en);have b:=h2.Pk (Ext.put (o:=.bW (ll rk (.inr a_) (.str role))) h2.rk);refine⟨_,?_,((Ext.put h.lg).trans (Ext.put h1.en)).trans ((Ext.put h2.rk).trans (Ext.put b.iv)),b.abp (Ext.put b.iv)⟩;show cI (jy.1 [.sh (.at aN),.sh (.str a_),.sh (.str c7),.sh (.str role)] A)=_;unfold jy;have g:∀A,vZ (.ok (.tup [])) A=.ok (.tup []) A:=λA=>rfl;have w:=u9 (a_:=a_) (c7:=c7) (ps:=[]) h f q (by decide) rfl;simp only[ev,cP,fg,fE,h.call (m:="write_row") rfl,g,w,n_,h1.abm,mC h1.en he,h2.Pj,mC h2.rk hr,b.abn,HC b.iv,HD _ b.iv]
def MO{a_ d4 role:Str}(h:bG A aN rows rk en ch bn iv)(f:fi rows rk en ch bn iv)(q:rows.length<dZ)(hr:rk.length<dZ):
  ∃A',nD [.at aN,.str a_,.str d4,.str role] A=.ok .cA A'/\Ext A A' [(aN+2,.bW (ll rk (.inr d4) (.str role))),(aN+1,.lst (rows++[iI rows a_ "role" [.str d4,.str role]]))]/\bG A' aN (rows++[iI rows a_ "role" [.str d4,.str role]]) (ll rk (.inr d4) (.str role)) en ch bn iv:=by
 have h1:=h.y0 (Ext.put (o:=.lst (rows++[iI rows a_ "role" [.str d4,.str role]])) h.lg);refine⟨_,?_,(Ext.put h.lg).trans (Ext.put h1.rk),h1.Pk (Ext.put h1.rk)⟩;show cI (gP.1 [.sh (.at aN),.sh (.str a_),.sh (.str d4),.sh (.str role)] A)=_;unfold gP;have b:∀A,vZ (.ok (.tup [.str d4,.str role])) A=.ok (.tup [.str d4,.str role]) A:=λA=>rfl;have w:=u9 (a_:=a_) (c7:="role") (ps:=[.str d4,.str role]) h f q (by show 3+2<=dZ;decide) rfl;simp only[ev,cP,fg,fE,h.call (m:="write_row") rfl,b,w,n_,h1.Pj,mC h1.rk hr]
def MP(h:bG A aN rows rk en ch bn iv)(f:fi rows rk en ch bn iv)(hw:a_.length<=1000):
  lD [.at aN,.str a_] A=if(e_ rk (.inr a_)).isSome=true then .ok .cA A else .exc (.str "NotIn") A:=by
 show cI (i8.1 [.sh (.at aN),.sh (.str a_)] A)=_;unfold i8;simp only[ev,cP,fg,fE,h.rN f];cases e:(e_ rk (.inr a_)).isSome with
 |true=>simp only[dg,ev,cj]
 |false=>
  have s:=BU (z:=a_) (y:=" is not in the room") hw (by decide+kernel);simp only[d9,ev,cP,fg,fE,s,cH,cg]
end
noncomputable abbrev gZ:List Str:=["guest","speaker","keeper","owner"]
noncomputable def lvl(r:Str):Int:=if r="owner"then 3 else if r="keeper"then 2 else if r="speaker"then 1 else 0
def kK{r:Str}(h:r∈gZ):w6 [.str r]=.ok (.int (lvl r)):=by
 have:r="guest"\/r="speaker"\/r="keeper"\/r="owner":=by simpa using h
 rcases this with rfl|rfl|rfl|rfl<;>rfl
structure JK(aT:List (Str×Str))(z:Str):Prop where
 ex:∃j r,aT[j]?=some (z,r)/\(∀p∈aT,lvl p.2<=lvl r)/\∀(a:Nat) (p:Str×Str),a<j->aT[a]?=some p->lvl p.2<lvl r
theorem JK.one {y z:Str}(a:JK aT y)(b:JK aT z):y=z:=by
 obtain⟨j,r,h1,h2,n⟩:=a.ex;obtain⟨k,s,g1,g2,g3⟩:=b.ex;have g:=h2 _ (d8 g1);have l:=g2 _ (d8 h1);rcases Nat.lt_trichotomy j k with q|q|q
 ·have:=g3 j _ q h1;simp only at g l this;omega
 ·subst q;rw[h1]at g1;cases g1;rfl
 ·have:=n k _ q g1;simp only at g l this;omega
section
variable {A:Ab}{i:Nat}{ch bn iv:List (Key×Tr)}{ent:Str->Int}
structure di(aT:List (Str×Str))(ents:List (Str×Int))(ent:Str->Int):Prop where
 rl:∀p∈aT,p.2∈gZ
 nd:(aT.map (·.1)).Nodup
 sh:∀p∈aT,p.1.length<=1000
 en:∀p∈aT,ents.lookup p.1=some (ent p.1)
 up:(aT.map fun p=>ent p.1).Pairwise (· <·)
theorem ij:∀{aT:List (Str×Str)},(aT.map (·.1)).Nodup->∀p∈aT,aT.lookup p.1=some p.2
 |q::aT,nd,p,hp=>by
  rw[bB,gF]at nd;rw[cQ];rcases bH.mp hp with rfl|hp
  ·simp
  ·have:(p.1==q.1)=false:=by
    simp only[jr];intro e;exact nd.1 (e▸f' hp)
   rw[this];exact ij nd.2 p hp
def PH{p:Str×Str}(h:bG A i rows (dP .str aT) (dP .int ents) ch bn iv)(f:fi rows (dP .str aT) (dP .int ents) ch bn iv)(k:di aT ents ent)(hp:p∈aT):
  i7 [aZ 5 A (.at i),.str p.1]=.ok (.tup [.int (-(lvl p.2)),.int (ent p.1)]):=by
 show dC (kA.1 [.sh (aZ 5 A (.at i)),.sh (.str p.1)])=_;unfold kA;simp only[ev,cP,h.rN f,h.abk f,dS,ij k.nd p hp,k.en p hp,dq,lh,kK (k.rl p hp)]
theorem UI(h:bG A i rows (dP .str aT) (dP .int ents) ch bn iv)(f:fi rows (dP .str aT) (dP .int ents) ch bn iv)(k:di aT ents ent)(q:aT≠[]):
  ∃z,JK aT z/\Hq "Room" "claim" i7 (.ok (.lst (aT.map λp=>.str p.1))) (.ok (aZ 5 A (.at i)))=.ok (.str z):=by
 have L:0<aT.length:=tK.mpr q
 let key:Str->Int×Int:=λz=>(-(lvl ((aT.lookup z).getD "")),ent z)
 have r:∀p∈aT,key p.1=(-(lvl p.2),ent p.1):=λp hp=>by show(-(lvl ((aT.lookup p.1).getD "")),ent p.1)=_;rw[ij k.nd p hp];rfl
 have hs:keysOf i7 (aZ 5 A (.at i)) ((aT.map (·.1)).map .str)=some ((aT.map (·.1)).map key):=AJ λz hz=>by
  obtain⟨p,hp,rfl⟩:=cC.mp hz;rw[PH h f k hp,r p hp]
 let kf:Nat->Int×Int:=λa=>((aT.map (·.1)).map key).getD a (0,0)
 have l:∀a p,aT[a]?=some p->kf a=(-(lvl p.2),ent p.1):=λa p e=>by
  show((aT.map (·.1)).map key).getD a (0,0)=_;rw[eQ,cq,cq,e];exact r p (d8 e)
 have n:∀a b,a<b->b<=aT.length - 1->(kf a).2<(kf b).2:=λa b M hb=>by
  have g:b<aT.length:=by omega
  have I:a<aT.length:=by omega
  rw[l a _ (bZ I),l b _ (bZ g)];have:=List.pairwise_iff_getElem.mp k.up a b (by simpa using I) (by simpa using g) M;simpa using this
 obtain⟨S,h2⟩:=uM (kf:=kf) (aT.length - 1) n;have hb:=vD (kf:=kf) (aT.length - 1);have g:dt kf (aT.length - 1)<aT.length:=by omega
 refine⟨aT[dt kf (aT.length - 1)].1,⟨dt kf (aT.length - 1),aT[dt kf (aT.length - 1)].2,bZ g,λp hp=>?_,λa p ha e=>?_⟩,?_⟩
 ·obtain⟨a,ha,e⟩:=List.getElem_of_mem hp;have:=S a (by omega);rw[l _ _ (bZ g),l a p (by rw[bZ ha,e])]at this;simp only at this;omega
 ·have:=h2 a ha;rw[l _ _ (bZ g),l a p e]at this;simp only at this;omega
 ·show wc "Room" "claim" i7 (.lst (aT.map λp=>.str p.1)) (aZ 5 A (.at i))=_;rw[gX h.o]at hs⊢;rw[show(aT.map λp=>Tr.str p.1)=(aT.map (·.1)).map .str by rw[cO];rfl];refine Ms rfl (by simpa using L) hs ?_
  rw[show((aT.map (·.1)).map Tr.str).length=aT.length by simp];show((aT.map (·.1)).map Tr.str)[dt kf (aT.length - 1)]?=_
  rw[cq,cq,bZ g]
  rfl
inductive iE(rows:List Tr)(aT:List (Str×Str)):List Tr->List (Str×Str)->Prop
 |same:(aT=[]\/∃p∈aT,p.2="owner")->iE rows aT rows aT
 |zN (z:Str):JK aT z->(∀p∈aT,p.2≠"owner")->aT≠[]->iE rows aT (rows++[iI rows z "role" [.str z,.str "owner"]]) (fN aT z "owner")
theorem iE.one {r1 q:List Tr}{k1 k2:List (Str×Str)}(a:iE rows aT r1 k1)(b:iE rows aT q k2):r1=q/\k1=k2:=by
 cases a with
 |same h=>
  cases b with
  |same _=>exact⟨rfl,rfl⟩
  |zN z _ h2 l=>
   rcases h with h|⟨p,hp,e⟩
   ·exact absurd h l
   ·exact absurd e (h2 p hp)
 |zN z g h2 l=>
  cases b with
  |same h=>
   rcases h with h|⟨p,hp,e⟩
   ·exact absurd h l
   ·exact absurd e (h2 p hp)
  |zN y g' _ _=>cases g.one g';exact⟨rfl,rfl⟩
theorem Rj(h:bG A i rows (dP .str aT) (dP .int ents) ch bn iv)(f:fi rows (dP .str aT) (dP .int ents) ch bn iv)(k:di aT ents ent)(hl:rows.length<dZ)(hr:aT.length<dZ):
  ∃A' dm q,kc [.at i] A=.ok .cA A'/\iE rows aT dm q/\Ext A A' [(i+2,.bW (dP .str q)),(i+1,.lst dm)]/\bG A' i dm (dP .str q) (dP .int ents) ch bn iv:=by
 let P:Str->Bool:=λz=>aT.lookup z==some ("owner":Str)
 have h1:=h.e_0 (Ext.push (o:=.lst ((((aT.map (·.1)).filter P).map .str))));have r:Ext A (A++[.lst ((((aT.map (·.1)).filter P).map .str))]) [(i+2,.bW (dP .str aT)),(i+1,.lst rows)]:=(Ext.push.idem h.lg rfl).idem h.rk (gV (by omega));have g:∀p∈aT,P p.1=(p.2==("owner":Str)):=λp hp=>by show(aT.lookup p.1==some ("owner":Str))=_;rw[ij k.nd p hp];rfl
 have t1:aZ 5 (A++[Ao.lst (((aT.map (·.1)).filter P).map .str)]) (.at A.length)=.lst (((aT.map (·.1)).filter P).map .str):=by rw[lu ky,rn]
 show∃A' dm q,cI (fA.1 [.sh (.at i),.no,.no] A)=.ok .cA A'/\_;unfold fA;simp only[ev,cP,fg,fE,h.rN f,wY k.sh,map_fst];rw[ny (AK:=[.sh (aZ 5 A (.at i))]) P rfl (by simpa using du hr) rfl (λ_=>rfl) ?hC]
 case hC=>
  intro z hz;obtain⟨p,hp,rfl⟩:=cC.mp hz;simp only[ev,cP,h.rN f,dS,ij k.nd p hp,dq,lh,g p hp]
 simp only[uN nv,ev,cP,fg,fE,cF,b_,h1.rN f,t1,jX,bu];by_cases b:aT=[]
 ·subst b;exact⟨_,_,_,rfl,.same (.inl rfl),r,h1⟩
 have l:(decide ((0:Int)<(aT.length:Int)))=true:=hU (by have:=tK.mpr b;omega);simp only[l,ev,cP,fg];by_cases n:∃p∈aT,p.2="owner"
 ·have:((((aT.map (·.1)).filter P).length:Int)==0)=false:=by
   obtain⟨p,hp,e⟩:=n;have hm:p.1∈(aT.map (·.1)).filter P:=fJ.mpr ⟨f' hp,by rw[g p hp,e];exact bU _⟩;have:=List.length_pos_of_mem hm;simp only[jr];omega
  simp only[this,ev];exact⟨_,_,_,rfl,.same (.inr n),r,h1⟩
 ·have I:∀p∈aT,p.2≠"owner":=λp hp e=>n ⟨p,hp,e⟩;have:((aT.map (·.1)).filter P)=[]:=List.filter_eq_nil_iff.mpr λz hz=>by
   obtain⟨p,hp,rfl⟩:=cC.mp hz;rw[g p hp];simpa using I p hp
  obtain⟨z,hz,L⟩:=UI h1 f k b;obtain⟨A',q1,M,S⟩:=MO (a_:=z) (d4:=z) (role:="owner") h1 f hl (by rw[jX];exact hr);rw[map_fst]at L;have el:FC [.bW (dP .str aT)]=.ok (.lst ((aT.map (·.1)).map .str)):=by
   show(Dx (dP .str aT)).bind (λts=>Rs.ok (Tr.lst ts))=_;rw[HG λp hp=>cB (k.sh p hp) (by decide),map_fst];rfl
  have e9:((((aT.map (·.1)).filter P).length:Int)==0)=true:=by rw[this];rfl
  simp only[e9,ev,cP,fg,fE,h1.rN f,el,L,cF,b_,h1.call (m:="give_role") rfl,q1];rw[lx]at M S;exact⟨_,_,_,rfl,.zN z hz I b,Ext.past Ext.push M,S⟩
end
section
variable {A:Ab}{i:Nat}{chs:List (Str×Str)}{bn iv:List (Key×Tr)}{ent:Str->Int}{d:Str}
theorem lookup_none{α:Type}{z:Str}:∀{l:List (Str×α)},l.lookup z=none->∀p∈l,p.1≠z
 |q::l,h,p,hp=>by
  rw[cQ]at h;cases e:(z==q.1)with
  |true=>rw[e]at h;cases h
  |false=>
   rw[e]at h;rcases bH.mp hp with rfl|hp
   ·intro q;rw[q,bU]at e;cases e
   ·exact lookup_none h p hp
def qQ{α:Type}{l:List (Str×α)}{z:Str}{a:α}(h:l.lookup z=none):fN l z a=l++[(z,a)]:=by
 unfold fN;rw[bc];intro q;obtain⟨p,hp,e⟩:=xF.mp q;exact lookup_none h p hp (eR e)
def zk{α:Type}{z y:Str}{a:α}:∀{l:List (Str×α)},(fN l z a).lookup y=if y=z then some a else l.lookup y:=by
 intro l;unfold fN;split
 ·rename_i h
  induction l with
  |nil=>cases h
  |cons p l n=>
   rw[bB,cQ,cQ];by_cases hz:p.1=z
   ·rw[aY hz];by_cases g:y=z
    ·subst g;rw[aY rfl,hz];simp
    ·have L:(y==p.1)=false:=by simpa[hz]using g
     rw[bc g];simp only[L]
     clear n h
     induction l with
     |nil=>rfl
     |cons q l n=>
      rw[bB,cQ,cQ];by_cases I:q.1=z
      ·rw[aY I];have r:(y==q.1)=false:=by simpa[I]using g
       simp only[r];exact n
      ·rw[bc I];split
       ·rfl
       ·exact n
   ·rw[bc hz];have h2:(l.any λp=>decide (p.1=z))=true:=by
     rw[jt]at h;simpa[hz]using h
    cases e:(y==p.1)with
    |true=>
     have:y=p.1:=by simpa using e
     rw[bc (by rw[this];exact hz)]
    |false=>exact n h2
 ·rename_i h;rw[List.lookup_append];have M:l.lookup z=none:=by
   cases e:l.lookup z with
   |none=>rfl
   |some b=>
    exfalso;apply h
    clear h
    induction l with
    |nil=>cases e
    |cons p l n=>
     rw[cQ]at e;rw[jt];cases r:(z==p.1)with
     |true=>have:z=p.1:=by simpa using r
            simp[this]
     |false=>rw[r]at e;simp[n e]
  by_cases g:y=z
  ·subst g;rw[M,aY rfl];simp
  ·rw[bc g];have:(y==z)=false:=by simpa using g
   simp[List.lookup,this]
theorem di.enter {n:Int}{r:Str}(k:di aT ents ent)(q:aT.lookup a_=none)(gJ:∀p∈aT,ent p.1<n)(hw:a_.length<=1000)(hr:r∈gZ):di (fN aT a_ r) (fN ents a_ n) λz=>if z=a_ then n else ent z:=by
 rw[qQ q];have g:=lookup_none q;refine⟨λp hp=>?_,?_,λp hp=>?_,λp hp=>?_,?_⟩
 ·rcases dF.mp hp with hp|hp
  ·exact k.rl p hp
  ·cases de.mp hp;exact hr
 ·rw[iL,xA];refine⟨k.nd,by simp,λa l b hb=>?_⟩;obtain⟨p,hp,rfl⟩:=cC.mp l;cases(de.mp hb);exact g p hp
 ·rcases dF.mp hp with hp|hp
  ·exact k.sh p hp
  ·cases de.mp hp;exact hw
 ·rw[zk];rcases dF.mp hp with hp|hp
  ·rw[bc (g p hp),bc (g p hp)];exact k.en p hp
  ·cases de.mp hp;rw[aY rfl,aY rfl]
 ·rw[iL,List.pairwise_append];refine⟨?_,by simp,λa l b hb=>?_⟩
  ·have:(aT.map λp=>if p.1=a_ then n else ent p.1)=aT.map λp=>ent p.1:=f_ λp hp=>bc (g p hp);rw[this];exact k.up
  ·obtain⟨p,hp,rfl⟩:=cC.mp l;simp at hb;subst hb;rw[bc (g p hp)];exact gJ p hp
theorem di.leave (k:di aT ents ent):di (iA aT a_) ents ent:=by
 have s:(iA aT a_).Sublist aT:=List.filter_sublist;exact⟨λp hp=>k.rl p (s.subset hp),k.nd.sublist (s.map _),λp hp=>k.sh p (s.subset hp),λp hp=>k.en p (s.subset hp),k.up.sublist (s.map _)⟩
def zl{α:Type}{l:List (Str×α)}{z:Str}{a:α}(h:z∈l.map (·.1)):(fN l z a).map (·.1)=l.map (·.1):=by
 unfold fN;obtain⟨p,hp,e⟩:=cC.mp h;rw[aY (xF.mpr ⟨p,hp,hU e⟩),cO];exact f_ λq _=>by show(if q.1=z then(q.1,a)else q).1=q.1;split<;>rfl
def PK{α:Type}{l:List (Str×α)}{a:α}{p:Str×α}(h:p∈fN l a_ a):p=(a_,a)\/p∈l:=by
 unfold fN at h;split at h
 ·obtain⟨q,b,e⟩:=cC.mp h;split at e
  ·rename_i hz;left;rw[<-e,hz]
  ·right;rw[<-e];exact b
 ·rcases dF.mp h with h|h
  ·exact .inr h
  ·exact .inl (de.mp h)
theorem di.role {r:Str}(k:di aT ents ent)(h:a_∈aT.map (·.1))(hr:r∈gZ):di (fN aT a_ r) ents ent:=by
 have g:=zl (a:=r) h;have hm:∀p∈fN aT a_ r,∃q∈aT,q.1=p.1:=λp hp=>by
  have:p.1∈aT.map (·.1):=by rw[<-g];exact f' hp
  obtain⟨q,b,e⟩:=cC.mp this;exact⟨q,b,e⟩
 refine⟨λp hp=>?_,by rw[g];exact k.nd,λp hp=>?_,λp hp=>?_,?_⟩
 ·rcases PK hp with rfl|hp
  ·exact hr
  ·exact k.rl p hp
 ·obtain⟨q,b,e⟩:=hm p hp;rw[<-e];exact k.sh q b
 ·obtain⟨q,b,e⟩:=hm p hp;rw[<-e];exact k.en q b
 ·have:((fN aT a_ r).map λp=>ent p.1)=aT.map λp=>ent p.1:=by
   have n:∀l:List (Str×Str),(l.map λp=>ent p.1)=(l.map (·.1)).map ent:=λl=>by rw[cO];rfl
   rw[n,n,g]
  rw[this];exact k.up
def iE.MQ {dm:List Tr}{q:List (Str×Str)}(o:iE rows aT dm q)(k:di aT ents ent):di q ents ent:=by
 cases o with
 |same _=>exact k
 |zN z g _ _=>
  obtain⟨j,r,e,_⟩:=g.ex;exact k.role (cC.mpr ⟨_,d8 e,rfl⟩) (by decide+kernel)
end
section
variable {A:Ab}{bn iv:List (Key×Tr)}{ent:Str->Int}{d:Str}
def PL{us:List Tr}{rk en ch q en' ch' bn' iv':List (Key×Tr)}(f:fi rows rk en ch bn iv)(h1:gU q)(h2:gU en')(h3:gU ch')(h4:gU bn')(h5:gU iv'):fi (rows++[.tup us]) q en' ch' bn' iv':=⟨qF f.lg,h1,h2,h3,h4,h5⟩
def Y0:gU (dP .str aT):=uL λ_ _ _=>sQ
def flI:gU (dP .int ents):=uL λ_ _ _=>Mp
def MR{r:Str}(h:bG A aN rows (dP .str aT) (dP .int ents) (dP .str aO) bn iv)(f:fi rows (dP .str aT) (dP .int ents) (dP .str aO) bn iv)(hw:a_.length<=1000)(q:aT.lookup a_=some r):
  ff [.at aN,.str a_] A=.exc (.str "Known") A:=by
 show cI (dO.1 [.sh (.at aN),.sh (.str a_)] A)=_;unfold dO;have s:=BU (z:=a_) (y:=" is in the room") hw (by decide+kernel);simp only[ev,cP,fg,fE,h.rN f,eC,q,dq,kh,s]
def MS{r:Tr}(h:bG A aN rows (dP .str aT) (dP .int ents) (dP .str aO) bn iv)(f:fi rows (dP .str aT) (dP .int ents) (dP .str aO) bn iv)(hw:a_.length<=1000)(q:aT.lookup a_=none)(hb:e_ bn (.inr a_)=some r):
  ff [.at aN,.str a_] A=.exc (.str "Barred") A:=by
 show cI (dO.1 [.sh (.at aN),.sh (.str a_)] A)=_;unfold dO;have s:=BU (z:=a_) (y:=" is barred") hw (by decide+kernel);simp only[ev,cP,fg,fE,h.rN f,eC,q,tY,tL,h.Mr f,hb,kh,s]
def MT(h:bG A aN rows (dP .str aT) (dP .int ents) (dP .str aO) bn iv)(f:fi rows (dP .str aT) (dP .int ents) (dP .str aO) bn iv)(hw:a_.length<=1000)(q:aT.lookup a_=none)(hb:e_ bn (.inr a_)=none)(hd:aO.lookup ("door":Str)=some ("asked":Str))(hv:e_ iv (.inr a_)=none):
  ff [.at aN,.str a_] A=.exc (.str "NotAsked") A:=by
 show cI (dO.1 [.sh (.at aN),.sh (.str a_)] A)=_;unfold dO;have s:=BU (z:=a_) (y:=" is not asked") hw (by decide+kernel);have b:aO.lookup (Str.ofString "door")=some (Str.ofString "asked"):=hd;simp only[ev,cP,fg,fE,h.rN f,eC,q,tY,tL,h.Mr f,hb,h.YT f,dS,b,dq,lh,bU,h.YU f,hv,d9,s]
def PM(h:bG A aN rows (dP .str aT) (dP .int ents) (dP .str aO) bn iv)(f:fi rows (dP .str aT) (dP .int ents) (dP .str aO) bn iv)(k:di aT ents ent)(gJ:∀p∈aT,ent p.1<rows.length+1)(hl:rows.length+1<dZ)(hr':aT.length+1<dZ)(he:ents.length<dZ)(hw:a_.length<=1000)
  (hr:aT.lookup a_=none) (hb:e_ bn (.inr a_)=none) (hd:aO.lookup ("door":Str)=some d) (q:d≠"asked"\/(e_ iv (.inr a_)).isSome=true):
  ∃A' dm dU,ff [.at aN,.str a_] A=.ok .cA A'/\iE (rows++[iI rows a_ "enter" []]) (fN aT a_ "guest") dm dU/\Ext A A' ([(aN+2,.bW (dP .str dU)),(aN+1,.lst dm)]++[(aN+6,.bW (iT iv (.inr a_))),(aN+2,.bW (dP .str (fN aT a_ "guest"))),(aN+3,.bW (dP .int (fN ents a_ (rows.length+1)))),(aN+1,.lst (rows++[iI rows a_ "enter" []]))])
   /\bG A' aN dm (dP .str dU) (dP .int (fN ents a_ (rows.length+1))) (dP .str aO) bn (iT iv (.inr a_)):=by
 obtain⟨A1,l,g,b⟩:=PD (a_:=a_) (c7:="enter") (role:="guest") h f (by omega) (by rw[jX];omega) (by rw[jX];exact he);rw[lx,lx]at g b;have hs:(fN aT a_ "guest").length<dZ:=by rw[qQ hr,fm];exact hr'
 obtain⟨A2,dm,dU,s1,s2,s3,s4⟩:=Rj b (PL f Y0 flI f.ch f.bn (Jz f.iv)) (k.enter (n:=rows.length+1) hr gJ hw (by decide+kernel)) (by rw[fm];exact hl) hs;refine⟨A2,dm,dU,?_,s2,g.trans s3,s4⟩;show cI (dO.1 [.sh (.at aN),.sh (.str a_)] A)=_;unfold dO;have r:aO.lookup (Str.ofString "door")=some d:=hd;have I:IB (.ok (d==("asked":Str))) (.ok (!(e_ iv (.inr a_)).isSome))=.ok false:=by
  rcases q with q|q
  ·rw[show(d==("asked":Str))=false by simpa using q];rfl
  ·rw[q];cases(d==("asked":Str))<;>rfl
 simp only[ev,cP,fg,fE,h.rN f,eC,hr,tY,tL,h.Mr f,hb,h.YT f,dS,r,dq,lh,h.YU f,I,h.call (m:="let_in") rfl,l,b.call (m:="see_to_owner") rfl,s1]
end
section
variable {A:Ab}
def PN(h:cx A bf a9)(hw:a_.length<=1000):iu [.at 0,.tup [.str a_]] A=if(bf.lookup a_).isSome=true then .ok .cA A else .exc (.str "NoPerson") A:=by
 show cI (dJ.1 [.sh (.at 0),.sh (.tup [.str a_]),.no] A)=_;unfold dJ;have s:=BU (z:="nobody is called ") (y:=a_) (by decide+kernel) hw;simp only[ev,cP,fg,fE,FU,cF,b_,h.Pm,eC,ki];cases(bf.lookup a_).isSome with
 |true=>simp only[dg,ev,cP,cj]
 |false=>simp only[d9,ev,cP,fg,fE,s,cH,cg]
def HR(h:cx A bf a9)(q:a9.lookup aP=some aN):uS [.at 0,.str aP] A=.ok (.at aN) A:=by
 show cI (kB.1 [.sh (.at 0),.sh (.str aP)] A)=_;unfold kB;simp only[ev,cP,fg,fE,h.UA,eC,q,dq,kh,dg,h.abq,kz,BV h.pl,dS,lh]
def Gb(h:cx A bf a9)(hw:a_.length<=1000)(q:a9.lookup aP=some aN):jo [.at 0,.tup [.str a_],.str aP] A=if(bf.lookup a_).isSome=true then .ok (.at aN) A else .exc (.str "NoPerson") A:=by
 show cI (eK.1 [.sh (.at 0),.sh (.tup [.str a_]),.sh (.str aP)] A)=_;unfold eK;simp only[ev,cP,fg,fE,h.call (m:="need_people") rfl,PN h hw];cases(bf.lookup a_).isSome with
 |true=>simp only[cj,ev,cP,fg,fE,h.call (m:="place") rfl,HR h q]
 |false=>simp only[cH,cg,ev]
def MU(h:cx A bf a9)(hw:a_.length<=1000)(q:a9.lookup aP=some aN)(hF:uH "Room" "enter" ff (.ok (.at aN) A) (λA=>.ok [.str a_] A)=ff [.at aN,.str a_] A):
  oK [.at 0,.str a_,.str aP] A=if(bf.lookup a_).isSome=true then cI (rX (ff [.at aN,.str a_] A) [.sh (.at 0),.sh (.str a_),.sh (.str aP)])else .exc (.str "NoPerson") A:=by
 show cI (kD.1 [.sh (.at 0),.sh (.str a_),.sh (.str aP)] A)=_;unfold kD;have b:∀A,vZ (.ok (.tup [.str a_])) A=.ok (.tup [.str a_]) A:=λA=>rfl;simp only[ev,cP,fg,fE,h.call (m:="place_for") rfl,b,Gb h hw q];cases(bf.lookup a_).isSome with
 |true=>simp only[cj];rw[hF]
 |false=>simp only[cH,cg];rfl
end
section
variable {A:Ab}{ks kb ka n:Nat}{v p c7:Str}
theorem vO{ps:List Tr}(h:bK A aN ks kb ka rows bj stays bx aQ aP v p)(f:fR rows)(q:rows.length<dZ)(hp:2+ps.length<=dZ)(ht:nc ps=true):
  HN [.at aN,.str a_,.tup ps] A=.ok (.int (rows.length+1)) (A.set (aN+1) (.lst (rows++[.tup (.int (rows.length+1):: .str a_::ps)]))):=by
 show cI (w8.1 [.sh (.at aN),.sh (.str a_),.sh (.tup ps)] A)=_;unfold w8;have h1:=h.FW (Ext.put (o:=.lst (rows++[.tup (.int (rows.length+1):: .str a_::ps)])) h.rw);have b:vp (.tup [.int (rows.length+1),.str a_]) (.tup ps)=.ok (.tup (.int (rows.length+1):: .str a_::ps)):=aY hp;have g:∀A,vZ (.ok (.tup (.int (rows.length+1):: .str a_::ps))) A=.ok (.tup (.int (rows.length+1):: .str a_::ps)) A:=λA=>aY (by simpa only[JX,nc,pJ]using ht);have l:((rows++[Tr.tup (.int (rows.length+1):: .str a_::ps)]).length:Int)=rows.length+1:=by simp
 simp only[ev,cP,fg,fE,kz,h.abr,BP h.rw,h.UB (n:=3) f,b,g,BQ h.rw q,h1.UB (n:=3) (qF f),l]
theorem MV(h:bK A aN ks kb ka rows bj stays bx aQ aP v p)(f:fR rows)(hl:rows.length<dZ)(hs:stays.length<dZ)(hr:bj.length<dZ)(ha:aQ.length<=dZ):
  ∃A' Y1 f1,vL [.at aN,.str a_,.str c7] A=.ok .cA A'/\A.length<=Y1/\Ext A A' [(aN,.bW (dP id (AL aN ks kb Y1 aP v p))),(aN+2,.bW (dP .str (fN bj a_ "guest"))),(ks,.lst ((stays++[(a_,f1,(rows.length+1:Int),none)]).map wD)),(aN+1,.lst (rows++[iI rows a_ c7 []]))]
   /\bK A' aN ks kb Y1 (rows++[iI rows a_ c7 []]) (fN bj a_ "guest") (stays++[(a_,f1,(rows.length+1:Int),none)]) bx (aQ.filter λz=>!(z==a_)) aP v p:=by
 have w:=vO (a_:=a_) (ps:=[.str c7]) h f hl (by show 2+1<=dZ;decide) rfl;have h1:=h.FW (Ext.put (o:=.lst (rows++[iI rows a_ c7 []])) h.rw)
 let f1:Int:=if p="shown"then 1 else rows.length+1
 have h2:=h1.abu (qG:=stays++[(a_,f1,(rows.length+1:Int),none)]) (Ext.put h1.st);have b:=h2.Po (ly:=fN bj a_ "guest") (Ext.put h2.rl);have r:=b.abv (y2:=aQ.filter λz=>!(z==a_));have g:=((Ext.put (o:=.lst (rows++[iI rows a_ c7 []])) h.rw).trans (Ext.put (o:=.lst ((stays++[(a_,f1,(rows.length+1:Int),none)]).map wD)) h1.st)).trans (Ext.put (o:=.bW (dP .str (fN bj a_ "guest"))) h2.rl);refine⟨_,_,f1,?_,g.le,g.cons (Ext.past Ext.push (Ext.put (Ext.push.same b.o rfl))),r⟩;show cI (rE.1 [.sh (.at aN),.sh (.str a_),.sh (.str c7),.no,.no] A)=_;unfold rE;have I:∀A,vZ (.ok (.tup [.str c7])) A=.ok (.tup [.str c7]) A:=λA=>rfl;have L:∀A,vZ (.ok (.tup [.str a_,.int f1,.int (rows.length+1),.cA])) A=.ok (.tup [.str a_,.int f1,.int (rows.length+1),.cA]) A:=λA=>rfl;have M:KR (.ok (p==("shown":Str))) (.ok (.int 1)) (.ok (.int (rows.length+1)))=.ok (.int f1):=by
  show(if(p==("shown":Str))then _ else _)=_;by_cases q:p="shown"
  ·subst q;rfl
  ·rw[show(p==("shown":Str))=false by simpa using q];show Rs.ok _=_;congr 2;exact(bc q).symm
 have ep:=mC (z:=a_) (t:=.str "guest") (Y:=[.sh (.at aN),.sh (.str a_),.sh (.str c7),.sh (.int (rows.length+1)),.sh (.int f1)]) h2.rl (by rw[jX];exact hr);rw[lx]at ep;have l:=BQ (t:=.tup [.str a_,.int f1,.int (rows.length+1),.cA]) h1.st (by rw[bu];exact hs);rw[show stays.map wD++[.tup [.str a_,.int f1,.int (rows.length+1),.cA]]=(stays++[(a_,f1,(rows.length+1:Int),none)]).map wD by rw[iL];rfl]at l;simp only[ev,cP,fg,fE,I,w,cF,b_,h1.a_p (n:=4),M,kz,h1.abt,BP h1.st,L,l,n_,h2.Pn,ep,FU,b.UC (n:=3)];rw[ny (AK:=[.sh (.str a_)]) (λz=>!(z==a_)) rfl ha rfl (λ_=>rfl) ?hC]
 case hC=>intro z hz;simp only[ev,HH]
 simp only[uN nv,n_,ev,cP,fg,fE,b.abx]
noncomputable def gC(a_:Str)(n:Int)(s:og):og:=if s.1=a_/\s.2.2.2=none then(s.1,s.2.1,s.2.2.1,some n)else s
def HS{n:Int}{r:Str}(h:bK A aN ks kb ka rows bj stays bx aQ aP v p)(hs:stays.length<=dZ)(hr:bj.lookup a_=some r):
  ∃A' Cr,Eo [.at aN,.str a_,.int n] A=.ok .cA A'/\A.length<=Cr/\Ext A A' [(aN,.bW (dP id (AL aN Cr kb ka aP v p))),(aN+2,.bW (dP .str (iA bj a_)))]
   /\bK A' aN Cr kb ka rows (iA bj a_) (stays.map (gC a_ n)) bx aQ aP v p:=by
 have h1:=h.Po (ly:=iA bj a_) (Ext.put h.rl);have h2:=h1.abw (qG:=stays.map (gC a_ n));have I:=Ext.put (o:=.bW (dP .str (iA bj a_))) h.rl;refine⟨_,_,?_,I.le,I.cons (Ext.past Ext.push (Ext.put (Ext.push.same h1.o rfl))),h2⟩;show cI (u5.1 [.sh (.at aN),.sh (.str a_),.sh (.int n)] A)=_;unfold u5;have pp:=BS (z:=a_) (v:=.str r) h.rl (by rw[eC,hr];rfl);rw[wX]at pp;simp only[ev,cP,fg,fE,kz,h.Pn,BR h.rl,pp,h1.YW (n:=3),FU];rw[l6 (AK:=[.sh (.str a_),.sh (.int n)]) (λ_=>true) wD (λs=>wD (gC a_ n s)) rfl hs rfl (λ_ _=>rfl) ?hF]
 case hF=>
  intro s _ _;obtain⟨a,b,c,e⟩:=s;have g:lj (wD (a,b,c,e)) (.int 0)=.ok (.str a):=rfl;have L:lj (wD (a,b,c,e)) (.int 3)=.ok (FV e):=rfl;have is:qv (.ok (wD (a,b,c,e))) (.ok none) (Dq (.ok (.int 3)))=.ok (.tup [.str a,.int b,.int c]):=rfl;have ia:vp (.tup [.str a,.int b,.int c]) (.tup [.int n])=.ok (.tup [.str a,.int b,.int c,.int n]):=rfl;cases e with
  |none=>
   have l:GZ (FV none) .cA=.ok (.bl true):=rfl;by_cases q:a=a_
   ·subst q;simp only[ev,cP,g,L,is,ia,l,bU,gC,and_self,cj]
    rfl
   ·have:(a==a_)=false:=by simpa using q
    simp only[ev,cP,g,this,gC,q,false_and,cg]
  |some m=>
   have l:GZ (FV (some m)) .cA=.ok (.bl false):=rfl;simp only[ev,cP,g,L,l,gC,reduceCtorEq,and_false,cg];cases(a==a_)<;>rfl
 rw[show stays.filter (λ_=>true)=stays from mM.mpr λ_ _=>rfl,show(stays.map λs=>wD (gC a_ n s))=(stays.map (gC a_ n)).map wD by rw[cO];rfl];simp only[uN y3,n_,ev,cP,fg,fE,h1.aby]
end
section
variable {A:Ab}{ks kb ka n:Nat}{v p c7:Str}{ent:Str->Int}
theorem Gd{T:Tr}{r:Str}(q:lj T (.str "roles")=.ok (.bW (dP .str bj)))(hr:bj.lookup a_=some r)(h4:r∈gZ):zf [T,.str a_]=.ok (.int (lvl r)):=by
 show dC (nF.1 [.sh T,.sh (.str a_)])=_;unfold nF;have b:∀X:Rs Tr,(if([.str "guest",.str "speaker",.str "keeper",.str "owner"]:List Tr).length<=dZ then X else .bad)=X:=λX=>aY (by show 4<=dZ;decide);have g:wB [.str "guest",.str "speaker",.str "keeper",.str "owner"] (.str r)=.ok (.int (lvl r)):=by
  have:r="guest"\/r="speaker"\/r="keeper"\/r="owner":=by simpa using h4
  rcases this with rfl|rfl|rfl|rfl<;>rfl
 simp only[ev,cP,q,eC,hr,dq,kh,b,dS,lh,g]
noncomputable def mh(stays:List og):List Str:=(stays.filter λs=>s.2.2.2.isNone).map (·.1)
theorem u_{α:Type}{Q:α->Bool}{x:α}:∀{l r:List α},l.filter Q=x::r->∃a:Nat,l[a]?=some x/\Q x=true/\∀(b:Nat) (y:α),b<a->l[b]?=some y->Q y=false
 |y::l,r,h=>by
  cases e:Q y with
  |true=>
   rw[lN e]at h;cases h;exact⟨0,rfl,e,λb y hb=>absurd hb (xH _)⟩
  |false=>
   rw[ke (by rw[e];exact fI)]at h;obtain⟨a,h1,h2,g⟩:=u_ h;refine⟨a+1,h1,h2,λb z hb hz=>?_⟩;cases b with
   |zero=>cases hz;exact e
   |succ b=>exact g b z (Nat.lt_of_succ_lt_succ hb) hz
def ix0{t:Tr}:lj (.lst (t::rows)) (.int 0)=.ok t:=by
 show lh (vm (t::rows) 0)=_;have:Nj (t::rows).length 0=some 0:=by unfold Nj;simp
 unfold vm;rw[this]
 rfl
theorem zm(h:bK A aN ks kb ka rows bj stays bx aQ aP v p)(f:fR rows)(k:di bj ents ent)(ho:mh stays=bj.map (·.1))(hl:rows.length<dZ)(hs:stays.length<=dZ)(hr:bj.length<dZ):
  ∃A' dm ly,nG [.at aN] A=.ok .cA A'/\iE rows bj dm ly/\Ext A A' [(aN+1,.lst dm),(aN+2,.bW (dP .str ly))]/\bK A' aN ks kb ka dm ly stays bx aQ aP v p:=by
 show∃A' dm ly,cI (rG.1 [.sh (.at aN),.no,.no] A)=.ok .cA A'/\_;unfold rG;have x0:Ext A A [(aN+1,.lst rows),(aN+2,.bW (dP .str bj))]:=(Ext.refl.idem h.rl rfl).idem h.rw (gV (by omega));have I:=h.vE (n:=3);simp only[ev,cP,fg,fE,I,UD];by_cases L:bj=[]
 ·subst L;exact⟨_,_,_,rfl,.same (.inl rfl),x0,h⟩
 have he:bj.isEmpty=false:=by cases bj<;>first|exact absurd rfl L|rfl
 simp only[he,d9,dg,ev,wY k.sh,map_fst];rw[l6 (AK:=[.sh (aZ 5 A (.at aN))]) (λ_=>true) (λp=>.str p.1) (λp=>.str p.2) (xs:=bj) (by rw[cO];rfl) (du hr) rfl (λ_ _=>rfl) ?hF]
 case hF=>intro q g _;simp only[ev,cP,I,dS,ij k.nd q g,dq,lh]
 rw[show bj.filter (λ_=>true)=bj from mM.mpr λ_ _=>rfl,show(bj.map λp=>Tr.str p.2)=(bj.map (·.2)).map .str by rw[cO];rfl];simp only[ev,cP,fg,fE,wZ];by_cases hw:∃p∈bj,p.2="owner"
 ·have:(bj.map (·.2)).contains (Str.ofString "owner")=true:=by
   obtain⟨q,g,e⟩:=hw;exact eY.mpr (cC.mpr ⟨q,g,e⟩)
  simp only[this,ev];exact⟨_,_,_,rfl,.same (.inr hw),x0,h⟩
 have J5:∀p∈bj,p.2≠"owner":=λp hp e=>hw ⟨p,hp,e⟩;have hc:(bj.map (·.2)).contains (Str.ofString "owner")=false:=by
  cases e:(bj.map (·.2)).contains (Str.ofString "owner")with
  |false=>rfl
  |true=>
   obtain⟨q,g,e⟩:=cC.mp (eY.mp e);exact absurd e (J5 q g)
 simp only[hc,ev,cP,fg,fE,I,wY k.sh,map_fst];rw[l6 (AK:=[.sh (aZ 5 A (.at aN))]) (λ_=>true) (λp=>.str p.1) (λp=>.int (lvl p.2)) (xs:=bj) (by rw[cO];rfl) (du hr) rfl (λ_ _=>rfl) ?hF]
 case hF=>intro q g _;simp only[ev,cP,Gd I (ij k.nd q g) (k.rl q g)]
 rw[show bj.filter (λ_=>true)=bj from mM.mpr λ_ _=>rfl];have M:=max_map (f:=λq:Str×Str=>lvl q.2) L;obtain⟨m1,m2⟩:=FX (ns:=bj.map λq=>lvl q.2) (by rw[bu];exact tK.mpr L);generalize r8 (bj.map λq=>lvl q.2)=most at M m1 m2;simp only[ev,cP,fg,fE,M,cF,b_,h.YW (n:=3),FU]
 let Q:Str->Bool:=λz=>match bj.lookup z with|some r=>lvl r==most|none=>false
 have hQ:∀q∈bj,Q q.1=(lvl q.2==most):=λq g=>by show(match bj.lookup q.1 with|some r=>lvl r==most|none=>false)=_;rw[ij k.nd q g]
 rw[l6 (AK:=[.sh (.int most),.sh (aZ 5 A (.at aN))]) (λs:og=>s.2.2.2.isNone&&Q s.1) wD (λs=>.str s.1) rfl hs rfl ?hC ?hF]
 case hC=>
  intro s hs;obtain⟨a,b,c,e⟩:=s;have i0:lj (wD (a,b,c,e)) (.int 0)=.ok (.str a):=rfl;have i3:lj (wD (a,b,c,e)) (.int 3)=.ok (FV e):=rfl;cases e with
  |some m=>
   have ie:GZ (FV (some m)) .cA=.ok (.bl false):=rfl;simp only[ev,cP,i3,ie,xw,xK]
  |none=>
   have ie:GZ (FV none) .cA=.ok (.bl true):=rfl;have hm:a∈mh stays:=cC.mpr ⟨_,fJ.mpr ⟨hs,rfl⟩,rfl⟩;rw[ho]at hm;obtain⟨q,g,e⟩:=cC.mp hm;subst e;simp only[ev,cP,i0,i3,ie,Gd I (ij k.nd q g) (k.rl q g),Option.isNone_none,pJ,hQ q g]
 case hF=>intro s _ _;obtain⟨a,b,c,e⟩:=s;rfl
 have ht:(stays.filter λs:og=>s.2.2.2.isNone&&Q s.1).map (λs=>Tr.str s.1)=((bj.filter λq=>lvl q.2==most).map (·.1)).map .str:=by
  rw[show(λs:og=>Tr.str s.1)=Tr.str∘(·.1)from rfl,<-cO];congr 1;have e1:(stays.filter λs:og=>s.2.2.2.isNone&&Q s.1)=(stays.filter λs=>s.2.2.2.isNone).filter λs=>Q s.1:=by
   rw[List.filter_filter];congr 1;funext s;exact Bool.and_comm ..
  have e2:((stays.filter λs=>s.2.2.2.isNone).filter λs=>Q s.1).map (·.1)=(mh stays).filter Q:=by unfold mh;rw[pE];rfl
  rw[e1,e2,ho,pE];congr 1;exact tT λq g=>hQ q g
 rw[ht];obtain⟨q0,hq0,e0⟩:=cC.mp m1;have hfe:(bj.filter λq=>lvl q.2==most)≠[]:=List.ne_nil_of_mem (fJ.mpr ⟨hq0,by simpa using e0⟩);obtain⟨⟨z,l⟩,c9,S⟩:=List.exists_cons_of_ne_nil hfe;obtain⟨a,a1,a2,a3⟩:=u_ S;have hz:JK bj z:=⟨a,l,a1,λq g=>by
  have:=m2 _ (f' g);have e:lvl l=most:=by simpa using a2
  rw[e];exact this,λb q hb g=>by
  have h1:=m2 _ (f' (f:=λq:Str×Str=>lvl q.2) (d8 g));have h2:¬lvl q.2=most:=by simpa using a3 b q hb g
  have e:lvl l=most:=by simpa using a2
  omega⟩
 rw[S];have h1:=h.ext (Ext.push (o:=.lst ((((z,l)::c9).map (·.1)).map .str))) λ_ _=>rfl;have h2:=h1.Po (ly:=fN bj z "owner") (Ext.put h1.rl);have t1:aZ 5 (A++[Ao.lst ((((z,l)::c9).map (·.1)).map .str)]) (.at A.length)=.lst ((((z,l)::c9).map (·.1)).map .str):=by rw[lu ky,rn]
 have t2:aZ 5 ((A++[Ao.lst ((((z,l)::c9).map (·.1)).map .str)]).set (aN+2) (.bW (dP .str (fN bj z "owner")))) (.at A.length)=.lst ((((z,l)::c9).map (·.1)).map .str):=by
  rw[lu (((Ext.put h1.rl).same ky (gV (by have:=gi h.rl;omega)))),rn]
 have i0:lj (.lst ((((z,l)::c9).map (·.1)).map .str)) (.int 0)=.ok (.str z):=ix0;have ep:=mC (z:=z) (t:=.str "owner") (Y:=[.sh (.at aN),.sh (.int most),.sh (.at A.length)]) h1.rl (by rw[jX];exact hr);rw[lx]at ep;have w:=vO (a_:=z) (ps:=[.str "role",.str z,.str "owner"]) h2 f hl (by show 2+3<=dZ;decide) rfl;have ef:∀A,vZ (.ok (.tup [.str "role",.str z,.str "owner"])) A=.ok (.tup [.str "role",.str z,.str "owner"]) A:=λA=>rfl;simp only[uN nv,ev,cP,fg,fE,cF,b_,n_,kz,h1.Pn,t1,i0,ep,t2,ef,w];exact⟨_,_,_,rfl,.zN z hz J5 L,(Ext.past Ext.push (Ext.put h1.rl)).cons (Ext.put h2.rw),h2.FW (Ext.put h2.rw)⟩
end
section
variable {A:Ab}{ks kb ka n:Nat}{v p c6:Str}
theorem PQ{c7:Str}(m:gj A bN c8)(h:bK A aN ks kb ka rows bj stays bx aQ aP v p)(q:c8.lookup c6=some aN)(hw:c7="found"\/c7="enter"\/c7="leave"):
  fH [aZ 5 A (.at 4),.tup [.str c7,.str a_,.str c6]]=.ok (if bN.contains a_=false then .str "no person"else if c7="found"then .str "known"else if c7="enter"then(if(bj.lookup a_).isSome=true then .str "known"else if bx.contains a_=true then .str "barred"else if aP="asked"/\aQ.contains a_=false then .str "not asked"else .cA)else if(bj.lookup a_).isSome=true then .cA else .str "not in"):=by
 show dC (iD.1 [.sh (aZ 5 A (.at 4)),.sh (.tup [.str c7,.str a_,.str c6]),.no,.no,.no])=_;unfold iD;have b:lj (.tup [.str c7,.str a_,.str c6]) (.int 0)=.ok (.str c7):=rfl;have i1:lj (.tup [.str c7,.str a_,.str c6]) (.int 1)=.ok (.str a_):=rfl;have i2:lj (.tup [.str c7,.str a_,.str c6]) (.int 2)=.ok (.str c6):=rfl;have g:(c7==Str.ofString "come")=false:=by rcases hw with rfl|rfl|rfl<;>decide+kernel
 have l:zu (.str c7) (.tup [.str "ask",.str "role",.str "out",.str "bar",.str "unbar"])=.ok (.bl false):=by rcases hw with rfl|rfl|rfl<;>rfl
 have r:zu (.str c7) (.tup [.str "say",.str "mend",.str "take_back"])=.ok (.bl false):=by rcases hw with rfl|rfl|rfl<;>rfl
 have l1:∀a,zB (.ok [a])=.ok (.lst [a]):=λ_=>rfl;have a1:vp (.lst [.str a_]) (.lst [])=.ok (.lst [.str a_]):=rfl;have I:∀x:Bool,pZ (.lst (((if x then[a_]else[]):List Str).map .str))=.ok x:=λx=>by cases x<;>rfl
 have t3:aZ 3 A (.at aN)=.bW (dP (aZ 2 A) (AL aN ks kb ka aP v p)):=h8 h.o;simp only[ev,cP,b,i1,i2,cF,b_,g,l1,FU];rw[l6 (AK:=[.sh (.tup [.str c7,.str a_,.str c6]),.sh (.str c7)]) (λ_:Unit=>false) (λ_=>.int 3) (λ_=>.cA) (xs:=[()]) (by rfl) (by decide) rfl (λ_ _=>by simp only[ev,cP,l]) (λ_ _ e=>by cases e)];simp only[px,xI,cH,cg,mW,a1,ev,cP,FU,cF,b_];rw[ny (ns:=[a_]) (AK:=[.sh (aZ 5 A (.at 4))]) (λz=>!bN.contains z) (by rfl) (by show 1<=dZ;decide) rfl (λ_=>rfl) ?hC]
 case hC=>intro z _;simp only[ev,cP,m.UE (n:=3),uO]
 have L:pZ (.lst ((List.filter (λz=>!bN.contains z) [a_]).map .str))=.ok (!bN.contains a_):=by
  rw[px,xI];exact I _
 simp only[ev,cP,L];cases hp:bN.contains a_ with
 |false=>simp only[d9,ev,cj]
 |true=>
  simp only[dg,ev,cP,i1,i2,m.Mx (n:=3),D_,q,dq,pz,cF,b_,Bool.true_eq_false,cg];rcases hw with rfl|rfl|rfl
  ·simp only[bU,ev,cP,t3,Pp,cj]
  ·have s1:(Str.ofString "enter"==Str.ofString "found")=false:=by decide+kernel
   have s2:¬(Str.ofString "enter"=Str.ofString "found"):=by decide+kernel
   simp only[s1,s2,ev,cP,cg,bU,cj];rw[show GZ (aZ 3 A (.at aN)) .cA=.ok (.bl false) by rw[t3];rfl];simp only[ev,cP,i1,bU,h.vE (n:=1),eC,ki];cases(bj.lookup a_).isSome with
   |true=>simp only[ev,cP,cj]
   |false=>
    simp only[ev,cP,i1,h.Mu (n:=1),wZ,cH,cg];cases bx.contains a_ with
    |true=>simp only[ev,cP,cj]
    |false=>
     simp only[ev,cP,i1,h.UC (n:=1),h.a_d (n:=2),uO,cH,cg];by_cases hd:aP="asked"
     ·subst hd;simp only[bU,ev,cP,true_and];cases aQ.contains a_<;>rfl
     ·have:(aP==Str.ofString "asked")=false:=by simpa using hd
      simp only[this,ev,cP,hd,false_and,cg]
  ·have s1:(Str.ofString "leave"==Str.ofString "found")=false:=by decide+kernel
   have s2:¬(Str.ofString "leave"=Str.ofString "found"):=by decide+kernel
   have s3:(Str.ofString "leave"==Str.ofString "enter")=false:=by decide+kernel
   have s4:¬(Str.ofString "leave"=Str.ofString "enter"):=by decide+kernel
   simp only[s1,s2,s3,s4,ev,cP,cg];rw[show GZ (aZ 3 A (.at aN)) .cA=.ok (.bl false) by rw[t3];rfl];simp only[ev,cP,i1,s3,h.vE (n:=1),eC,ki];cases(bj.lookup a_).isSome with
   |true=>simp only[dg,ev,cP,r,bU,cj]
   |false=>simp only[d9,ev,cP,cH,cg]
end
section
variable {A A0 A1 A2:Ab}{c6:Str}
theorem MW(m:gj A bN c8)(q:c8.lookup c6=some aN)(q1:vL [.at aN,.str a_,.str "enter"] A=.ok .cA A1)(q2:nG [.at aN] A1=.ok .cA A2):qO [.at 4,.tup [.str "enter",.str a_,.str c6]] A=.ok .cA A2:=by
 show cI (nH.1 [.sh (.at 4),.sh (.tup [.str "enter",.str a_,.str c6]),.no,.no,.no] A)=_;unfold nH;have sl:qv (.ok (.tup [.str "enter",.str a_,.str c6])) (.ok none) (Dq (.ok (.int 2)))=.ok (.tup [.str "enter",.str a_]):=rfl;have b:∀A,vZ (.ok (.tup [.str "enter",.str a_])) A=.ok (.tup [.str "enter",.str a_]) A:=λA=>rfl;have gt:∀A,OG (gT [2,3]) (.ok (.tup [.str "enter",.str a_]) A) [.sh (.at 4),.sh (.tup [.str "enter",.str a_,.str c6]),.no,.no,.no]=.ok (.nx [.sh (.at 4),.sh (.tup [.str "enter",.str a_,.str c6]),.sh (.str "enter"),.sh (.str a_),.no]) A:=λA=>rfl;have i2:lj (.tup [.str "enter",.str a_,.str c6]) (.int 2)=.ok (.str c6):=rfl;have s1:(Str.ofString "enter"==Str.ofString "come")=false:=by decide+kernel
 have s2:(Str.ofString "enter"==Str.ofString "found")=false:=by decide+kernel
 have s3:(Str.ofString "enter"==Str.ofString "say")=false:=by decide+kernel
 simp only[ev,cP,fg,fE,sl,b,gt,s1,s2,s3,i2,kz,m.YY,BV m.rs,dS,q,dq,lh,cF,b_,bU,q1,q2]
def Y2{X:Rz Tr}{G:bX->Ab->Rz Out}:cI (Fo (K9 X) G)=X:=by cases X<;>rfl
theorem MX(h:cx A bf a9):gB [.at 0,.tup [.str "enter",.str a_,.str c6]] A=oK [.at 0,.str a_,.str c6] A:=by
 show cI (fT.1 [.sh (.at 0),.sh (.tup [.str "enter",.str a_,.str c6]),.no] A)=_;unfold fT;have b:lj (.tup [.str "enter",.str a_,.str c6]) (.int 0)=.ok (.str "enter"):=rfl;have i1:lj (.tup [.str "enter",.str a_,.str c6]) (.int 1)=.ok (.str a_):=rfl;have i2:lj (.tup [.str "enter",.str a_,.str c6]) (.int 2)=.ok (.str c6):=rfl;have s1:(Str.ofString "enter"==Str.ofString "come")=false:=by decide+kernel
 have s2:(Str.ofString "enter"==Str.ofString "found")=false:=by decide+kernel
 simp only[ev,cP,fg,fE,b,i1,i2,s1,s2,cF,b_,bU,h.call (m:="enter") rfl,Y2]
variable {ts:List Tr}{x w:Str}
def UJ(q:gB [.at 0,.tup ts] A=.ok .cA A1):qP [.at 0,.tup ts] A=.ok .cA A1:=by
 show cI (nJ.1 [.sh (.at 0),.sh (.tup ts),.no,.no,.no] A)=_;unfold nJ;have tz:∀o A G,FG 5 4 ["Known","NoPerson","NoRoom","NotIn","NotAsked","Barred","NoRight","NoRow","NoHand","NoLine"] (.ok o A) G=.ok o A:=λ_ _ _=>rfl;have b:GZ .cA .cA=.ok (.bl true):=rfl;simp only[ev,cP,fg,fE,cF,b_,q,tz,b]
def PR(q:gB [.at 0,.tup ts] A=.exc (.str x) A)(hx:(["Known","NoPerson","NoRoom","NotIn","NotAsked","Barred","NoRight","NoRow","NoHand","NoLine"]:List Str).contains x=true)(hw:zg [.z6 x]=.ok (.str w)):qP [.at 0,.tup ts] A=.ok (.str w) (A++[.EH x]):=by
 show cI (nJ.1 [.sh (.at 0),.sh (.tup ts),.no,.no,.no] A)=_;unfold nJ;have tz:∀A:Ab,FG 5 4 ["Known","NoPerson","NoRoom","NotIn","NotAsked","Barred","NoRight","NoRow","NoHand","NoLine"] (.exc (.str x) A) (λY A=>Br 2 (gS (yl Y 4) A) Y)=.ok (.nx [.no,.no,.sh (.at A.length),.no,.no]) (A++[.EH x]):=λA=>by
  unfold FG Yb;simp only[hx,cj]
  rfl
 have t1:aZ 5 (A++[Ao.EH x]) (.at A.length)=.z6 x:=by simp only[aZ,ky]
 have b:GZ (.z6 x) .cA=.ok (.bl false):=rfl;simp only[ev,cP,fg,fE,cF,b_,q,tz,t1,b,hw]
def PU(q:fH [aZ 5 A (.at 4),.tup ts]=.ok (.str w))(ht:qP [.at 0,.tup ts] A=.ok (.str w) A1)(hs:fF 5 [.str w,.str w]=.ok (.bl true)):jQ [.at 0,.at 4,.tup ts] A=.ok (.bl true) A1:=by
 show cI (nK.1 [.sh (.at 0),.sh (.at 4),.sh (.tup ts),.no] A)=_;unfold nK;have b:GZ (.str w) .cA=.ok (.bl false):=rfl;simp only[ev,cP,fg,fE,cF,b_,q,b,ht,hs]
def PV(q:fH [aZ 5 A (.at 4),.tup ts]=.ok .cA)(hd:qO [.at 4,.tup ts] A=.ok .cA A1)(ht:qP [.at 0,.tup ts] A1=.ok .cA A2):jQ [.at 0,.at 4,.tup ts] A=.ok (.bl true) A2:=by
 show cI (nK.1 [.sh (.at 0),.sh (.at 4),.sh (.tup ts),.no] A)=_;unfold nK;have b:GZ .cA .cA=.ok (.bl true):=rfl;have hs:fF 5 [.cA,.cA]=.ok (.bl true):=rfl;simp only[ev,cP,fg,fE,cF,b_,q,b,hd,ht,hs]
end
theorem lkn{k:Nat}:∀{pins:List (Nat×Ao)},k∉pins.map (·.1)->pins.lookup k=none
 |[],_=>rfl
 |p::pins,h=>by
  rw[bB,bH,kX]at h;rw[cQ];have:(k==p.1)=false:=by simpa using h.1
  rw[this];exact lkn h.2
def g9(A A':Ab)(S:List Nat):Prop:=∃pins,Ext A A' pins/\∀k∈pins.map (·.1),k∈S
section
variable {A A' B:Ab}{S T:List Nat}{k:Nat}{o o':Ao}
theorem g9.push:g9 A (A++[o]) S:=⟨[],Ext.push,λk h=>nomatch h⟩
theorem g9.put (h:A[k]?=some o')(m:k∈S):g9 A (A.set k o) S:=⟨_,Ext.put h,λq b=>by cases de.mp b;exact m⟩
def g9.of {pins:List (Nat×Ao)}(x:Ext A A' pins)(h:∀k∈pins.map (·.1),k∈S):g9 A A' S:=⟨pins,x,h⟩
theorem g9.trans (a:g9 A A' S)(b:g9 A' B S):g9 A B S:=by
 obtain⟨pins,x,p⟩:=a;obtain⟨V,y,q⟩:=b;refine⟨_,x.trans y,λk g=>?_⟩;rw[iL]at g;rcases dF.mp g with h|h
 ·exact q k h
 ·exact p k h
def g9.sub (a:g9 A A' S)(h:∀k∈S,k∈T):g9 A A' T:=by obtain⟨pins,x,p⟩:=a;exact⟨pins,x,λk b=>h k (p k b)⟩
theorem g9.le (a:g9 A A' S):A.length<=A'.length:=by obtain⟨pins,x,p⟩:=a;exact x.le
theorem g9.same (a:g9 A A' S)(h:A[k]?=some o)(n:k∉S):A'[k]?=some o:=by obtain⟨pins,x,p⟩:=a;exact x.same h (lkn λq=>n (p k q))
def bG.kp {i:Nat}{rk en ch bn iv:List (Key×Tr)}(h:bG A i rows rk en ch bn iv)(t:g9 A A' S)(q:∀k∈S,k<i\/i+6<k):bG A' i rows rk en ch bn iv:=by
 have n:∀k,i<=k->k<=i+6->k∉S:=λk g h2 b=>by have:=q k b;omega
 exact⟨t.same h.o (n _ (by omega) (by omega)),t.same h.lg (n _ (by omega) (by omega)),t.same h.rk (n _ (by omega) (by omega)),t.same h.en (n _ (by omega) (by omega)),t.same h.ch (n _ (by omega) (by omega)),t.same h.bn (n _ (by omega) (by omega)),t.same h.iv (n _ (by omega) (by omega))⟩
def bK.kp {j ks kb ka:Nat}{asked:List Str}{d v p:Str}(h:bK A j ks kb ka rows bj stays bx asked d v p)(t:g9 A A' S)(q:∀k∈[j,j+1,j+2,ks,kb,ka],k∉S):bK A' j ks kb ka rows bj stays bx asked d v p:=by
 obtain⟨pins,x,p⟩:=t;exact h.ext x λk b=>lkn λg=>q k b (p k g)
def cx.kp (h:cx A bf a9)(t:g9 A A' S)(q:∀k∈S,6<k):cx A' bf a9:=by
 have n:∀k,k<=6->k∉S:=λk g b=>by have:=q k b;omega
 exact⟨t.same h.o (n _ (by decide)),t.same h.ps (n _ (by decide)),t.same h.pl (n _ (by decide))⟩
def gj.kp (h:gj A bN c8)(t:g9 A A' S)(q:∀k∈S,6<k):gj A' bN c8:=by
 have n:∀k,k<=6->k∉S:=λk g b=>by have:=q k b;omega
 exact⟨t.same h.o (n _ (by decide)),t.same h.pe (n _ (by decide)),t.same h.rs (n _ (by decide))⟩
end
noncomputable abbrev iS(i:Nat):List Nat:=[i+1,i+2,i+3,i+4,i+5,i+6]
theorem sn{a b:String}(h:(a==b)=false):(Str.ofString a==Str.ofString b)=false:=by
 have:a≠b:=by simpa using h
 refine jr.mpr λe=>this ?_
 rw[Str.ofString_eq_toList,Str.ofString_eq_toList]at e;injection e with e
 have m:∀{l r:List Char},l.map Char.toNat=r.map Char.toNat->l=r:=λ{l}=>by
  induction l with
  |nil=>intro r h;cases r with
   |nil=>rfl
   |cons=>cases h
  |cons x l g=>intro r h;cases r with
   |nil=>cases h
   |cons y r=>
    injection h with h1 h2
    rw[g h2,Char.toNat_inj.mp h1]
 exact String.toList_inj.mp (m (Array.toList_inj.mpr e:(List.map Char.toNat a.toList).toArray.toList=_))
def jN{acc:Str}(h:acc.length<=20000):∃w,zG acc=.ok (.str w):=⟨acc,aY (cB h (by decide))⟩
def jC{k:Str->Rs Tr}{acc z:Str}{n:Nat}(q:acc.length<=n)(hz:z.length<=1000)(hn:n<=10000)(h:∀a,a.length<=n+1000->∃w,k a=.ok (.str w)):∃w,lq (.ok (.str z)) k acc=.ok (.str w):=by
 have l:(acc++z).length<=n+1000:=by rw[o9];omega
 obtain⟨w,e⟩:=h _ l;refine⟨w,?_⟩;show(if(acc++z).length<=cZ then k (acc++z)else .bad)=_;rw[aY (cB l (by show n+1000<=1000000;omega)),e]
def fW:List (Bool×Str×Str)->Tr
 |[]=>.cA
 |(b,_,w)::cs=>if b then .str w else fW cs
noncomputable def fX(A:Ab)(X:Rz Tr):List (Bool×Str×Str)->Rz Tr
 |[]=>X
 |(b,x,_)::cs=>if b then .exc (.str x) A else fX A X cs
theorem MY{A:Ab}{X:Rz Tr}:∀{cs:List (Bool×Str×Str)},(∀c∈cs,c.1=false)->fX A X cs=X
 |[],_=>rfl
 |c::cs,h=>by
  obtain⟨b,x,w⟩:=c;have:b=false:=h _ (cG ..);subst this;exact MY (cs:=cs) λc g=>h c (cw _ g)
def EC{b:Bool}{x:Str}{A:Ab}{X:Rz Tr}{q:Rz Tr}(h1:b=true->q=.exc (.str x) A)(h2:b=false->q=fX A X cs):q=fX A X ((b,x,a_)::cs):=by
 cases b with
 |true=>exact h1 rfl
 |false=>exact h2 rfl
def ifW{b:Bool}{q:Rs Tr}(h1:b=true->q=.ok (.str aP))(h2:b=false->q=.ok (fW cs)):q=.ok (fW ((b,a_,aP)::cs)):=by
 cases b with
 |true=>exact h1 rfl
 |false=>exact h2 rfl
def Y3{k:Nat}{t:Tr}(h:rows[k]?=some t):lj (.tup rows) (.int k)=.ok t:=by
 show lh (L2.vm rows k)=_;rw[Bc h];rfl
def zO:(∀a l,lj (.tup (a::l)) (.int 0)=.ok a)/\(∀a b l,lj (.tup (a::b::l)) (.int 1)=.ok b)/\(∀a b c l,lj (.tup (a::b::c::l)) (.int 2)=.ok c)/\(∀a b c d l,lj (.tup (a::b::c::d::l)) (.int 3)=.ok d)/\(∀a b c d e l,lj (.tup (a::b::c::d::e::l)) (.int 4)=.ok e):=
 ⟨λ_ _=>Y3 (k:=0) rfl,λ_ _ _=>Y3 (k:=1) rfl,λ_ _ _ _=>Y3 (k:=2) rfl,λ_ _ _ _ _=>Y3 (k:=3) rfl,λ_ _ _ _ _ _=>Y3 (k:=4) rfl⟩
def Rk:(∀i j:Int,ltC (.int i) (.int j)=.ok (.bl (decide (i<j))))/\(∀i j:Int,leC (.int i) (.int j)=.ok (.bl (decide (i<=j))))/\(∀i j:Int,geC (.int i) (.int j)=.ok (.bl (decide (j<=i))))/\(∀i j:Int,LQ [.int i,.int j]=.ok (.int (if j>i then j else i))):=by
 refine⟨?_,?_,?_,?_⟩<;>intros<;>rfl
def iJ(aT:List (Str×Str))(z:Str):Int:=match aT.lookup z with
 |some r=>lvl r
 |none=>-1
def Cs(r:Str):0<=lvl r/\lvl r<=3:=by
 unfold lvl;split
 ·decide
 split
 ·decide
 split<;>decide
def UK{r:Str}(h:r∈gZ):(r==("owner":Str))=decide (lvl r=3)/\(r==("keeper":Str))=decide (lvl r=2):=by
 have:r="guest"\/r="speaker"\/r="keeper"\/r="owner":=by simpa using h
 rcases this with rfl|rfl|rfl|rfl<;>decide+kernel
def ED:decide (iJ aT a_<0)=(aT.lookup a_).isNone:=by
 unfold iJ;cases aT.lookup a_ with
 |none=>rfl
 |some r=>exact fo (by have:=Cs r;show¬lvl r<0;omega)
abbrev RA(A:Ab)(i:Nat)(rows:List Tr)(aT:List (Str×Str))(ents:List (Str×Int))(chs:List (Str×Str))(bn iv:List Str):Prop:=bG A i rows (dP .str aT) (dP .int ents) (dP .str chs) (nS bn) (nS iv)
section
variable {A:Ab}{iv:List Str}{ent:Str->Int}{r jj val:Str}{X:Rz Tr}{Y:bX}
def iw(tu:fR rows):fi rows (dP .str aT) (dP .int ents) (dP .str aO) (nS aQ) (nS iv):=⟨tu,Y0,flI,Y0,w4,w4⟩
def di.lk (k:di aT ents ent)(h:aT.lookup a_=some r):r∈gZ:=k.rl _ (ji h)
theorem bdX{A1:Ab}:∀{cs:List (Bool×Str×Str)},cI (rX (fX A (.ok .cA A1) cs) Y)=fX A (.ok .cA A1) cs
 |[]=>rfl
 |(true,_,_)::cs=>rfl
 |(false,_,_)::cs=>bdX (cs:=cs)
def sq(h:RA A aN rows aT ents aO aQ iv)(tu:fR rows)(hw:a_.length<=1000):lD [.at aN,.str a_] A=if(aT.lookup a_).isNone then .exc (.str "NotIn") A else .ok .cA A:=by
 have n:=MP h (iw tu) hw;rw[eC]at n;rw[n];cases aT.lookup a_<;>rfl
end
section
variable {A A1:Ab}{j t ks kb ka:Nat}{iv asked:List Str}{ent:Str->Int}{jj val c6 d v p:Str}
theorem Y4(h:RA A aN rows aT ents aO aQ iv)(tu:fR rows)(k:di aT ents ent)(hw:a_.length<=1000)(q:(aT.lookup a_).isNone=false):lF [.at aN,.str a_] A=if decide (iJ aT a_<2)then .exc (.str "NoRight") A else .ok .cA A:=by
 obtain⟨r,b⟩:∃r,aT.lookup a_=some r:=by cases e:aT.lookup a_ with
  |none=>rw[e]at q;cases q
  |some r=>exact⟨r,rfl⟩
 show cI (fO.1 [.sh (.at aN),.sh (.str a_)] A)=_;unfold fO;obtain⟨w,s⟩:=jC (z:=a_) (acc:=Str.empty) (n:=0) (k:=λacc=>lq (.ok (.str " is no keeper or owner")) (λacc=>zG acc) acc) (bA 0) hw (by decide) λa g=>jC g (by decide+kernel) (by decide) λa g=>jN (by omega);have l2:w6 [.str "keeper"]=.ok (.int 2):=kK (by decide+kernel);simp only[ev,cP,fg,fE,h.rN (iw tu),dS,b,dq,lh,kK (k.lk b),l2,Rk];rw[show iJ aT a_=lvl r by unfold iJ;rw[b]];cases decide (lvl r<2)with
 |true=>simp only[ev,cP,fg,s,cj]
 |false=>rfl
end
def IV(l:List Str)(z:Str):List Str:=if l.contains z then l else l++[z]
theorem UL{z:Str}:ll (nS aQ) (.inr z) (.bl true)=nS (IV aQ z):=by
 show ll (dP .bl (aQ.map λz=>(z,true))) (.inr z) (Tr.bl true)=_;rw[lx];unfold nS IV;congr 1;cases e:aQ.contains z with
 |false=>
  rw[qQ (by rw[BW,e];rfl),bc fI,iL];rfl
 |true=>
  unfold fN;rw[aY rfl,aY (by rw[List.any_map];exact xF.mpr ⟨z,eY.mp e,by simp⟩),cO];exact f_ λy b=>by show(if y=z then(y,true)else(y,true))=_;split<;>rfl
def PX:(nS bN).length=bN.length:=by unfold nS;rw[jX,bu]
section
variable {A:Ab}{i:Nat}{iv:List Str}{ent:Str->Int}{d4 jj val:Str}
def vc{z:Str}(q:(aT.lookup z).isNone=false):∃r,aT.lookup z=some r:=by
 cases e:aT.lookup z with
 |none=>rw[e]at q;cases q
 |some r=>exact⟨r,rfl⟩
def lH{z r:Str}(h:aT.lookup z=some r):iJ aT z=lvl r:=by unfold iJ;rw[h]
def zq{b:Str}:(∀A,vZ (.ok (.tup [.str aP])) A=.ok (.tup [.str aP]) A)/\(∀A,vZ (.ok (.tup [.str aP,.str b])) A=.ok (.tup [.str aP,.str b]) A):=⟨λ_=>rfl,λ_=>rfl⟩
abbrev wJ(rows:List Tr)(a_ c7:Str)(ps:List Tr):Ao:=.lst (rows++[iI rows a_ c7 ps])
end
section
variable {A A1:Ab}{j t ks kb ka:Nat}{iv asked:List Str}{ent:Str->Int}{jj val c6 d v p:Str}
theorem Rm(h:RA A aN rows aT ents aO aQ iv)(tu:fR rows)(k:di aT ents ent)(hw:a_.length<=1000)(hv:aP.length<=1000)(q:(aT.lookup a_).isNone=false):l9 [.at aN,.str a_,.str aP] A=if decide (iJ aT a_<2)||decide (iJ aT a_<=iJ aT aP)then .exc (.str "NoRight") A else .ok .cA A:=by
 obtain⟨r,b⟩:=vc q;show cI (gm.1 [.sh (.at aN),.sh (.str a_),.sh (.str aP)] A)=_;unfold gm;simp only[ev,cP,fg,fE,h.call (m:="need_keeper") rfl,Y4 h tu k hw q];cases decide (iJ aT a_<2)with
 |true=>rfl
 |false=>
  simp only[ev,cP,fg,fE,h.rN (iw tu),eC,cH,cg,iM];cases hm:aT.lookup aP with
  |none=>
   rw[show decide (iJ aT a_<=iJ aT aP)=false from fo (by rw[lH b,show iJ aT aP=-1 by unfold iJ;rw[hm]];have:=Cs r;omega)]
   rfl
  |some s=>
   obtain⟨w,l⟩:=jC (z:=aP) (acc:=Str.empty) (n:=0) (k:=λacc=>lq (.ok (.str " has no lesser role than ")) (λacc=>lq (.ok (.str a_)) (λacc=>zG acc) acc) acc) (bA 0) hv (by decide) λa g=>jC g (by decide+kernel) (by decide) λa g=>jC g hw (by decide) λa g=>jN (by omega);simp only[dq,kh,ev,cP,dS,hm,b,lh,kK (k.lk b),kK (k.lk hm),Rk];rw[lH b,lH hm];cases decide (lvl r<=lvl s)with
   |true=>simp only[ev,cP,fg,l,cj]
   |false=>rfl
end
section
variable {A A1:Ab}{c6 jj val:Str}{iv:List Str}
def PY(h:cx A bf a9)(hw:a_.length<=1000)(q:aP.length<=1000):iu [.at 0,.tup [.str a_,.str aP]] A=if((bf.lookup a_).isSome&&(bf.lookup aP).isSome)=true then .ok .cA A else .exc (.str "NoPerson") A:=by
 show cI (dJ.1 [.sh (.at 0),.sh (.tup [.str a_,.str aP]),.no] A)=_;unfold dJ;have s:=BU (z:="nobody is called ") (y:=a_) (by decide+kernel) hw;have s':=BU (z:="nobody is called ") (y:=aP) (by decide+kernel) q;simp only[ev,cP,fg,fE,FU,cF,b_,h.Pm,eC,ki];cases(bf.lookup a_).isSome with
 |false=>simp only[d9,ev,cP,fg,fE,s,xK,cH,cg]
 |true=>
  simp only[dg,ev,cP,fg,fE,cF,b_,h.Pm,eC,ki,pJ];cases(bf.lookup aP).isSome with
  |true=>simp only[dg,ev,cP,cj]
  |false=>simp only[d9,ev,cP,fg,fE,s',cH,cg]
def mi(h:cx A bf a9)(hw:a_.length<=1000)(q:aP.length<=1000)(hj:a9.lookup c6=some aN):jo [.at 0,.tup [.str a_,.str aP],.str c6] A=if((bf.lookup a_).isSome&&(bf.lookup aP).isSome)=true then .ok (.at aN) A else .exc (.str "NoPerson") A:=by
 show cI (eK.1 [.sh (.at 0),.sh (.tup [.str a_,.str aP]),.sh (.str c6)] A)=_;unfold eK;simp only[ev,cP,fg,fE,h.call (m:="need_people") rfl,PY h hw q];cases((bf.lookup a_).isSome&&(bf.lookup aP).isSome)with
 |true=>simp only[cj,ev,cP,fg,fE,h.call (m:="place") rfl,HR h hj]
 |false=>simp only[cH,cg,ev]
end
section
variable {A:Ab}{ks kb ka n:Nat}{ent:Str->Int}{v p d4 c6 x3 jj val:Str}
def xa{T:Tr}(q:lj T (.str "roles")=.ok (.bW (dP .str bj)))(k:di bj ents ent):zf [T,.str a_]=.ok (.int (iJ bj a_)):=by
 cases b:bj.lookup a_ with
 |some r=>rw[lH b];exact Gd q b (k.lk b)
 |none=>
  show dC (nF.1 [.sh T,.sh (.str a_)])=_;unfold nF;simp only[ev,cP,q,eC,b,tY,tL,show iJ bj a_=-1 by unfold iJ;rw[b]]
theorem Ct{c7:Str}{c9:List Tr}{wh:Bool}(m:gj A bN c8)(h:bK A aN ks kb ka rows bj stays bx aQ aP v p)(hj:c8.lookup c6=some aN)
  (hw:c7="arrange"/\wh=false\/(c7="ask"\/c7="role"\/c7="out"\/c7="bar"\/c7="unbar")/\wh=true)
  (hd:eM [aZ 3 A (.at aN),.tup (.str c7:: .str a_:: .str c6:: .str x3::c9)]=.ok (fW cs)):
  fH [aZ 5 A (.at 4),.tup (.str c7:: .str a_:: .str c6:: .str x3::c9)]=.ok (fW ((!(bN.contains a_&&(!wh||bN.contains x3)),"NoPerson","no person")::((bj.lookup a_).isNone,"NotIn","not in")::cs)):=by
 show dC (iD.1 [.sh (aZ 5 A (.at 4)),.sh (.tup (.str c7:: .str a_:: .str c6:: .str x3::c9)),.no,.no,.no])=_;unfold iD;have r:zu (.str c7) (.tup [.str "ask",.str "role",.str "out",.str "bar",.str "unbar"])=.ok (.bl wh):=by rcases hw with⟨rfl,rfl⟩|⟨rfl|rfl|rfl|rfl|rfl,rfl⟩<;>rfl
 have g:zu (.str c7) (.tup [.str "say",.str "mend",.str "take_back"])=.ok (.bl false):=by rcases hw with⟨rfl,_⟩|⟨rfl|rfl|rfl|rfl|rfl,_⟩<;>rfl
 have b:(c7==Str.ofString "come")=false/\(c7==Str.ofString "found")=false/\(c7==Str.ofString "enter")=false/\(c7==Str.ofString "leave")=false:=by rcases hw with⟨rfl,_⟩|⟨rfl|rfl|rfl|rfl|rfl,_⟩<;>decide+kernel
 have l1:∀a,zB (.ok [a])=.ok (.lst [a]):=λ_=>rfl;have t3:aZ 3 A (.at aN)=.bW (dP (aZ 2 A) (AL aN ks kb ka aP v p)):=h8 h.o;simp only[ev,cP,zO,cF,b_,b,l1,FU];rw[l6 (AK:=[.sh (.tup (.str c7:: .str a_:: .str c6:: .str x3::c9)),.sh (.str c7)]) (λ_:Unit=>wh) (λ_=>.int 3) (λ_=>.str x3) (xs:=[()]) (by rfl) (by decide) rfl (λ_ _=>by simp only[ev,cP,r]) (λ_ _ e=>by simp only[ev,cP,zO])];have a1:vp (.lst [.str a_]) (.lst (([()].filter λ_=>wh).map λ_=>.str x3))=.ok (.lst ((a_::if wh then[x3]else[]).map .str)):=by cases wh<;>rfl
 simp only[a1,ev,cP,FU,cF,b_];have I:(a_::if wh then[x3]else[]).length<=dZ:=by
  cases wh
  ·show 1<=dZ;decide
  ·show 2<=dZ;decide
 rw[ny (ns:=a_::if wh then[x3]else[]) (AK:=[.sh (aZ 5 A (.at 4))]) (λz=>!bN.contains z) (by rfl) I rfl (λ_=>rfl) ?hC]
 case hC=>intro z _;simp only[ev,cP,m.UE (n:=3),uO]
 have L:pZ (.lst ((List.filter (λz=>!bN.contains z) (a_::if wh then[x3]else[])).map .str))=.ok (!(bN.contains a_&&(!wh||bN.contains x3))):=by
  cases wh<;>simp only[px,xI,cj,cH,cg]<;>cases bN.contains a_<;>first|rfl|(cases bN.contains x3<;>rfl)
 simp only[ev,cP,L];refine ifW (λq=>by simp only[q,ev]) λq=>?_
 simp only[q,ev,cP,zO,m.Mx (n:=3),D_,hj,dq,pz,cF,b_,b];rw[show GZ (aZ 3 A (.at aN)) .cA=.ok (.bl false) by rw[t3];rfl];simp only[ev,cP,zO,b,g,h.vE (n:=1),eC,ki];have l:(bj.lookup a_).isSome=!(bj.lookup a_).isNone:=by cases bj.lookup a_<;>rfl
 refine ifW (λq=>by simp only[l,q,dg,d9,ev]) λq=>by simp only[l,q,dg,d9,ev,cP,b,g,hd]
end
section
variable {A A':Ab}{ks kb ka n:Nat}{l':List Str}{v p d' v' p' c6 jj val:Str}
noncomputable abbrev EE:List (Key×Tr):=[(.inr "arrange",.str "set"),(.inr "take_back",.str "gone")]
def nm1:(∀a b,zB (.ok [a,b])=.ok (.lst [a,b]))/\FP [.lst [.tup [.str "arrange",.str "set"],.tup [.str "take_back",.str "gone"]]]=.ok (.bW EE)/\(∀A,vv (.ok (.bW EE)) A=.ok (.at A.length) (A++[.bW EE])):=⟨λ_ _=>rfl,rfl,λ_=>rfl⟩
def nm2:aZ 5 (A++[.bW EE]) (.at A.length)=.bW EE:=by rw[gz ky];rfl
def Y5{a b:Tr}{Y:bX}{c e:Cell}:OG (gT [2,3]) (.ok (.tup [a,b]) A) (c::e:: .no:: .no::Y)=.ok (.nx (c::e:: .sh a:: .sh b::Y)) A:=rfl
noncomputable abbrev J0(aP v p:Str):List (Str×Str):=[("door",aP),("voice",v),("past",p)]
abbrev jS(aN ks kb ka:Nat):List Nat:=[aN,aN+1,aN+2,ks,kb,ka]
def JL{n:Int}(h:a_∉mh stays):stays.map (gC a_ n)=stays:=by
 conv=>rhs;rw[<-jH stays]
 refine f_ λs hs=>?_
 show gC a_ n s=s;unfold gC;refine bc λq=>h ?_
 exact cC.mpr ⟨s,fJ.mpr ⟨hs,by rw[q.2];rfl⟩,q.1⟩
def Ge(h:bj.lookup a_=none):iA bj a_=bj:=mM.mpr λq b=>hU (lookup_none h q b)
end
structure Dat where
 rows:List Tr
 aT:List (Str×Str)
 ents:List (Str×Int)
 ent:Str->Int
 stays:List og
 bx:List Str
 inv:List Str
 asked:List Str
 d:Str
 v:Str
 p:Str
 ks:Nat
 kb:Nat
 ka:Nat
noncomputable abbrev six:List Str:=["ann","bo","cy","dee","ed","zed"]
def eX{z:Str}(h:z∈six):z.length<=1000:=(by decide+kernel:∀z∈six,z.length<=1000) z h
def j6(rows:List Tr):Prop:=∀t∈rows,∃us,t=.tup us/\us.all yu=true/\us.length<=10
section
variable {dm us:List Tr}{ent:Str->Int}{inv asked:List Str}{t:Nat}
def j6.tu (h:j6 rows):fR rows:=λt b=>by obtain⟨us,e,_⟩:=h t b;exact⟨us,e⟩
def j6.add (h:j6 rows)(q:us.all yu=true)(hl:us.length<=10):j6 (rows++[.tup us]):=λt b=>by
 rcases dF.mp b with b|b
 ·exact h t b
 ·exact⟨us,de.mp b,q,hl⟩
def dv{n:Nat}(h:n<10000):n<dZ:=dc h (by decide)
def xf{α:Type}{l:List (Str×α)}{z:Str}{a:α}:(fN l z a).length<=l.length+1:=by
 unfold fN;split
 ·rw[bu];omega
 ·rw[fm];exact bA _
def iE.names (o:iE rows aT dm bj):bj.map (·.1)=aT.map (·.1):=by
 cases o with
 |same _=>rfl
 |zN z g _ _=>
  obtain⟨a,r,e,_⟩:=g.ex;exact zl (cC.mpr ⟨_,d8 e,rfl⟩)
theorem iE.len (o:iE rows aT dm bj):rows.length<=dm.length/\dm.length<=rows.length+1/\bj.length=aT.length:=by
 have hn:bj.length=aT.length:=by have:=cV List.length o.names;simpa using this
 cases o with
 |same _=>omega
 |zN z g _ _=>rw[fm];exact⟨by omega,bA _,hn⟩
theorem iE.j6 (o:iE rows aT dm bj)(h:j6 rows):j6 dm:=by
 cases o with
 |same _=>exact h
 |zN z g _ _=>exact h.add rfl (by show 5<=10;decide)
def iE.ow (o:iE rows aT dm bj):bj=[]\/∃p∈bj,p.2="owner":=by
 cases o with
 |same h=>exact h
 |zN z g _ _=>exact .inr ⟨(z,"owner"),ji (by rw[zk,aY rfl]),rfl⟩
def EF(o:iE rows aT dm bj)(h:∀p∈aT,ent p.1<rows.length+1):∀p∈bj,ent p.1<dm.length+1:=λp hp=>by
 have:p.1∈aT.map (·.1):=by rw[<-o.names];exact f' hp
 obtain⟨q,b,e⟩:=cC.mp this;have g:=h q b;have h2:=o.len.1;rw[<-e];omega
structure Good(rows:List Tr)(aT:List (Str×Str))(ents:List (Str×Int))(ent:Str->Int)(stays:List og)(bx inv asked:List Str):Prop where
 fr:j6 rows
 rk:di aT ents ent
 op:mh stays=aT.map (·.1)
 lt:∀p∈aT,ent p.1<rows.length+1
 ow:aT=[]\/∃p∈aT,p.2="owner"
 ia:∀z,inv.contains z=asked.contains z
 ns:∀z∈aT.map (·.1),z∈six
 bs:∀z∈bx,z∈six
 is:∀z∈inv,z∈six
 nd:inv.Nodup
theorem Good.row (g:Good rows aT ents ent stays bx inv asked)(q:us.all yu=true)(hl:us.length<=10):Good (rows++[.tup us]) aT ents ent stays bx inv asked:=
 ⟨g.fr.add q hl,g.rk,g.op,λp hp=>by have:=g.lt p hp;rw[fm];show ent p.1<((rows.length+1:Nat):Int)+1;omega,g.ow,g.ia,g.ns,g.bs,g.is,g.nd⟩
abbrev Rn(D:Dat):Prop:=Good D.rows D.aT D.ents D.ent D.stays D.bx D.inv D.asked
structure Bd(D:Dat)(t:Nat):Prop where
 b1:D.rows.length<=3+2*t
 b2:D.aT.length<=3+t
 b3:D.ents.length<=3+t
 b4:D.stays.length<=3+t
 b5:D.asked.length<=t
 b6:D.bx.length<=t
 b7:D.inv.length<=t
end
structure Pr(A:Ab)(i j:Nat)(D:Dat)(t:Nat):Prop where
 r:RA A i D.rows D.aT D.ents (J0 D.d D.v D.p) D.bx D.inv
 m:bK A j D.ks D.kb D.ka D.rows D.aT D.stays D.bx D.asked D.d D.v D.p
 g:Rn D
 b:Bd D t
 dj:∀k∈jS j D.ks D.kb D.ka,6<k/\(k<i\/i+6<k)
 hi:6<i
def Kept(A:Ab)(D D':Dat):Prop:=∀k∈[D'.ks,D'.kb,D'.ka],k∈[D.ks,D.kb,D.ka]\/A.length<=k
abbrev touched(i j:Nat)(D:Dat):List Nat:=iS i++jS j D.ks D.kb D.ka
def Res(A:Ab)(i j:Nat)(D:Dat)(t:Nat)(ts:List Tr):Prop:=∃A' D',jQ [.at 0,.at 4,.tup ts] A=.ok (.bl true) A'/\g9 A A' (touched i j D)/\Pr A' i j D' (t+1)/\Kept A D D'
noncomputable abbrev Y6:List (Str×Str):=[("Known","known"),("NoPerson","no person"),("NotIn","not in"),("NotAsked","not asked"),("Barred","barred"),("NoRight","no right")]
section
variable {A A' A2:Ab}{j t:Nat}{D D':Dat}{c6 x w:Str}{ts:List Tr}{X:Rz Tr}
def UM(h:(x,w)∈Y6):(["Known","NoPerson","NoRoom","NotIn","NotAsked","Barred","NoRight","NoRow","NoHand","NoLine"]:List Str).contains x=true/\zg [.z6 x]=.ok (.str w)/\fF 5 [.str w,.str w]=.ok (.bl true):=by
 simp only[bH,cM,cN,Prod.mk.injEq]at h;rcases h with⟨rfl,rfl⟩|⟨rfl,rfl⟩|⟨rfl,rfl⟩|⟨rfl,rfl⟩|⟨rfl,rfl⟩|⟨rfl,rfl⟩<;>exact⟨by decide+kernel,rfl,rfl⟩
def Bd.more (b:Bd D t):Bd D (t+1):=by obtain⟨g,h2,l,n,r,I,L⟩:=b;exact⟨by omega,by omega,by omega,by omega,by omega,by omega,by omega⟩
theorem Pr.kp {S:List Nat}(P:Pr A aN j D t)(e:g9 A A' S)(q:∀k∈S,(k<aN\/aN+6<k)/\k∉jS j D.ks D.kb D.ka):Pr A' aN j D (t+1):=
 ⟨bG.kp P.r e λk l=>(q k l).1,bK.kp P.m e λk l h=>(q k h).2 l,P.g,P.b.more,P.dj,P.hi⟩
theorem s_same(P:Pr A aN j D t)(h:jQ [.at 0,.at 4,.tup ts] A=.ok (.bl true) (A++[.EH x])):Res A aN j D t ts:=
 ⟨_,D,h,g9.push,P.kp (g9.push (S:=[])) λ_ h=>(nomatch h),λ_ h=>.inl h⟩
theorem Y7:∀{cs:List (Bool×Str×Str)},(∀c∈cs,c.1=false)\/∃c∈cs,fW cs=.str c.2.2/\fX A X cs=.exc (.str c.2.1) A
 |[]=>.inl λc h=>nomatch h
 |(true,x,w)::cs=>.inr ⟨_,cG ..,rfl,rfl⟩
 |(false,x,w)::cs=>by
  rcases Y7 (cs:=cs)with h|⟨c,h,h2⟩
  ·exact .inl λc b=>by
    rcases bH.mp b with rfl|b
    ·rfl
    ·exact h c b
  ·exact .inr ⟨c,cw _ h,h2⟩
theorem Y8:∀{cs:List (Bool×Str×Str)},(∀c∈cs,c.1=false)->fW cs=.cA
 |[],_=>rfl
 |(b,x,w)::cs,h=>by
  have:b=false:=h _ (cG ..);subst this;exact Y8 (cs:=cs) λc g=>h c (cw _ g)
def vd(P:Pr A aN j D t)(q:fH [aZ 5 A (.at 4),.tup ts]=.ok (fW cs))(hc:gB [.at 0,.tup ts] A=fX A X cs)(he:∀c∈cs,c.2∈Y6)(dn:(∀c∈cs,c.1=false)->fH [aZ 5 A (.at 4),.tup ts]=.ok .cA->Res A aN j D t ts):Res A aN j D t ts:=by
 rcases Y7 (A:=A) (X:=X) (cs:=cs)with h|⟨c,h,h1,h2⟩
 ·exact dn h (by rw[q,Y8 h])
 ·obtain⟨b,g,l⟩:=UM (he c h);rw[h1]at q;rw[h2]at hc;exact s_same P (PU q (PR hc b g) l)
def Pr.abJ (P:Pr A aN j D t)(kp:Kept A D D'):∀k∈jS j D'.ks D'.kb D'.ka,6<k/\(k<aN\/aN+6<k):=λk b=>by
 have l:=gi P.r.iv;have g:=P.hi;have q:∀k,k∈[D'.ks,D'.kb,D'.ka]->6<k/\(k<aN\/aN+6<k):=λk b=>by
  rcases kp k b with h|h
  ·exact P.dj k (cw _ (cw _ (cw _ h)))
  ·omega
 rcases bH.mp b with rfl|b
 ·exact P.dj _ (by simp)
 rcases bH.mp b with rfl|b
 ·exact P.dj _ (by simp)
 rcases bH.mp b with rfl|b
 ·exact P.dj _ (by simp)
 exact q k b
def ve(P:Pr A aN j D t)(hH:cx A bf a9)(hr:fH [aZ 5 A (.at 4),.tup ts]=.ok .cA)(hd:qO [.at 4,.tup ts] A=.ok .cA A2)(t1:g9 A A2 (jS j D.ks D.kb D.ka))
  (m2:bK A2 j D'.ks D'.kb D'.ka D'.rows D'.aT D'.stays D'.bx D'.asked D'.d D'.v D'.p) (kp:Kept A D D')
  (pr:cx A2 bf a9->RA A2 aN D.rows D.aT D.ents (J0 D.d D.v D.p) D.bx D.inv->∃q,gB [.at 0,.tup ts] A2=.ok .cA q/\g9 A2 q (iS aN)/\RA q aN D'.rows D'.aT D'.ents (J0 D'.d D'.v D'.p) D'.bx D'.inv)
  (g:Rn D') (b:Bd D' (t+1)):Res A aN j D t ts:=by
 obtain⟨q,L,n,M⟩:=pr (cx.kp hH t1 λk l=>(P.dj k l).1) (bG.kp P.r t1 λk l=>(P.dj k l).2);have I:=P.abJ kp;refine⟨q,D',PV hr hd (UJ L),(t1.sub λk l=>dF.mpr (.inr l)).trans (n.sub λk l=>dF.mpr (.inl l)),⟨M,bK.kp m2 n λk l h=>?_,g,b,I,P.hi⟩,kp⟩;have:=I k l;simp only[bH,cM,cN]at h;omega
end
section
variable {A A1 A2:Ab}{j t:Nat}{D D':Dat}{d4 jj val c7:Str}{c9:List Tr}
theorem Cu(hw:c7="arrange"\/c7="ask"\/c7="role"\/c7="out"\/c7="bar"\/c7="unbar")(m:gj A bN c8)(q:c8.lookup aP=some j)(q1:iC [.at j,.tup (.str c7:: .str a_:: .str aP::c9)] A=.ok .cA A1)(q2:nG [.at j] A1=.ok .cA A2)
  (sl:qv (.ok (.tup (.str c7:: .str a_:: .str aP::c9))) (.ok none) (Dq (.ok (.int 2)))=.ok (.tup [.str c7,.str a_])):qO [.at 4,.tup (.str c7:: .str a_:: .str aP::c9)] A=.ok .cA A2:=by
 show cI (nH.1 [.sh (.at 4),.sh (.tup (.str c7:: .str a_:: .str aP::c9)),.no,.no,.no] A)=_;unfold nH;have b:(c7==Str.ofString "come")=false/\(c7==Str.ofString "found")=false/\(c7==Str.ofString "say")=false/\(c7==Str.ofString "enter")=false/\(c7==Str.ofString "leave")=false:=by rcases hw with rfl|rfl|rfl|rfl|rfl|rfl<;>decide+kernel
 simp only[ev,cP,fg,fE,zO,sl,zq,Y5,b,kz,m.YY,BV m.rs,dS,q,dq,lh,cF,b_,q1,q2]
def Cv{kb ka:Nat}{ent:Str->Int}{p:Str}(h:bK A j aN kb ka rows bj stays bx bN a_ aP p)(f:fR rows)(k:di bj ents ent)(ho:mh stays=bj.map (·.1))(ow:bj=[]\/∃p∈bj,p.2="owner")(hl:rows.length<dZ)(hs:stays.length<=dZ)(hr:bj.length<dZ):
  ∃A',nG [.at j] A=.ok .cA A'/\(∀aN kb ka,g9 A A' (jS j aN kb ka))/\bK A' j aN kb ka rows bj stays bx bN a_ aP p:=by
 obtain⟨A',dm,ly,q,o,x,m⟩:=zm h f k ho hl hs hr;obtain⟨rfl,rfl⟩:=o.one (.same ow);exact⟨A',q,λ_ _ _=>g9.of x (by simp),m⟩
def Kept.refl:Kept A D D:=λ_ h=>.inl h
abbrev Dr(D:Dat)(a_ c7:Str)(ps:List Tr):Dat:={D with rows:=D.rows++[iI D.rows a_ c7 ps]}
def rO{α:Type}{l:List α}{a:α}:(l++[a]).length=l.length+1:=by rw[fm];rfl
theorem AS{n:Int}:∀{stays:List og},mh (stays.map (gC a_ n))=(mh stays).filter λz=>!(z==a_)
 |[]=>rfl
 |s::stays=>by
  obtain⟨a,b,c,e⟩:=s;have g:=AS (n:=n) (stays:=stays);unfold mh at g⊢;rw[bB];cases e with
  |some m=>
   have:gC a_ n (a,b,c,some m)=(a,b,c,some m):=by simp[gC]
   rw[this,ke (by simp),ke (by simp)];exact g
  |none=>
   rw[lN (a:=(a,b,c,none)) (by rfl),bB];by_cases q:a=a_
   ·subst q;have:gC a n (a,b,c,none)=(a,b,c,some n):=by simp[gC]
    rw[this,ke (by simp),ke (by simp)];exact g
   ·have:gC a_ n (a,b,c,none)=(a,b,c,none):=by simp[gC,q]
    rw[this,lN (by rfl),bB,lN (by simpa using q),g]
def Gf:(iA aT a_).map (·.1)=(aT.map (·.1)).filter λz=>!(z==a_):=by
 unfold iA;rw[pE];congr 1;refine tT λq _=>?_
 show decide (q.1≠a_)=!(q.1==a_);by_cases h:q.1=a_<;>simp[h]
def Good.drop {ent:Str->Int}{inv asked:List Str}{n:Int}(g:Good rows aT ents ent stays bx inv asked)(h:iJ aT d4<iJ aT a_):Good rows (iA aT d4) ents ent (stays.map (gC d4 n)) bx inv asked:=by
 have sub:∀p∈iA aT d4,p∈aT:=λp hp=>(fJ.mp hp).1;refine⟨g.fr,g.rk.leave,by rw[AS,g.op,Gf],λp hp=>g.lt p (sub p hp),.inr ?_,g.ia,λz hz=>?_,g.bs,g.is,g.nd⟩
 ·rcases g.ow with h0|⟨p,hp,e⟩
  ·rw[h0]at h;exact absurd h (by show¬(-1:Int)< -1;decide)
  ·refine⟨p,fJ.mpr ⟨hp,hU λq=>?_⟩,e⟩;have b:=lH (ij g.rk.nd p hp);rw[q,e]at b;have h2:iJ aT a_<=3:=by
    unfold iJ;split
    ·exact(Cs _).2
    ·decide
   have l:lvl "owner"=3:=by decide+kernel
   omega
 ·obtain⟨p,hp,rfl⟩:=cC.mp hz;exact g.ns _ (f' (sub p hp))
end
def contains_filter{l:List Str}{P:Str->Bool}{z:Str}:(l.filter P).contains z=(l.contains z&&P z):=by
 rw[tX,eY,fJ,bY,eY]
section
variable {A:Ab}{j t:Nat}{D:Dat}{c6:Str}
theorem PZ(P:Pr A aN j D t)(hH:cx A bf a9)(hM:gj A bN c8)(hi:a9.lookup c6=some aN)(hj:c8.lookup c6=some j)(hp:∀z,(bf.lookup z).isSome=bN.contains z)(h6:a_∈six)(ht:t<=1000):Res A aN j D t [.str "enter",.str a_,.str c6]:=by
 have tu:=P.g.fr.tu;have hs:=eX h6;have b1:=P.b.b1;have b2:=P.b.b2;have b3:=P.b.b3;have b4:=P.b.b4;have b5:=P.b.b5;have b6:=P.b.b6;have b7:=P.b.b7;have fl:fi D.rows (dP .str D.aT) (dP .int D.ents) (dP .str (J0 D.d D.v D.p)) (nS D.bx) (nS D.inv):=iw tu;have hr:=PQ (a_:=a_) (c7:="enter") hM P.m hj (.inr (.inl rfl));have I:=λ{A:Ab} (hH:cx A bf a9) (r:RA A aN D.rows D.aT D.ents (J0 D.d D.v D.p) D.bx D.inv)=>(MX (a_:=a_) (c6:=c6) hH).trans (MU hH hs hi (by rw[r.call (m:="enter") rfl];rfl));simp only[hp]at I;have s2:¬(Str.ofString "enter"=Str.ofString "found"):=by decide+kernel
 have vb:∀{b},D.bx.contains a_=b->e_ (nS D.bx) (.inr a_)=if b then some (.bl true)else none:=λe=>by rw[vF,e]
 refine vd (cs:=[(!bN.contains a_,"NoPerson","no person"),((D.aT.lookup a_).isSome,"Known","known"),(D.bx.contains a_,"Barred","barred"),(decide (D.d="asked")&&!D.asked.contains a_,"NotAsked","not asked")]) (X:=gB [.at 0,.tup [.str "enter",.str a_,.str c6]] A) P (hr.trans ?_) ?_ (by simp) λall LW=>?_
 ·simp only[s2,cg,cj];cases bN.contains a_ with
  |false=>rfl
  |true=>
   cases(D.aT.lookup a_).isSome with
   |true=>rfl
   |false=>
    cases D.bx.contains a_ with
    |true=>rfl
    |false=>by_cases hd:D.d="asked"<;>cases D.asked.contains a_<;>simp[fW,hd]
 ·refine EC (λq=>by rw[I hH P.r,show bN.contains a_=false by simpa using q];rfl) λq=>?_
  have I:=I hH P.r;rw[show bN.contains a_=true by simpa using q,aY rfl]at I;refine EC (λq=>?_) λq=>EC (λq2=>?_) λq2=>EC (λq3=>?_) λq3=>rfl
  ·obtain⟨r,L⟩:=xj.mp q;rw[I,MR P.r fl hs L];rfl
  ·rw[I,MS (r:=.bl true) P.r fl hs (by simpa using q) (vb q2)];rfl
  ·rw[bY,pv]at q3;rw[I,MT P.r fl hs (by simpa using q) (vb q2) (show some D.d=some _ by rw[eR q3.1]) (by rw[vF,P.g.ia,q3.2];rfl)];rfl
 have a1:bN.contains a_=true:=by simpa using all _ (cG ..)
 have L:D.aT.lookup a_=none:=by simpa using all ((D.aT.lookup a_).isSome,"Known","known") (by simp)
 have a3:=all (D.bx.contains a_,"Barred","barred") (by simp);have a4:=all (decide (D.d="asked")&&!D.asked.contains a_,"NotAsked","not asked") (by simp);obtain⟨A1,Y1,f1,q1,le1,x1,m1⟩:=MV (a_:=a_) (c7:="enter") P.m tu (dv (by omega)) (dv (by omega)) (dv (by omega)) (du (dv (by omega)));have Y9:=P.g.rk.enter (a_:=a_) (n:=D.rows.length+1) (r:="guest") L P.g.lt hs (by decide+kernel);have hnm:(fN D.aT a_ "guest").map (·.1)=D.aT.map (·.1)++[a_]:=by rw[qQ L,iL];rfl
 have pl:=xf (l:=D.aT) (z:=a_) (a:=("guest":Str));have op1:mh (D.stays++[(a_,f1,(D.rows.length+1:Int),none)])=(fN D.aT a_ "guest").map (·.1):=by
  unfold mh;rw[List.filter_append,iL,hnm,<-P.g.op];rfl
 obtain⟨A2,dm,dU,q2,M,x2,m2⟩:=zm m1 (qF tu) Y9 op1 (by rw[rO];exact dv (by omega)) (by rw[rO];exact du (dv (by omega))) (dv (by omega));have ol:=M.len;rw[rO]at ol;refine ve (D':=⟨dm,dU,fN D.ents a_ (D.rows.length+1),λz=>if z=a_ then D.rows.length+1 else D.ent z,D.stays++[(a_,f1,(D.rows.length+1:Int),none)],D.bx,D.inv.filter λz=>!(z==a_),D.asked.filter λz=>!(z==a_),D.d,D.v,D.p,D.ks,D.kb,Y1⟩) P hH LW (MW hM hj q1 q2) ((g9.of x1 (by simp)).trans (g9.of x2 (by simp))) m2 (λk L=>?_) (λP0 r2=>?_) ⟨M.j6 (P.g.fr.add rfl (by show 3<=10;decide)),M.MQ Y9,op1.trans M.names.symm,EF M λq S=>?_,M.ow,λz=>?_,λz hz=>?_,P.g.bs,λz hz=>P.g.is z (fJ.mp hz).1,P.g.nd.sublist List.filter_sublist⟩ ⟨by show dm.length<=_;omega,by show dU.length<=_;omega,?_,by show(D.stays++[_]).length<=_;rw[rO];omega,by show(D.asked.filter _).length<=_;have:=mI (λz=>!(z==a_)) D.asked;omega,by show D.bx.length<=_;omega,by show(D.inv.filter _).length<=_;have:=mI (λz=>!(z==a_)) D.inv;omega⟩
 ·simp only[bH,cM,cN]at L⊢;omega
 ·obtain⟨A3,Y_,UN,q3,o3,x3,r3⟩:=PM (a_:=a_) (d:=D.d) r2 fl P.g.rk P.g.lt (dv (by omega)) (dv (by omega)) (dv (by omega)) hs L (vb a3) rfl (by
   by_cases h9:D.d="asked"
   ·right;rw[vF,P.g.ia];rw[h9]at a4;rw[show D.asked.contains a_=true by simpa using a4];rfl
   ·exact .inl h9)
  obtain⟨rfl,rfl⟩:=M.one o3;rw[HI]at r3;have I:=I P0 r2;rw[a1,aY rfl,q3]at I;exact⟨A3,I,g9.of x3 (by simp),r3⟩
 ·rw[qQ L]at S;show(if q.1=a_ then(D.rows.length+1:Int)else D.ent q.1)<((D.rows++[iI D.rows a_ "enter" []]).length:Int)+1;rw[rO];rcases dF.mp S with S|S
  ·rw[bc (lookup_none L q S)];have:=P.g.lt q S;omega
  ·cases de.mp S;rw[aY rfl];omega
 ·show(D.inv.filter λz=>!(z==a_)).contains z=(D.asked.filter λz=>!(z==a_)).contains z;rw[contains_filter,contains_filter,P.g.ia]
 ·have hz:z∈dU.map (·.1):=hz;rw[M.names,hnm]at hz;rcases dF.mp hz with hz|hz
  ·exact P.g.ns z hz
  ·rw[de.mp hz];exact h6
 ·show(fN D.ents a_ _).length<=_;have:=xf (l:=D.ents) (z:=a_) (a:=(D.rows.length+1:Int));omega
end
section
variable {A A1:Ab}{j t ks kb ka:Nat}{D:Dat}{iv asked:List Str}{ent:Str->Int}{d4 val c6 d v p:Str}
def Y'(h:RA A aN rows aT ents aO aQ iv)(tu:fR rows)(k:di aT ents ent)(hw:a_.length<=1000)(hv:d4.length<=1000)(hl:rows.length<dZ)(hc:aQ.length<dZ):
  sW [.at aN,.str a_,.str d4] A=fX A (.ok .cA (((A.set (aN+1) (wJ rows a_ "bar" [.str d4])).set (aN+5) (.bW (nS (aQ++[d4])))).set (aN+2) (.bW (dP .str (iA aT d4))))) [((aT.lookup a_).isNone,"NotIn","not in"),(decide (iJ aT a_<2)||decide (iJ aT a_<=iJ aT d4),"NoRight","no right"),(aQ.contains d4,"Known","known")]:=by
 show cI (oH.1 [.sh (.at aN),.sh (.str a_),.sh (.str d4)] A)=_;unfold oH;simp only[ev,cP,fg,fE,h.call (m:="need_in") rfl,sq h tu hw];refine EC (λq=>by simp only[q,cj,ev]) λq=>?_
 simp only[q,cH,cg,ev,cP,fg,fE,h.call (m:="need_above") rfl,Rm h tu k hw hv q];refine EC (λq=>by simp only[q,cj,ev]) λq=>?_
 have s:=BU (z:=d4) (y:=" is barred") hv (by decide+kernel);have g:(e_ (nS aQ) (.inr d4)).isSome=aQ.contains d4:=by rw[vF];cases aQ.contains d4<;>rfl
 simp only[q,cH,cg,ev,cP,fg,fE,h.Mr (iw tu),g];refine EC (λq=>by simp only[q,ev,cP,fg,fE,s]) λq=>?_
 have w:=u9 (a_:=a_) (c7:="bar") (ps:=[.str d4]) h (iw tu) hl (by show 3+1<=dZ;decide) rfl;have h1:=h.y0 (Ext.put (o:=wJ rows a_ "bar" [.str d4]) h.lg);have ep:=mC (z:=d4) (t:=.bl true) (Y:=[.sh (.at aN),.sh (.str a_),.sh (.str d4)]) h1.bn (by rw[PX];exact hc);rw[UL,show IV aQ d4=aQ++[d4] by unfold IV;rw[q];rfl]at ep;have h2:=h1.Pl (Ext.put (o:=.bW (nS (aQ++[d4]))) h1.bn);have p:=λx l=>HD (z:=d4) (x:=x) l h2.rk;rw[wX]at p;simp only[q,ev,cP,fg,fE,h.call (m:="write_row") rfl,(zq (b:=a_)).1,w,n_,h1.YV,ep,h2.Pj,HC h2.rk,p,fX]
theorem Za(q:cx A bf a9)(hi:a9.lookup c6=some aN)(h:RA A aN rows aT ents aO aQ iv)(hw:a_.length<=1000)(hv:d4.length<=1000)(hR:sW [.at aN,.str a_,.str d4] A=fX A (.ok .cA A1) cs):
  gB [.at 0,.tup [.str "bar",.str a_,.str c6,.str d4]] A=fX A (.ok .cA A1) ((!((bf.lookup a_).isSome&&(bf.lookup d4).isSome),"NoPerson","no person")::cs):=by
 show cI (fT.1 [.sh (.at 0),.sh (.tup [.str "bar",.str a_,.str c6,.str d4]),.no] A)=_;unfold fT;simp only[ev,cP,fg,fE,zO,cF,b_,sn,String.reduceBEq,bU,q.call (m:="bar") rfl,Y2];show cI (oN.1 [.sh (.at 0),.sh (.str a_),.sh (.str c6),.sh (.str d4)] A)=_;unfold oN;simp only[ev,cP,fg,fE,q.call (m:="place_for") rfl,zq,mi q hw hv hi];cases((bf.lookup a_).isSome&&(bf.lookup d4).isSome)with
 |false=>rfl
 |true=>simp only[cj,ev,cP,fg,fE,h.call (m:="bar") rfl,hR,bdX];rfl
theorem UO(h:bK A j ks kb ka rows bj stays bx asked d v p)(k:di bj ents ent):eM [aZ 3 A (.at j),.tup [.str "bar",.str a_,.str c6,.str d4]]=.ok (fW [(decide (iJ bj a_<2)||decide (iJ bj a_<=iJ bj d4),"NoRight","no right"),(bx.contains d4,"Known","known")]):=by
 show dC (cT.1 [.sh (aZ 3 A (.at j)),.sh (.tup [.str "bar",.str a_,.str c6,.str d4]),.no,.no,.no,.no])=_;unfold cT;have sl:qv (.ok (.tup [.str "bar",.str a_,.str c6,.str d4])) (.ok none) (Dq (.ok (.int 2)))=.ok (.tup [.str "bar",.str a_]):=rfl;have gt:∀a b Y c e,ID (gT [2,3]) (.ok (.tup [a,b])) (c::e:: .no:: .no::Y)=.ok (.nx (c::e:: .sh a:: .sh b::Y)):=λ_ _ _ _ _=>rfl;have g:zu (.str "bar") (.tup [.str "role",.str "out"])=.ok (.bl false):=rfl;have l:zu (.str "bar") (.tup [.str "out",.str "bar"])=.ok (.bl true):=rfl;cases r:decide (iJ bj a_<2)<;>cases I:decide (iJ bj a_<=iJ bj d4)<;>cases L:bx.contains d4<;>simp only[ev,cP,zO,Rk,sl,gt,xa (h.vE (n:=1)) k,g,l,sn,String.reduceBEq,bU,cF,b_,h.Mu (n:=1),wZ,fW,cj,cH,cg,pK,kT,dg,d9,r,I,L]
theorem Zb(h:bK A j ks kb ka rows bj stays bx asked d v p)(f:fR rows)(ho:mh stays=bj.map (·.1))(hl:rows.length<dZ)(ha:bx.length<dZ)(hs:stays.length<=dZ):
  ∃A' Cr,iC [.at j,.tup [.str "bar",.str a_,.str c6,.str d4]] A=.ok .cA A'/\(Cr=ks\/A.length<=Cr)/\g9 A A' (jS j ks kb ka)/\bK A' j Cr kb ka (rows++[iI rows a_ "bar" [.str d4]]) (iA bj d4) (stays.map (gC d4 (rows.length+1))) (bx++[d4]) asked d v p:=by
 have h0:=h.ext (Ext.push (o:=.bW EE)) λ_ _=>rfl;have w:=vO (a_:=a_) (ps:=[.str "bar",.str d4]) h0 f hl (by show 2+2<=dZ;decide) rfl;have h1:=h0.FW (Ext.put (o:=.lst (rows++[iI rows a_ "bar" [.str d4]])) h0.rw);have t1:=((g9.push (A:=A) (o:=.bW EE) (S:=jS j ks kb ka)).trans (g9.put (o:=.lst (rows++[iI rows a_ "bar" [.str d4]])) h0.rw (by simp))).trans (g9.put (o:=.lst ((bx++[d4]).map .str)) h1.br (by simp));have h2:=h1.abz (l':=bx++[d4]) (Ext.put h1.br);show∃A' Cr,cI (eE.1 [.sh (.at j),.sh (.tup [.str "bar",.str a_,.str c6,.str d4]),.no,.no,.no,.no] A)=.ok .cA A'/\_;unfold eE;have s1:qv (.ok (.tup [.str "bar",.str a_,.str c6,.str d4])) (.ok none) (Dq (.ok (.int 2)))=.ok (.tup [.str "bar",.str a_]):=rfl;have s2:qv (.ok (.tup [.str "bar",.str a_,.str c6,.str d4])) (Dq (.ok (.int 3))) (.ok none)=.ok (.tup [.str d4]):=rfl;have s3:Af (.ok (.bW EE)) (.ok (.str "bar")) (.ok (.str "bar"))=.ok (.str "bar"):=rfl;have s4:vp (.tup [.str "bar"]) (.tup [.str d4])=.ok (.tup [.str "bar",.str d4]):=rfl;have l:zu (.str "bar") (.tup [.str "out",.str "bar"])=.ok (.bl true):=rfl;have g:=BQ (t:=.str d4) h1.br (by rw[bu];exact ha);rw[show bx.map Tr.str++[.str d4]=(bx++[d4]).map .str by rw[iL];rfl]at g;simp only[ev,cP,fg,fE,zO,s1,zq,Y5,nm1,nm2,cF,b_,s2,s3,s4,w,sn,String.reduceBEq,bU,kz,h1.abB,BP h1.br,g,l,h2.vE (n:=3),eC];cases b:bj.lookup d4 with
 |none=>
  have I:d4∉mh stays:=by
   rw[ho];intro hm;obtain⟨q,L,e⟩:=cC.mp hm;exact lookup_none b q L e
  rw[JL I,Ge b];exact⟨_,ks,rfl,.inl rfl,t1,h2⟩
 |some r=>
  obtain⟨A3,Cr,M,q2,q3,q4⟩:=HS (a_:=d4) (n:=rows.length+1) h2 hs b;simp only[dq,kh,ev,cP,fg,fE,zO,M];exact⟨_,Cr,rfl,.inr (cB t1.le q2),t1.trans (g9.of q3 (by simp)),q4⟩
theorem Zc(P:Pr A aN j D t)(q:cx A bf a9)(hM:gj A bN c8)(hi:a9.lookup c6=some aN)(hj:c8.lookup c6=some j)(hp:∀z,(bf.lookup z).isSome=bN.contains z)(h6:a_∈six)(h7:d4∈six)(ht:t<=1000):Res A aN j D t [.str "bar",.str a_,.str c6,.str d4]:=by
 have tu:=P.g.fr.tu;have hs:=eX h6;have M:=eX h7;have b1:=P.b.b1;have b2:=P.b.b2;have b3:=P.b.b3;have b4:=P.b.b4;have b5:=P.b.b5;have b6:=P.b.b6;have b7:=P.b.b7;have hR:=λ{A:Ab} (r:RA A aN D.rows D.aT D.ents (J0 D.d D.v D.p) D.bx D.inv)=>Y' (a_:=a_) (d4:=d4) r tu P.g.rk hs M (dv (by omega)) (dv (by omega));have S:=Ct (a_:=a_) (x3:=d4) (c9:=[]) (wh:=true) hM P.m hj (.inr ⟨.inr (.inr (.inr (.inl rfl))),rfl⟩) (UO P.m P.g.rk);have L:=λ{A:Ab} (q:cx A bf a9) r=>Za (c6:=c6) q hi r hs M (hR r);simp only[hp]at L;simp only[dg,iM]at S;refine vd P S (L q P.r) (by simp) λall LW=>?_
 have lt:iJ D.aT d4<iJ D.aT a_:=by
  have:=all (decide (iJ D.aT a_<2)||decide (iJ D.aT a_<=iJ D.aT d4),"NoRight","no right") (by simp);simp only[tD,o_]at this;omega
 obtain⟨A1,Cr,q1,le,t1,m1⟩:=Zb (a_:=a_) (c6:=c6) (d4:=d4) P.m tu P.g.op (dv (by omega)) (dv (by omega)) (du (dv (by omega)));have g:=(P.g.row (us:=[.int (D.rows.length+1),.str a_,.str "bar",.str d4]) rfl (by show 4<=10;decide)).drop (n:=D.rows.length+1) lt;have dl:=mI (λp:Str×Str=>decide (p.1≠d4)) D.aT;obtain⟨A2,q2,t2,m2⟩:=Cv m1 g.fr.tu g.rk g.op g.ow (by rw[rO];exact dv (by omega)) (by rw[bu];exact du (dv (by omega))) (dv (by show(D.aT.filter _).length<_;omega));refine ve (D':={Dr D a_ "bar" [.str d4]with aT:=iA D.aT d4,stays:=D.stays.map (gC d4 (D.rows.length+1)),bx:=D.bx++[d4],ks:=Cr}) P q LW (Cu (.inr (.inr (.inr (.inr (.inl rfl))))) hM hj q1 q2 rfl) (t1.trans (t2 _ _ _)) m2 (λk hk=>?_) (λP0 l=>⟨_,(L P0 l).trans (MY all),?_,?_⟩) ⟨g.fr,g.rk,g.op,g.lt,g.ow,g.ia,g.ns,λz hz=>?_,g.is,g.nd⟩ ⟨by show(D.rows++[_]).length<=_;rw[rO];omega,by show(D.aT.filter _).length<=_;omega,by show D.ents.length<=_;omega,by show(D.stays.map _).length<=_;rw[bu];omega,by show D.asked.length<=_;omega,by show(D.bx++[_]).length<=_;rw[rO];omega,by show D.inv.length<=_;omega⟩
 ·simp only[bH,cM,cN]at hk⊢;omega
 ·have I:=l.y0 (Ext.put (o:=wJ D.rows a_ "bar" [.str d4]) l.lg);have h2:=I.Pl (Ext.put (o:=.bW (nS (D.bx++[d4]))) I.bn);exact((g9.put l.lg (by simp)).trans (g9.put I.bn (by simp))).trans (g9.put h2.rk (by simp))
 ·have I:=l.y0 (Ext.put (o:=wJ D.rows a_ "bar" [.str d4]) l.lg);have h2:=I.Pl (Ext.put (o:=.bW (nS (D.bx++[d4]))) I.bn);exact h2.Pk (Ext.put h2.rk)
 ·rcases dF.mp hz with hz|hz
  ·exact P.g.bs z hz
  ·rw[de.mp hz];exact h7
end
section
variable {A A1:Ab}{j t ks kb ka:Nat}{D:Dat}{iv asked:List Str}{ent:Str->Int}{d4 jj val c6 v p:Str}
def P4(h:RA A aN rows aT ents aO aQ iv)(tu:fR rows)(k:di aT ents ent)(hw:a_.length<=1000)(hv:d4.length<=1000)(hl:rows.length<dZ):
  oJ [.at aN,.str a_,.str d4] A=fX A (.ok .cA ((A.set (aN+1) (wJ rows a_ "unbar" [.str d4])).set (aN+5) (.bW (nS (aQ.filter λy=>!(y==d4)))))) [((aT.lookup a_).isNone,"NotIn","not in"),(decide (iJ aT a_<2),"NoRight","no right"),(!aQ.contains d4,"Known","known")]:=by
 show cI (kC.1 [.sh (.at aN),.sh (.str a_),.sh (.str d4)] A)=_;unfold kC;simp only[ev,cP,fg,fE,h.call (m:="need_in") rfl,sq h tu hw];refine EC (λq=>by simp only[q,cj,ev]) λq=>?_
 simp only[q,cH,cg,ev,cP,fg,fE,h.call (m:="need_keeper") rfl,Y4 h tu k hw q];refine EC (λq=>by simp only[q,cj,ev]) λq=>?_
 have s:=BU (z:=d4) (y:=" is not barred") hv (by decide+kernel);have g:(e_ (nS aQ) (.inr d4)).isSome=aQ.contains d4:=by rw[vF];cases aQ.contains d4<;>rfl
 simp only[q,cH,cg,ev,cP,fg,fE,h.Mr (iw tu),g];refine EC (λq=>by simp only[q,ev,cP,fg,fE,s]) λq=>?_
 have w:=u9 (a_:=a_) (c7:="unbar") (ps:=[.str d4]) h (iw tu) hl (by show 3+1<=dZ;decide) rfl;have h1:=h.y0 (Ext.put (o:=wJ rows a_ "unbar" [.str d4]) h.lg);have p:=BS (z:=d4) (v:=.bl true) h1.bn (by rw[vF,aY (by simpa using q)]);rw[HI]at p;simp only[q,ev,cP,fg,fE,h.call (m:="write_row") rfl,(zq (b:=a_)).1,w,h1.YV,BR h1.bn,p,fX]
theorem P5(q:cx A bf a9)(hi:a9.lookup c6=some aN)(h:RA A aN rows aT ents aO aQ iv)(hw:a_.length<=1000)(hv:d4.length<=1000)(hR:oJ [.at aN,.str a_,.str d4] A=fX A (.ok .cA A1) cs):
  gB [.at 0,.tup [.str "unbar",.str a_,.str c6,.str d4]] A=fX A (.ok .cA A1) ((!((bf.lookup a_).isSome&&(bf.lookup d4).isSome),"NoPerson","no person")::cs):=by
 show cI (fT.1 [.sh (.at 0),.sh (.tup [.str "unbar",.str a_,.str c6,.str d4]),.no] A)=_;unfold fT;simp only[ev,cP,fg,fE,zO,cF,b_,sn,String.reduceBEq,bU,q.call (m:="unbar") rfl,Y2];show cI (kE.1 [.sh (.at 0),.sh (.str a_),.sh (.str c6),.sh (.str d4)] A)=_;unfold kE;simp only[ev,cP,fg,fE,q.call (m:="place_for") rfl,zq,mi q hw hv hi];cases((bf.lookup a_).isSome&&(bf.lookup d4).isSome)with
 |false=>rfl
 |true=>simp only[cj,ev,cP,fg,fE,h.call (m:="unbar") rfl,hR,bdX];rfl
theorem MZ(h:bK A j ks kb ka rows bj stays bx asked aP v p)(k:di bj ents ent):eM [aZ 3 A (.at j),.tup [.str "unbar",.str a_,.str c6,.str d4]]=.ok (fW [(decide (iJ bj a_<2),"NoRight","no right"),(!bx.contains d4,"Known","known")]):=by
 show dC (cT.1 [.sh (aZ 3 A (.at j)),.sh (.tup [.str "unbar",.str a_,.str c6,.str d4]),.no,.no,.no,.no])=_;unfold cT;have sl:qv (.ok (.tup [.str "unbar",.str a_,.str c6,.str d4])) (.ok none) (Dq (.ok (.int 2)))=.ok (.tup [.str "unbar",.str a_]):=rfl;have gt:∀a b Y c e,ID (gT [2,3]) (.ok (.tup [a,b])) (c::e:: .no:: .no::Y)=.ok (.nx (c::e:: .sh a:: .sh b::Y)):=λ_ _ _ _ _=>rfl;have g:zu (.str "unbar") (.tup [.str "role",.str "out"])=.ok (.bl false):=rfl;have l:zu (.str "unbar") (.tup [.str "out",.str "bar"])=.ok (.bl false):=rfl;cases r:decide (iJ bj a_<2)<;>cases I:bx.contains d4<;>simp only[ev,cP,zO,Rk,sl,gt,xa (h.vE (n:=1)) k,g,l,sn,String.reduceBEq,bU,cF,b_,h.Mu (n:=1),uO,fW,cj,cH,cg,pK,kT,dg,d9,r,I]
theorem P6(h:bK A j ks kb ka rows bj stays bx asked aP v p)(f:fR rows)(hl:rows.length<dZ)(ha:bx.length<=dZ):
  ∃A' q,iC [.at j,.tup [.str "unbar",.str a_,.str c6,.str d4]] A=.ok .cA A'/\A.length<=q/\g9 A A' (jS j ks kb ka)/\bK A' j ks q ka (rows++[iI rows a_ "unbar" [.str d4]]) bj stays (bx.filter λy=>!(y==d4)) asked aP v p:=by
 have h0:=h.ext (Ext.push (o:=.bW EE)) λ_ _=>rfl;have w:=vO (a_:=a_) (ps:=[.str "unbar",.str d4]) h0 f hl (by show 2+2<=dZ;decide) rfl;have h1:=h0.FW (Ext.put (o:=.lst (rows++[iI rows a_ "unbar" [.str d4]])) h0.rw);have t1:=(g9.push (A:=A) (o:=.bW EE) (S:=jS j ks kb ka)).trans (g9.put (o:=(.lst (rows++[iI rows a_ "unbar" [.str d4]]))) h0.rw (by simp));have h2:=h1.ext (Ext.push (o:=.lst ((bx.filter λy=>!(y==d4)).map .str))) λ_ _=>rfl;refine⟨_,_,?_,t1.le,t1.trans (g9.push.trans (g9.put h2.o (by simp))),h1.abA⟩;show cI (eE.1 [.sh (.at j),.sh (.tup [.str "unbar",.str a_,.str c6,.str d4]),.no,.no,.no,.no] A)=_;unfold eE;have s1:qv (.ok (.tup [.str "unbar",.str a_,.str c6,.str d4])) (.ok none) (Dq (.ok (.int 2)))=.ok (.tup [.str "unbar",.str a_]):=rfl;have s2:qv (.ok (.tup [.str "unbar",.str a_,.str c6,.str d4])) (Dq (.ok (.int 3))) (.ok none)=.ok (.tup [.str d4]):=rfl;have s3:Af (.ok (.bW EE)) (.ok (.str "unbar")) (.ok (.str "unbar"))=.ok (.str "unbar"):=rfl;have s4:vp (.tup [.str "unbar"]) (.tup [.str d4])=.ok (.tup [.str "unbar",.str d4]):=rfl;have b:zu (.str "unbar") (.tup [.str "out",.str "bar"])=.ok (.bl false):=rfl;simp only[ev,cP,fg,fE,zO,s1,zq,Y5,nm1,nm2,cF,b_,s2,s3,s4,w,sn,String.reduceBEq,bU,FU,h1.Mu (n:=3)];rw[ny (AK:=[.sh (.tup [.str "unbar",.str a_,.str c6,.str d4])]) (λz=>!(z==d4)) rfl ha rfl (λ_=>rfl) ?hC]
 case hC=>intro z hz;simp only[ev,zO,HH]
 simp only[uN nv,n_,ev,cP,fg,fE,h2.p_o (jj:="barred") rfl,b]
 rfl
def P7(P:Pr A aN j D t)(q:cx A bf a9)(hM:gj A bN c8)(hi:a9.lookup c6=some aN)(hj:c8.lookup c6=some j)(hp:∀z,(bf.lookup z).isSome=bN.contains z)(h6:a_∈six)(h7:d4∈six)(ht:t<=1000):Res A aN j D t [.str "unbar",.str a_,.str c6,.str d4]:=by
 have tu:=P.g.fr.tu;have hs:=eX h6;have M:=eX h7;have b1:=P.b.b1;have b2:=P.b.b2;have b3:=P.b.b3;have b4:=P.b.b4;have b5:=P.b.b5;have b6:=P.b.b6;have b7:=P.b.b7;have hR:=λ{A:Ab} (r:RA A aN D.rows D.aT D.ents (J0 D.d D.v D.p) D.bx D.inv)=>P4 (a_:=a_) (d4:=d4) r tu P.g.rk hs M (dv (by omega));have S:=Ct (a_:=a_) (x3:=d4) (c9:=[]) (wh:=true) hM P.m hj (.inr ⟨.inr (.inr (.inr (.inr rfl))),rfl⟩) (MZ P.m P.g.rk);have I:=λ{A:Ab} (q:cx A bf a9) r=>P5 (c6:=c6) q hi r hs M (hR r);simp only[hp]at I;simp only[dg,iM]at S;refine vd P S (I q P.r) (by simp) λall LW=>?_
 obtain⟨A1,L,q1,le,t1,m1⟩:=P6 (a_:=a_) (c6:=c6) (d4:=d4) P.m tu (dv (by omega)) (du (dv (by omega)));have g:=P.g.row (us:=[.int (D.rows.length+1),.str a_,.str "unbar",.str d4]) rfl (by show 4<=10;decide);obtain⟨A2,q2,t2,m2⟩:=Cv m1 g.fr.tu P.g.rk P.g.op P.g.ow (by rw[rO];exact dv (by omega)) (du (dv (by omega))) (dv (by omega));refine ve (D':={Dr D a_ "unbar" [.str d4]with bx:=D.bx.filter λy=>!(y==d4),kb:=L}) P q LW (Cu (.inr (.inr (.inr (.inr (.inr rfl))))) hM hj q1 q2 rfl) (t1.trans (t2 _ _ _)) m2 (λk hk=>?_) (λP0 l=>⟨_,(I P0 l).trans (MY all),?_,?_⟩) ⟨g.fr,g.rk,g.op,g.lt,g.ow,g.ia,g.ns,λz hz=>g.bs z (fJ.mp hz).1,g.is,g.nd⟩ ⟨by show(D.rows++[_]).length<=_;rw[rO];omega,by show D.aT.length<=_;omega,by show D.ents.length<=_;omega,by show D.stays.length<=_;omega,by show D.asked.length<=_;omega,by show(D.bx.filter _).length<=_;have:=mI (λy=>!(y==d4)) D.bx;omega,by show D.inv.length<=_;omega⟩
 ·simp only[bH,cM,cN]at hk⊢;omega
 ·have n:=l.y0 (Ext.put (o:=wJ D.rows a_ "unbar" [.str d4]) l.lg);exact(g9.put l.lg (by simp)).trans (g9.put n.bn (by simp))
 ·have n:=l.y0 (Ext.put (o:=wJ D.rows a_ "unbar" [.str d4]) l.lg);exact n.Pl (Ext.put n.bn)
end
noncomputable def UP(a b c:Int):Bool:=decide (a<2)||((a==2)&&(decide (1<b)||decide (1<c)))
section
variable {A A1:Ab}{j t ks kb ka:Nat}{D:Dat}{iv asked:List Str}{ent:Str->Int}{d4 c6 role v p:Str}
theorem M0(h:RA A aN rows aT ents aO aQ iv)(tu:fR rows)(k:di aT ents ent)(h4:role∈gZ)(q:(aT.lookup a_).isNone=false)(q2:(aT.lookup d4).isNone=false):oW [aZ 5 A (.at aN),.str a_,.str d4,.str role]=.ok (.bl (!UP (iJ aT a_) (iJ aT d4) (lvl role))):=by
 obtain⟨r,g⟩:=vc q;obtain⟨s,hs⟩:=vc q2;show dC (ib.1 [.sh (aZ 5 A (.at aN)),.sh (.str a_),.sh (.str d4),.sh (.str role)])=_;unfold ib;have l1:w6 [.str "speaker"]=.ok (.int 1):=kK (by decide+kernel);have e:=UK (k.lk g);simp only[ev,cP,h.rN (iw tu),dS,g,hs,dq,lh,e.1,e.2,kK (k.lk g),kK (k.lk hs),kK h4,l1,Rk];rw[lH g,lH hs];have b:=Cs r;unfold UP;by_cases l:lvl r=2
 ·simp only[l,decide_true,ev];congr 2;rw[tX];simp only[iK,pv,tD,Bool.and_eq_false_iff,o_];constructor
  ·intro q;refine⟨by decide,.inr ?_⟩;split at q<;>omega
  ·intro q;have:¬(1<lvl s)/\¬(1<lvl role):=q.2.resolve_left (by simp);split<;>omega
 ·simp only[l,decide_false,ev,cP,h.rN (iw tu),dS,g,dq,lh,e.1];congr 2;rw[tX];simp only[iK,pv,tD,Bool.and_eq_false_iff,o_,jr];constructor
  ·intro q;exact⟨by omega,.inl l⟩
  ·intro q;omega
abbrev csR(aT:List (Str×Str))(a_ d4 role:Str):List (Bool×Str×Str):=[((aT.lookup a_).isNone,"NotIn","not in"),((aT.lookup d4).isNone,"NotIn","not in"),(UP (iJ aT a_) (iJ aT d4) (lvl role),"NoRight","no right"),(aT.lookup d4==some role,"Known","known")]
theorem P8(h:RA A aN rows aT ents aO aQ iv)(tu:fR rows)(k:di aT ents ent)(hw:a_.length<=1000)(hv:d4.length<=1000)(h4:role∈gZ):gA [.at aN,.str a_,.str d4,.str role] A=fX A (gA [.at aN,.str a_,.str d4,.str role] A) (csR aT a_ d4 role):=by
 have r:role.length<=1000:=(by decide+kernel:∀z∈gZ,z.length<=1000) role h4;refine EC (λq=>?_) λq=>EC (λl=>?_) λl=>EC (λI=>?_) λI=>EC (λM=>?_) λ_=>rfl
 all_goals
  show cI (iB.1 [.sh (.at aN),.sh (.str a_),.sh (.str d4),.sh (.str role)] A)=_;unfold iB;simp only[ev,cP,fg,fE,h.call (m:="need_in") rfl,sq h tu hw,q,cj,cH,cg]
 ·simp only[ev,cP,fg,fE,h.call (m:="need_in") rfl,sq h tu hv,l,cj]
 ·obtain⟨w,L⟩:=jC (z:=a_) (acc:=Str.empty) (n:=0) (k:=λacc=>lq (.ok (.str " may not make ")) (λacc=>lq (.ok (.str d4)) (λacc=>lq (.ok (.str " a ")) (λacc=>lq (.ok (.str role)) (λacc=>zG acc) acc) acc) acc) acc) (bA 0) hw (by decide) λa g=>jC g (by decide+kernel) (by decide) λa g=>jC g hv (by decide) λa g=>jC g (by decide+kernel) (by decide) λa g=>jC g r (by decide) λa g=>jN (by omega);have tr:∀b,pZ (.bl b)=.ok b:=λ_=>rfl;simp only[ev,cP,fg,fE,h.call (m:="need_in") rfl,sq h tu hv,l,cH,cg,h.dM (n:=4) (m:="may_give") rfl,M0 h tu k h4 q l,I,dg,d9,tr,L]
 ·obtain⟨s,hs⟩:=vc l;have es:s=role:=by rw[hs]at M;simpa using M
  subst es;obtain⟨w,L⟩:=jC (z:=d4) (acc:=Str.empty) (n:=0) (k:=λacc=>lq (.ok (.str " is a ")) (λacc=>lq (.ok (.str s)) (λacc=>zG acc) acc) acc) (bA 0) hv (by decide) λa g=>jC g (by decide+kernel) (by decide) λa g=>jC g r (by decide) λa g=>jN (by omega);have tr:∀b,pZ (.bl b)=.ok b:=λ_=>rfl;simp only[ev,cP,fg,fE,h.call (m:="need_in") rfl,sq h tu hv,l,cH,cg,h.dM (n:=4) (m:="may_give") rfl,M0 h tu k h4 q l,I,dg,d9,tr,h.rN (iw tu),dS,hs,xw,dq,lh,bU,L]
def UQ(h:RA A aN rows aT ents aO aQ iv)(tu:fR rows)(k:di aT ents ent)(hw:a_.length<=1000)(hv:d4.length<=1000)(h4:role∈gZ)(hl:rows.length+1<dZ)(hk:aT.length+1<dZ)(all:∀c∈csR aT a_ d4 role,c.1=false):
  ∃A' dm dU,gA [.at aN,.str a_,.str d4,.str role] A=.ok .cA A'/\iE (rows++[iI rows a_ "role" [.str d4,.str role]]) (fN aT d4 role) dm dU/\g9 A A' (iS aN)/\RA A' aN dm dU ents aO aQ iv:=by
 have q:(aT.lookup a_).isNone=false:=all ((aT.lookup a_).isNone,"NotIn","not in") (by simp);have g:(aT.lookup d4).isNone=false:=all ((aT.lookup d4).isNone,"NotIn","not in") (by simp);have I:UP (iJ aT a_) (iJ aT d4) (lvl role)=false:=all (UP (iJ aT a_) (iJ aT d4) (lvl role),"NoRight","no right") (by simp);have r:(aT.lookup d4==some role)=false:=all (aT.lookup d4==some role,"Known","known") (by simp);obtain⟨s,hs⟩:=vc g;have es:(s==role)=false:=by rw[hs]at r;simpa using r
 obtain⟨A1,g1,g2,g3⟩:=MO (a_:=a_) (d4:=d4) (role:=role) h (iw tu) (by omega) (by rw[jX];omega);rw[lx]at g2 g3;have pl:=xf (l:=aT) (z:=d4) (a:=role);obtain⟨A2,dm,dU,s1,s2,s3,s4⟩:=Rj g3 (iw (qF tu)) (k.role (cC.mpr ⟨_,ji hs,rfl⟩) h4) (by rw[rO];omega) (by omega);refine⟨A2,dm,dU,?_,s2,(g9.of g2 (by simp)).trans (g9.of s3 (by simp)),s4⟩;show cI (iB.1 [.sh (.at aN),.sh (.str a_),.sh (.str d4),.sh (.str role)] A)=_;unfold iB;have tr:∀b,pZ (.bl b)=.ok b:=λ_=>rfl;simp only[ev,cP,fg,fE,h.call (m:="need_in") rfl,sq h tu hw,sq h tu hv,q,g,cH,cg,h.dM (n:=4) (m:="may_give") rfl,M0 h tu k h4 q g,I,dg,d9,tr,h.rN (iw tu),dS,hs,xw,dq,lh,es,h.call (m:="give_role") rfl,g1,g3.call (m:="see_to_owner") rfl,s1]
theorem bdY{q:Rz Tr}{Y:bX}:∀{cs:List (Bool×Str×Str)},cI (rX (fX A q cs) Y)=fX A (cI (rX q Y)) cs
 |[]=>rfl
 |(true,_,_)::cs=>rfl
 |(false,_,_)::cs=>bdY (cs:=cs)
theorem UR(q:cx A bf a9)(hi:a9.lookup c6=some aN)(h:RA A aN rows aT ents aO aQ iv)(hw:a_.length<=1000)(hv:d4.length<=1000)(hR:gA [.at aN,.str a_,.str d4,.str role] A=fX A (gA [.at aN,.str a_,.str d4,.str role] A) cs):
  gB [.at 0,.tup [.str "role",.str a_,.str c6,.str d4,.str role]] A=fX A (cI (rX (gA [.at aN,.str a_,.str d4,.str role] A) [.sh (.at 0),.sh (.str a_),.sh (.str c6),.sh (.str d4),.sh (.str role)])) ((!((bf.lookup a_).isSome&&(bf.lookup d4).isSome),"NoPerson","no person")::cs):=by
 show cI (fT.1 [.sh (.at 0),.sh (.tup [.str "role",.str a_,.str c6,.str d4,.str role]),.no] A)=_;unfold fT;simp only[ev,cP,fg,fE,zO,cF,b_,sn,String.reduceBEq,bU,q.call (m:="role") rfl,Y2];show cI (md.1 [.sh (.at 0),.sh (.str a_),.sh (.str c6),.sh (.str d4),.sh (.str role)] A)=_;unfold md;simp only[ev,cP,fg,fE,q.call (m:="place_for") rfl,zq,mi q hw hv hi];cases((bf.lookup a_).isSome&&(bf.lookup d4).isSome)with
 |false=>rfl
 |true=>
  simp only[cj,ev,cP,fg,fE,h.call (m:="role") rfl];exact(cV (λσ=>cI (rX σ _)) hR).trans bdY
def P9(h:bK A j ks kb ka rows bj stays bx asked aP v p)(k:di bj ents ent)(h4:role∈gZ):eM [aZ 3 A (.at j),.tup [.str "role",.str a_,.str c6,.str d4,.str role]]=.ok (fW (csR bj a_ d4 role).tail):=by
 show dC (cT.1 [.sh (aZ 3 A (.at j)),.sh (.tup [.str "role",.str a_,.str c6,.str d4,.str role]),.no,.no,.no,.no])=_;unfold cT;have sl:qv (.ok (.tup [.str "role",.str a_,.str c6,.str d4,.str role])) (.ok none) (Dq (.ok (.int 2)))=.ok (.tup [.str "role",.str a_]):=rfl;have gt:∀a b Y c e,ID (gT [2,3]) (.ok (.tup [a,b])) (c::e:: .no:: .no::Y)=.ok (.nx (c::e:: .sh a:: .sh b::Y)):=λ_ _ _ _ _=>rfl;have l:zu (.str "role") (.tup [.str "role",.str "out"])=.ok (.bl true):=rfl;have r:zu (.str role) (.tup [.str "keeper",.str "owner"])=.ok (.bl (decide (1<lvl role))):=by
  have:role="guest"\/role="speaker"\/role="keeper"\/role="owner":=by simpa using h4
  rcases this with rfl|rfl|rfl|rfl<;>rfl
 have ob:∀a b,WB (.ok a) (.ok b)=.ok (a||b):=λa b=>by cases a<;>rfl
 have ab:∀a b,IB (.ok a) (.ok b)=.ok (a&&b):=λa b=>by cases a<;>rfl
 simp only[ev,cP,zO,Rk,sl,gt,xa (h.vE (n:=1)) k,l,ED,cF,b_];refine ifW (λq=>by simp only[q,ev]) λq=>?_
 simp only[q,ev,cP,zO,Rk,r,ob,ab,bU];refine ifW (λq=>by simp only[UP]at q;simp only[q,ev]) λg=>?_
 simp only[UP]at g;obtain⟨s,hs⟩:=vc q;simp only[g,ev,cP,zO,h.vE (n:=1),dS,hs,dq,lh,fW];rw[show(some s==some role)=(s==role)from rfl];cases(s==role)<;>rfl
theorem US(h:bK A j ks kb ka rows bj stays bx asked aP v p)(f:fR rows)(q:rows.length<dZ)(ha:bj.length<dZ):
  ∃A',iC [.at j,.tup [.str "role",.str a_,.str c6,.str d4,.str role]] A=.ok .cA A'/\g9 A A' (jS j ks kb ka)/\bK A' j ks kb ka (rows++[iI rows a_ "role" [.str d4,.str role]]) (fN bj d4 role) stays bx asked aP v p:=by
 have h0:=h.ext (Ext.push (o:=.bW EE)) λ_ _=>rfl;have w:=vO (a_:=a_) (ps:=[.str "role",.str d4,.str role]) h0 f q (by show 2+3<=dZ;decide) rfl;have h1:=h0.FW (Ext.put (o:=.lst (rows++[iI rows a_ "role" [.str d4,.str role]])) h0.rw);have t1:=(g9.push (A:=A) (o:=.bW EE) (S:=jS j ks kb ka)).trans (g9.put (o:=.lst (rows++[iI rows a_ "role" [.str d4,.str role]])) h0.rw (by simp));refine⟨_,?_,t1.trans (g9.put (o:=.bW (dP .str (fN bj d4 role))) h1.rl (by simp)),h1.Po (Ext.put h1.rl)⟩;show cI (eE.1 [.sh (.at j),.sh (.tup [.str "role",.str a_,.str c6,.str d4,.str role]),.no,.no,.no,.no] A)=_;unfold eE;have s1:qv (.ok (.tup [.str "role",.str a_,.str c6,.str d4,.str role])) (.ok none) (Dq (.ok (.int 2)))=.ok (.tup [.str "role",.str a_]):=rfl;have s2:qv (.ok (.tup [.str "role",.str a_,.str c6,.str d4,.str role])) (Dq (.ok (.int 3))) (.ok none)=.ok (.tup [.str d4,.str role]):=rfl;have s3:Af (.ok (.bW EE)) (.ok (.str "role")) (.ok (.str "role"))=.ok (.str "role"):=rfl;have s4:vp (.tup [.str "role"]) (.tup [.str d4,.str role])=.ok (.tup [.str "role",.str d4,.str role]):=rfl;have s5:∀A,vZ (.ok (.tup [.str "role",.str d4,.str role])) A=.ok (.tup [.str "role",.str d4,.str role]) A:=λ_=>rfl;have b:zu (.str "role") (.tup [.str "out",.str "bar"])=.ok (.bl false):=rfl;have ep:=mC (z:=d4) (t:=.str role) (Y:=[.sh (.at j),.sh (.tup [.str "role",.str a_,.str c6,.str d4,.str role]),.sh (.str "role"),.sh (.str a_),.sh (.at A.length),.sh (.int (rows.length+1))]) h1.rl (by rw[jX];exact ha);rw[lx]at ep;simp only[ev,cP,fg,fE,zO,s1,zq,Y5,nm1,nm2,cF,b_,s2,s3,s4,s5,w,sn,String.reduceBEq,bU,n_,kz,h1.Pn,ep,b]
theorem UT(P:Pr A aN j D t)(hH:cx A bf a9)(hM:gj A bN c8)(hi:a9.lookup c6=some aN)(hj:c8.lookup c6=some j)(hp:∀z,(bf.lookup z).isSome=bN.contains z)(h6:a_∈six)(h7:d4∈six)(h4:role∈gZ)(ht:t<=1000):Res A aN j D t [.str "role",.str a_,.str c6,.str d4,.str role]:=by
 have tu:=P.g.fr.tu;have hs:=eX h6;have M:=eX h7;have b1:=P.b.b1;have b2:=P.b.b2;have b3:=P.b.b3;have b4:=P.b.b4;have b5:=P.b.b5;have b6:=P.b.b6;have b7:=P.b.b7;have hr:=Ct (a_:=a_) (x3:=d4) (c9:=[.str role]) (wh:=true) hM P.m hj (.inr ⟨.inr (.inl rfl),rfl⟩) (P9 P.m P.g.rk h4);have n:=λ{A:Ab} (hH:cx A bf a9) (r:RA A aN D.rows D.aT D.ents (J0 D.d D.v D.p) D.bx D.inv)=>UR (c6:=c6) hH hi r hs M (P8 r tu P.g.rk hs M h4);simp only[hp]at n;simp only[dg,iM]at hr;refine vd P hr (n hH P.r) (by simp) λall LW=>?_
 have Zd:=λc n=>all c (cw _ n);obtain⟨A1,q1,t1,m1⟩:=US (a_:=a_) (c6:=c6) (d4:=d4) (role:=role) P.m tu (dv (by omega)) (dv (by omega));obtain⟨s,S⟩:=vc (Zd ((D.aT.lookup d4).isNone,"NotIn","not in") (by simp));have lL:d4∈D.aT.map (·.1):=cC.mpr ⟨_,ji S,rfl⟩;have Y9:=P.g.rk.role lL h4;have L:=zl (a:=role) lL;have pl:=xf (l:=D.aT) (z:=d4) (a:=role);have pl2:(fN D.aT d4 role).length=D.aT.length:=by have:=cV List.length L;simpa using this
 obtain⟨A2,dm,dU,q2,I,x2,m2⟩:=zm m1 (qF tu) Y9 (P.g.op.trans L.symm) (by rw[rO];exact dv (by omega)) (du (dv (by omega))) (dv (by omega));have ol:=I.len;rw[rO]at ol;refine ve (D':={D with rows:=dm,aT:=dU}) P hH LW (Cu (.inr (.inr (.inl rfl))) hM hj q1 q2 rfl) (t1.trans (g9.of x2 (by simp))) m2 Kept.refl (λP0 r2=>?_) ⟨I.j6 (P.g.fr.add rfl (by show 5<=10;decide)),I.MQ Y9,(P.g.op.trans L.symm).trans I.names.symm,EF I λq hq=>?_,I.ow,P.g.ia,λz hz=>P.g.ns z (by have hz:z∈dU.map (·.1):=hz;rwa[I.names,L]at hz),P.g.bs,P.g.is,P.g.nd⟩ ⟨by show dm.length<=_;omega,by show dU.length<=_;omega,by show D.ents.length<=_;omega,by show D.stays.length<=_;omega,by show D.asked.length<=_;omega,by show D.bx.length<=_;omega,by show D.inv.length<=_;omega⟩
 ·obtain⟨A3,Y_,UN,q3,o3,x3,r3⟩:=UQ (a_:=a_) (d4:=d4) (role:=role) r2 tu P.g.rk hs M h4 (dv (by omega)) (dv (by omega)) Zd;obtain⟨rfl,rfl⟩:=I.one o3;have n:=(n P0 r2).trans (MY all);rw[q3]at n;exact⟨A3,n,x3,r3⟩
 ·have Q6:q.1∈D.aT.map (·.1):=by rw[<-L];exact f' hq
  obtain⟨q',V7,e⟩:=cC.mp Q6;have:=P.g.lt q' V7;show D.ent q.1<((D.rows++[iI D.rows a_ "role" [.str d4,.str role]]).length:Int)+1;rw[rO,<-e];omega
end
section
variable {A A1:Ab}{j t ks kb ka:Nat}{D:Dat}{iv asked:List Str}{ent:Str->Int}{c6 d v p:Str}
def Ze(h:RA A aN rows aT ents aO aQ iv)(tu:fR rows)(k:di aT ents ent)(hw:a_.length<=1000)(hv:aP.length<=1000)(hl:rows.length<dZ):
  sV [.at aN,.str a_,.str aP] A=fX A (.ok .cA ((A.set (aN+1) (wJ rows a_ "out" [.str aP])).set (aN+2) (.bW (dP .str (iA aT aP))))) [((aT.lookup a_).isNone,"NotIn","not in"),((aT.lookup aP).isNone,"NotIn","not in"),(decide (iJ aT a_<2)||decide (iJ aT a_<=iJ aT aP),"NoRight","no right")]:=by
 show cI (oG.1 [.sh (.at aN),.sh (.str a_),.sh (.str aP)] A)=_;unfold oG;simp only[ev,cP,fg,fE,h.call (m:="need_in") rfl,sq h tu hw];refine EC (λq=>by simp only[q,cj,ev]) λq=>?_
 simp only[q,cH,cg,ev,cP,fg,fE,h.call (m:="need_in") rfl,sq h tu hv];refine EC (λq=>by simp only[q,cj,ev]) λg=>?_
 simp only[g,cH,cg,ev,cP,fg,fE,h.call (m:="need_above") rfl,Rm h tu k hw hv q];refine EC (λq=>by simp only[q,cj,ev]) λl=>?_
 obtain⟨r,n⟩:=vc g;have w:=u9 (a_:=a_) (c7:="out") (ps:=[.str aP]) h (iw tu) hl (by show 3+1<=dZ;decide) rfl;have h1:=h.y0 (Ext.put (o:=wJ rows a_ "out" [.str aP]) h.lg);have p:=BS (z:=aP) (v:=.str r) h1.rk (by rw[eC,n];rfl);rw[wX]at p;simp only[l,cH,cg,ev,cP,fg,fE,h.call (m:="write_row") rfl,(zq (b:=a_)).1,w,h1.Pj,BR h1.rk,p,fX]
theorem Zf(q:cx A bf a9)(hi:a9.lookup c6=some aN)(h:RA A aN rows aT ents aO aQ iv)(hw:a_.length<=1000)(hv:aP.length<=1000)(hR:sV [.at aN,.str a_,.str aP] A=fX A (.ok .cA A1) cs):
  gB [.at 0,.tup [.str "out",.str a_,.str c6,.str aP]] A=fX A (.ok .cA A1) ((!((bf.lookup a_).isSome&&(bf.lookup aP).isSome),"NoPerson","no person")::cs):=by
 show cI (fT.1 [.sh (.at 0),.sh (.tup [.str "out",.str a_,.str c6,.str aP]),.no] A)=_;unfold fT;simp only[ev,cP,fg,fE,zO,cF,b_,sn,String.reduceBEq,bU,q.call (m:="out") rfl,Y2];show cI (oM.1 [.sh (.at 0),.sh (.str a_),.sh (.str c6),.sh (.str aP)] A)=_;unfold oM;simp only[ev,cP,fg,fE,q.call (m:="place_for") rfl,zq,mi q hw hv hi];cases((bf.lookup a_).isSome&&(bf.lookup aP).isSome)with
 |false=>rfl
 |true=>simp only[cj,ev,cP,fg,fE,h.call (m:="out") rfl,hR,bdX];rfl
theorem UU(h:bK A j ks kb ka rows bj stays bx asked d v p)(k:di bj ents ent):eM [aZ 3 A (.at j),.tup [.str "out",.str a_,.str c6,.str aP]]=.ok (fW [((bj.lookup aP).isNone,"NotIn","not in"),(decide (iJ bj a_<2)||decide (iJ bj a_<=iJ bj aP),"NoRight","no right")]):=by
 show dC (cT.1 [.sh (aZ 3 A (.at j)),.sh (.tup [.str "out",.str a_,.str c6,.str aP]),.no,.no,.no,.no])=_;unfold cT;have sl:qv (.ok (.tup [.str "out",.str a_,.str c6,.str aP])) (.ok none) (Dq (.ok (.int 2)))=.ok (.tup [.str "out",.str a_]):=rfl;have gt:∀a b Y c e,ID (gT [2,3]) (.ok (.tup [a,b])) (c::e:: .no:: .no::Y)=.ok (.nx (c::e:: .sh a:: .sh b::Y)):=λ_ _ _ _ _=>rfl;have g:zu (.str "out") (.tup [.str "role",.str "out"])=.ok (.bl true):=rfl;have l:zu (.str "out") (.tup [.str "out",.str "bar"])=.ok (.bl true):=rfl;cases r:(bj.lookup aP).isNone<;>cases I:decide (iJ bj a_<2)<;>cases L:decide (iJ bj a_<=iJ bj aP)<;>simp only[ev,cP,zO,Rk,sl,gt,xa (h.vE (n:=1)) k,g,l,ED,sn,String.reduceBEq,bU,cF,b_,fW,cj,cH,cg,pK,kT,dg,d9,r,I,L]
theorem Zg(h:bK A j ks kb ka rows bj stays bx asked d v p)(f:fR rows)(hl:rows.length<dZ)(hs:stays.length<=dZ){r:Str}(hr:bj.lookup aP=some r):
  ∃A' q,iC [.at j,.tup [.str "out",.str a_,.str c6,.str aP]] A=.ok .cA A'/\A.length<=q/\g9 A A' (jS j ks kb ka)/\bK A' j q kb ka (rows++[iI rows a_ "out" [.str aP]]) (iA bj aP) (stays.map (gC aP (rows.length+1))) bx asked d v p:=by
 have h0:=h.ext (Ext.push (o:=.bW EE)) λ_ _=>rfl;have w:=vO (a_:=a_) (ps:=[.str "out",.str aP]) h0 f hl (by show 2+2<=dZ;decide) rfl;have h1:=h0.FW (Ext.put (o:=.lst (rows++[iI rows a_ "out" [.str aP]])) h0.rw);have t1:=(g9.push (A:=A) (o:=.bW EE) (S:=jS j ks kb ka)).trans (g9.put (o:=.lst (rows++[iI rows a_ "out" [.str aP]])) h0.rw (by simp));obtain⟨b,q,g,l,I,L⟩:=HS (a_:=aP) (n:=rows.length+1) h1 hs hr;refine⟨b,q,?_,cB t1.le l,t1.trans (g9.of I (by simp)),L⟩;show cI (eE.1 [.sh (.at j),.sh (.tup [.str "out",.str a_,.str c6,.str aP]),.no,.no,.no,.no] A)=_;unfold eE;have s1:qv (.ok (.tup [.str "out",.str a_,.str c6,.str aP])) (.ok none) (Dq (.ok (.int 2)))=.ok (.tup [.str "out",.str a_]):=rfl;have s2:qv (.ok (.tup [.str "out",.str a_,.str c6,.str aP])) (Dq (.ok (.int 3))) (.ok none)=.ok (.tup [.str aP]):=rfl;have s3:Af (.ok (.bW EE)) (.ok (.str "out")) (.ok (.str "out"))=.ok (.str "out"):=rfl;have s4:vp (.tup [.str "out"]) (.tup [.str aP])=.ok (.tup [.str "out",.str aP]):=rfl;have M:zu (.str "out") (.tup [.str "out",.str "bar"])=.ok (.bl true):=rfl;simp only[ev,cP,fg,fE,zO,s1,zq,Y5,nm1,nm2,cF,b_,s2,s3,s4,w,sn,String.reduceBEq,bU,M,h1.vE (n:=3),eC,hr,dq,kh,g]
theorem Zh(P:Pr A aN j D t)(q:cx A bf a9)(hM:gj A bN c8)(hi:a9.lookup c6=some aN)(hj:c8.lookup c6=some j)(hp:∀z,(bf.lookup z).isSome=bN.contains z)(h6:a_∈six)(h7:aP∈six)(ht:t<=1000):Res A aN j D t [.str "out",.str a_,.str c6,.str aP]:=by
 have tu:=P.g.fr.tu;have hs:=eX h6;have S:=eX h7;have b1:=P.b.b1;have b2:=P.b.b2;have b3:=P.b.b3;have b4:=P.b.b4;have b5:=P.b.b5;have b6:=P.b.b6;have b7:=P.b.b7;have hr:=Ct (a_:=a_) (x3:=aP) (c9:=[]) (wh:=true) hM P.m hj (.inr ⟨.inr (.inr (.inl rfl)),rfl⟩) (UU P.m P.g.rk);have L:=λ{A:Ab} (q:cx A bf a9) (r:RA A aN D.rows D.aT D.ents (J0 D.d D.v D.p) D.bx D.inv)=>Zf (c6:=c6) q hi r hs S (Ze r tu P.g.rk hs S (dv (by omega)));simp only[hp]at L;simp only[dg,iM]at hr;refine vd P hr (L q P.r) (by simp) λall LW=>?_
 have lt:iJ D.aT aP<iJ D.aT a_:=by
  have:=all (decide (iJ D.aT a_<2)||decide (iJ D.aT a_<=iJ D.aT aP),"NoRight","no right") (by simp);simp only[tD,o_]at this;omega
 obtain⟨r,M⟩:=vc (all ((D.aT.lookup aP).isNone,"NotIn","not in") (by simp));obtain⟨A1,Cr,q1,le,t1,m1⟩:=Zg (a_:=a_) (c6:=c6) P.m tu (dv (by omega)) (du (dv (by omega))) M;have g:=(P.g.row (us:=[.int (D.rows.length+1),.str a_,.str "out",.str aP]) rfl (by show 4<=10;decide)).drop (n:=D.rows.length+1) lt;have dl:=mI (λp:Str×Str=>decide (p.1≠aP)) D.aT;obtain⟨A2,q2,t2,m2⟩:=Cv m1 g.fr.tu g.rk g.op g.ow (by rw[rO];exact dv (by omega)) (by rw[bu];exact du (dv (by omega))) (dv (by show(D.aT.filter _).length<_;omega));refine ve (D':={Dr D a_ "out" [.str aP]with aT:=iA D.aT aP,stays:=D.stays.map (gC aP (D.rows.length+1)),ks:=Cr}) P q LW (Cu (.inr (.inr (.inr (.inl rfl)))) hM hj q1 q2 rfl) (t1.trans (t2 _ _ _)) m2 (λk M=>?_) (λP0 l=>⟨_,(L P0 l).trans (MY all),?_,?_⟩) g ⟨by show(D.rows++[_]).length<=_;rw[rO];omega,by show(D.aT.filter _).length<=_;omega,by show D.ents.length<=_;omega,by show(D.stays.map _).length<=_;rw[bu];omega,by show D.asked.length<=_;omega,by show D.bx.length<=_;omega,by show D.inv.length<=_;omega⟩
 ·simp only[bH,cM,cN]at M⊢;omega
 ·have I:=l.y0 (Ext.put (o:=wJ D.rows a_ "out" [.str aP]) l.lg);exact(g9.put l.lg (by simp)).trans (g9.put I.rk (by simp))
 ·have I:=l.y0 (Ext.put (o:=wJ D.rows a_ "out" [.str aP]) l.lg);exact I.Pk (Ext.put I.rk)
end
section
def Cw{n:Nat}{t:Tr}(h:yu t=true):fF (n+1) [t,t]=.ok (.bl true):=by
 cases t with
 |cA=>rfl
 |bl b=>cases b<;>rfl
 |int k=>show Rs.ok (Tr.bl (k==k))=_;rw[bU]
 |str z=>show Rs.ok (Tr.bl (z==z))=_;rw[bU]
 |_=>cases h
theorem M3{F:bX->Rs Tr}:∀{ts:List Tr} {c d:Cell},(∀t∈ts,F [.sh t,.sh t]=.ok (.bl true))->Fb (gT [0,1]) (λ_=>.ok true) F (ts.map λt=>.tup [t,t]) [c,d]=.ok (ts.map λ_=>.bl true)
 |[],_,_,_=>rfl
 |t::ts,c,d,h=>by
  show(Oc (F [.sh t,.sh t])).bind (λy=>(Fb (gT [0,1]) (λ_=>.ok true) F (ts.map λt=>.tup [t,t]) [.sh t,.sh t]).bind λys=>Rs.ok (y::ys))=_;rw[h t (cG ..),M3 λu b=>h u (cw _ b)]
  rfl
theorem lI{n:Nat}{ts:List Tr}(q:ts.length<=dZ)(h:∀t∈ts,fF n [t,t]=.ok (.bl true)):fF (n+1) [.tup ts,.tup ts]=.ok (.bl true):=by
 show dC ((u7 (fF n)).1 [.sh (.tup ts),.sh (.tup ts)])=_;unfold u7;have i1:SR [.tup ts,.ty "tuple"]=.ok (.bl true):=rfl;have i2:pZ (.bl true)=.ok true:=rfl;have l:∀a b:Int,Ny (.int a) (.int b)=.ok (.bl (!(a==b))):=λ_ _=>rfl;have r:zpW (.ok [.tup ts,.tup ts])=.ok (ts.map λt=>.tup [t,t]):=by
  show(if ts.length<=ts.length then Rs.ok (Q7 ts ts)else .bad)=_;rw[aY (bA _),Ec]
 have I:vX [none,none] (gT [0,1]) (λ_=>.ok true) (λY=>(dM (fF n) (yo (yl Y 0) (yo (yl Y 1) (.ok []))))) (.ok (ts.map λt=>.tup [t,t])) [.sh (.tup ts),.sh (.tup ts)]=.ok (.lst (ts.map λ_=>.bl true)):=by
  show(if(ts.map λt=>Tr.tup [t,t]).length<=dZ then _ else _)=_;rw[aY (by rw[bu];exact q)];show(Fb (gT [0,1]) _ _ _ [.no,.no]).bind _=_;rw[M3 λt g=>h t g]
  rfl
 have L:OD [.lst (ts.map λ_=>.bl true)]=.ok (.bl true):=My λt g=>by obtain⟨_,_,rfl⟩:=cC.mp g;rfl
 simp only[ev,cP,i1,i2,l,r,bU,dg,I,L]
variable {A:Ab}{i j t:Nat}{D:Dat}{name:Str}
def qR(h:cx A bf a9)(hi:a9.lookup name=some i):oX [aZ 5 A (.at 0),.str name]=.ok (aZ 3 A (.at i)):=by
 show dC (ig.1 [.sh (aZ 5 A (.at 0)),.sh (.str name)])=_;unfold ig;simp only[ev,cP,h.UA,eC,hi,dq,kh,dg,dS,lh]
def P_(h:cx A bf a9)(hi:a9.lookup name=some i)(P:Pr A i j D t):wq [aZ 5 A (.at 0),.str name]=.ok (.tup D.rows):=by
 show dC (mf.1 [.sh (aZ 5 A (.at 0)),.sh (.str name)])=_;unfold mf;have e:wo [aZ 3 A (.at i)]=.ok (.tup D.rows):=by
  show dC (me.1 [.sh (aZ 3 A (.at i))])=_;unfold me;simp only[ev,cP,P.r.abE (n:=1) P.g.fr.tu,Pt]
 simp only[ev,cP,h.dM (n:=4) (m:="place") rfl,qR h hi,P.r.dM (n:=2) (m:="rows") rfl,e]
def M4(h:cx A bf a9)(hi:a9.lookup name=some i)(P:Pr A i j D t):uZ [aZ 5 A (.at 0),.str name]=.ok (.tup ((c_ (D.aT.map (·.1))).map λz=>.tup [.str z,.str ((D.aT.lookup z).getD "")])):=by
 show dC (kI.1 [.sh (aZ 5 A (.at 0)),.sh (.str name)])=_;unfold kI;have e:uX [aZ 3 A (.at i)]=.ok (.tup ((c_ (D.aT.map (·.1))).map λz=>.tup [.str z,.str ((D.aT.lookup z).getD "")])):=by
  show dC (kG.1 [.sh (aZ 3 A (.at i))])=_;unfold kG;simp only[ev,cP,P.r.abF (n:=1) Y0,FZ P.g.rk.nd P.g.ns (ij P.g.rk.nd),Pt]
 simp only[ev,cP,h.dM (n:=4) (m:="place") rfl,qR h hi,P.r.dM (n:=2) (m:="roles") rfl,e]
def M5{l:List Str}:(l.map λz=>(z,true)).map (·.1)=l:=by rw[cO];exact jH l
def JM(h:cx A bf a9)(hi:a9.lookup name=some i)(P:Pr A i j D t)(hb:D.bx.length<64)(hs:∀z∈D.bx,z.length<=1000):sk [aZ 5 A (.at 0),.str name]=.ok (.tup ((c_ D.bx).map .str)):=by
 show dC (jB.1 [.sh (aZ 5 A (.at 0)),.sh (.str name)])=_;unfold jB;have e:sj [aZ 3 A (.at i)]=.ok (.tup ((c_ D.bx).map .str)):=by
  show dC (jA.1 [.sh (aZ 3 A (.at i))])=_;unfold jA;have s:=rq (f:=Tr.bl) (l:=D.bx.map λz=>(z,true)) (λp hp=>by obtain⟨z,hz,rfl⟩:=cC.mp hp;exact hs z hz) (by rw[bu];exact hb);rw[M5]at s;simp only[ev,cP,P.r.abH (n:=1) w4,show n5 [.bW (nS D.bx)]=_ from s,Pt]
 simp only[ev,cP,h.dM (n:=4) (m:="place") rfl,qR h hi,P.r.dM (n:=2) (m:="barred") rfl,e]
def M6(h:cx A bf a9)(hi:a9.lookup name=some i)(P:Pr A i j D t)(hb:D.inv.length<64)(hs:∀z∈D.inv,z.length<=1000):u0 [aZ 5 A (.at 0),.str name]=.ok (.tup ((c_ D.inv).map .str)):=by
 show dC (kJ.1 [.sh (aZ 5 A (.at 0)),.sh (.str name)])=_;unfold kJ;have e:uY [aZ 3 A (.at i)]=.ok (.tup ((c_ D.inv).map .str)):=by
  show dC (kH.1 [.sh (aZ 3 A (.at i))])=_;unfold kH;have s:=rq (f:=Tr.bl) (l:=D.inv.map λz=>(z,true)) (λp hp=>by obtain⟨z,hz,rfl⟩:=cC.mp hp;exact hs z hz) (by rw[bu];exact hb);rw[M5]at s;simp only[ev,cP,P.r.abI (n:=1) w4,show n5 [.bW (nS D.inv)]=_ from s,Pt]
 simp only[ev,cP,h.dM (n:=4) (m:="place") rfl,qR h hi,P.r.dM (n:=2) (m:="asked") rfl,e]
def Gg{jj w:Str}(h:cx A bf a9)(hi:a9.lookup name=some i)(P:Pr A i j D t)(q:(J0 D.d D.v D.p).lookup jj=some w):qN [aZ 5 A (.at 0),.str name,.str jj]=.ok (.str w):=by
 show dC (i_.1 [.sh (aZ 5 A (.at 0)),.sh (.str name),.sh (.str jj)])=_;unfold i_;have e:qM [aZ 3 A (.at i),.str jj]=.ok (.str w):=by
  show dC (i9.1 [.sh (aZ 3 A (.at i)),.sh (.str jj)])=_;unfold i9;simp only[ev,cP,P.r.abG (n:=1) Y0,dS,q,dq,lh]
 simp only[ev,cP,h.dM (n:=4) (m:="place") rfl,qR h hi,P.r.dM (n:=2) (m:="setting") rfl,e]
end
section
variable {A:Ab}{i i' j' t:Nat}{D D' D1 D2:Dat}{ts:List Tr}
def sx(D:Dat)(i aN:Nat):Prop:=∀k∈[D.ks,D.kb,D.ka],(k<i\/i+6<k)/\k≠aN/\k≠aN+1/\k≠aN+2
def Apart(D D':Dat):Prop:=∀k∈[D.ks,D.kb,D.ka],k∉[D'.ks,D'.kb,D'.ka]
def Apart.symm (h:Apart D D'):Apart D' D:=λk b q=>h k q b
def far(q:(i=7/\aN=16/\i'=27/\j'=36)\/(i=27/\aN=36/\i'=7/\j'=16)){k:Nat}(hk:(i<=k/\k<=i+6)\/k=aN\/k=aN+1\/k=aN+2):(k<i'\/i'+6<k)/\k≠j'/\k≠j'+1/\k≠j'+2:=by
 rcases q with⟨rfl,rfl,rfl,rfl⟩|⟨rfl,rfl,rfl,rfl⟩<;>refine⟨?_,?_,?_,?_⟩<;>omega
def sx.ne (c:sx D i aN){k q:Nat}(hk:(i<=k/\k<=i+6)\/k=aN\/k=aN+1\/k=aN+2)(hq:q∈[D.ks,D.kb,D.ka]):k≠q:=λe=>by
 subst e;have c:=c k hq;rcases hk with h|h|h|h
 ·rcases c.1 with z|z
  ·exact Nat.not_le_of_lt z h.1
  ·exact Nat.not_le_of_lt z h.2
 ·exact c.2.1 h
 ·exact c.2.2.1 h
 ·exact c.2.2.2 h
def M7(Bi:(i=7/\aN=16/\i'=27/\j'=36)\/(i=27/\aN=36/\i'=7/\j'=16))(hH:cx A bf a9)(hM:gj A bN c8)(R1:Pr A i aN D t)(R2:Pr A i' j' D' t)(c1:sx D i' j')(c2:sx D' i aN)(ap:Apart D D')(res:Res A i aN D t ts):
  ∃A' D1,jQ [.at 0,.at 4,.tup ts] A=.ok (.bl true) A'/\cx A' bf a9/\gj A' bN c8/\Pr A' i aN D1 (t+1)/\Pr A' i' j' D' (t+1)/\sx D1 i' j'/\sx D' i aN/\Apart D1 D':=by
 obtain⟨A',D1,e,x,P1,kp⟩:=res;have hi:=R1.hi;have g:∀k∈touched i aN D,6<k:=λk b=>by
  rcases dF.mp b with b|b
  ·simp only[bH,cM,cN]at b;omega
  ·exact(R1.dj k b).1
 have l1:=gi R2.m.st;have l2:=gi R2.m.br;have I:=gi R2.m.as;have L:=gi R2.m.rl;have M:=gi R2.r.iv;refine⟨A',D1,e,cx.kp hH x g,gj.kp hM x g,P1,R2.kp x λk b=>?_,λk q=>?_,c2,λk q=>?_⟩
 ·have go:∀k,((i<=k/\k<=i+6)\/k=aN\/k=aN+1\/k=aN+2)->(k<i'\/i'+6<k)/\k∉jS j' D'.ks D'.kb D'.ka:=λk b=>by
   have f:=far Bi b;have n:=λq (l:q∈[D'.ks,D'.kb,D'.ka])=>c2.ne b l;refine⟨f.1,λm=>?_⟩;simp only[bH,cM,cN]at m n;rcases m with m|m|m|m
   ·exact f.2.1 m
   ·exact f.2.2.1 m
   ·exact f.2.2.2 m
   ·exact n k m rfl
  rcases dF.mp b with b|b
  ·refine go k (.inl ?_)
   clear go Bi
   simp only[bH,cM,cN]at b;rcases b with rfl|b<;>first|exact⟨bA _,mU _ 6⟩|omega
  ·have:k=aN\/k=aN+1\/k=aN+2\/k∈[D.ks,D.kb,D.ka]:=by simpa using b
   rcases this with h|h|h|h
   ·exact go k (.inr (.inl h))
   ·exact go k (.inr (.inr (.inl h)))
   ·exact go k (.inr (.inr (.inr h)))
   ·have f:=c1 k h;refine⟨f.1,λm=>?_⟩;have a:=ap k h;simp only[bH,cM,cN]at m a;rcases m with m|m|m|m
    ·exact f.2.1 m
    ·exact f.2.2.1 m
    ·exact f.2.2.2 m
    ·exact a m
 ·rcases kp k q with q|q
  ·exact c1 k q
  ·omega
 ·rcases kp k q with q|q
  ·exact ap k q
  ·simp only[bH,cM,cN,kX];omega
structure Sta(A:Ab)(t:Nat)(bf:List (Str×Bool))(bN:List Str)(D1 D2:Dat):Prop where
 h:cx A bf [("hall",7),("yard",27)]
 m:gj A bN [("hall",16),("yard",36)]
 pp:bf.map (·.1)=bN
 pl:bN.length<=5+t
 p6:∀z∈bN,z∈six
 r1:Pr A 7 16 D1 t
 r2:Pr A 27 36 D2 t
 c1:sx D1 27 36
 c2:sx D2 7 16
 ap:Apart D1 D2
def St(A:Ab)(t:Nat):Prop:=∃bf bN D1 D2,Sta A t bf bN D1 D2
theorem zo{α:Type}{z:Str}:∀{l:List (Str×α)},(l.lookup z).isSome=(l.map (·.1)).contains z
 |[]=>rfl
 |q::l=>by
  rw[cQ,bB,List.contains_cons];cases e:(z==q.1)with
  |true=>rfl
  |false=>rw[iM];exact zo
def St.go {f:Str->List Tr}(h:St A t)(S:∀{i aN D bf a9 bN c8 c6},Pr A i aN D t->cx A bf a9->gj A bN c8->a9.lookup c6=some i->c8.lookup c6=some aN->(∀z,(bf.lookup z).isSome=bN.contains z)->Res A i aN D t (f c6)){c6:Str}(q:c6="hall"\/c6="yard"):
  ∃A',jQ [.at 0,.at 4,.tup (f c6)] A=.ok (.bl true) A'/\St A' (t+1):=by
 obtain⟨bf,bN,D1,D2,s⟩:=h;have hp:∀a_,(bf.lookup a_).isSome=bN.contains a_:=λa_=>by rw[zo,s.pp]
 have I:=s.pl;rcases q with rfl|rfl
 ·obtain⟨A',D',e,a1,a2,b,g,l,n,r⟩:=M7 (.inl ⟨rfl,rfl,rfl,rfl⟩) s.h s.m s.r1 s.r2 s.c1 s.c2 s.ap (S (c6:="hall") s.r1 s.h s.m (by decide+kernel) (by decide+kernel) hp);exact⟨A',e,bf,bN,D',D2,a1,a2,s.pp,by omega,s.p6,b,g,l,n,r⟩
 ·obtain⟨A',D',e,a1,a2,b,g,l,n,r⟩:=M7 (.inr ⟨rfl,rfl,rfl,rfl⟩) s.h s.m s.r2 s.r1 s.c2 s.c1 s.ap.symm (S (c6:="yard") s.r2 s.h s.m (by decide+kernel) (by decide+kernel) hp);exact⟨A',e,bf,bN,D1,D',a1,a2,s.pp,by omega,s.p6,g,b,n,l,r.symm⟩
end
theorem AU:∀{xs ss:List Str} {z:Str},z∈eV ss xs↔z∈ss\/z∈xs
 |[],ss,z=>by simp[eV]
 |x::xs,ss,z=>by
  show z∈eV (gW ss x) xs↔_;rw[AU,bH];unfold gW;split
  ·rename_i h;exact⟨λq=>q.elim .inl λq=>.inr (.inr q),λq=>q.elim .inl λq=>q.elim (λe=>.inl (e▸h)) .inr⟩
  ·rw[dF,de,or_assoc]
theorem AV:∀{xs ss:List Str},ss.Nodup->(eV ss xs).Nodup
 |[],_,h=>h
 |x::xs,ss,h=>by
  show(eV (gW ss x) xs).Nodup;refine AV ?_
  unfold gW;split
  ·exact h
  ·rename_i q;refine xA.mpr ⟨h,List.pairwise_singleton _ _,λa g b hb e=>q ?_⟩;rw[de.mp hb]at e;exact e▸g
section
variable {A:Ab}{t:Nat}{D1 D2:Dat}
def ne_str:Ny (.str aP) (.str aP)=.ok (.bl false):=by show Rs.ok (Tr.bl (!(aP==aP)))=_;rw[bU];rfl
def UW(s:Sta A t bf bN D1 D2){G K:bX->Rs Out}
  (q:∀{i j:Nat} {D:Dat} {name:Str} {c3 c4:Cell},([("hall",7),("yard",27)]:List (Str×Nat)).lookup name=some i->([("hall",16),("yard",36)]:List (Str×Nat)).lookup name=some j->Pr A i j D t->∃a b,G [.sh (aZ 5 A (.at 0)),.sh (aZ 5 A (.at 4)),.sh (.str name),c3,c4,.no]=.ok (.nx [.sh (aZ 5 A (.at 0)),.sh (aZ 5 A (.at 4)),.sh (.str name),a,b,.no]))
  (hK:∀a b,dC (K [.sh (aZ 5 A (.at 0)),.sh (aZ 5 A (.at 4)),.sh (.str "yard"),a,b,.no])=.ok (.bl true)):
  dC (Dc (GO (gN 2) G (Ld (Iz lj (yl [.sh (aZ 5 A (.at 0)),.sh (aZ 5 A (.at 4)),.no,.no,.no,.no] 1) (Rs.ok (.str "rooms")))) [.sh (aZ 5 A (.at 0)),.sh (aZ 5 A (.at 4)),.no,.no,.no,.no]) K)=.ok (.bl true):=by
 have g:=wY (f:=λj=>aZ 3 A (.at j)) (l:=[("hall",16),("yard",36)]) (λp hp=>(by decide+kernel:∀p∈([("hall",16),("yard",36)]:List (Str×Nat)),p.1.length<=1000) p hp);have r:Ld (.ok (.bW (dP (λj=>aZ 3 A (.at j)) [("hall",16),("yard",36)])))=.ok [.str "hall",.str "yard"]:=g;obtain⟨a1,b1,I⟩:=q (name:="hall") (c3:=.no) (c4:=.no) (by decide+kernel) (by decide+kernel) s.r1;obtain⟨a2,b2,L⟩:=q (name:="yard") (c3:=a1) (c4:=b1) (by decide+kernel) (by decide+kernel) s.r2;simp only[ev,cP,s.m.Mx (n:=3),r,Pt,FU,cF,b_,I,L,hK]
def rH{l:List Str}{n:Nat}(q:l.length<=1000):fF (n+2) [.tup ((c_ l).map .str),.tup ((c_ l).map .str)]=.ok (.bl true):=lI (by rw[bu,(eO _).length_eq];exact du (dv (by omega))) λu b=>by
 obtain⟨z,_,rfl⟩:=cC.mp b;exact Cw rfl
theorem Zi(s:Sta A t bf bN D1 D2)(ht:t<=50):AR [aZ 5 A (.at 0),aZ 5 A (.at 4)]=.ok (.bl true):=by
 show dC (vN.1 [.sh (aZ 5 A (.at 0)),.sh (aZ 5 A (.at 4)),.no,.no,.no,.no])=_;refine UW s (λ{i j D name c3 c4} hi M P=>?_) λa b=>?_
 ·have b1:=P.b.b1;have b2:=P.b.b2;have b5:=P.b.b5;have b6:=P.b.b6;have b7:=P.b.b7;have hs:=rq (f:=Tr.str) (l:=D.aT) P.g.rk.sh (by omega);have tt:pZ (.bl true)=.ok true:=rfl;simp only[ev,cP,s.m.Mx (n:=3),dS,M,dq,lh,cF,b_,P.m.vE (n:=1),hs,FU];rw[l6 (AK:=[.sh (aZ 3 A (.at j))]) (λ_=>true) Tr.str (λz=>.tup [.str z,.str ((D.aT.lookup z).getD "")]) (by rfl) (by rw[(eO _).length_eq,bu];exact du (dv (by omega))) rfl (λ_ _=>rfl) ?hF]
  case hF=>
   intro z hz _;obtain⟨q,S,rfl⟩:=cC.mp ((eO _).mem_iff.mp hz);simp only[ev,cP,P.m.vE (n:=1),dS,ij P.g.rk.nd q S,dq,lh,pz]
  rw[show∀l:List Str,l.filter (λ_=>true)=l from λl=>mM.mpr λ_ _=>rfl];have I:fF 5 [.tup [.tup D.rows,.tup ((c_ (D.aT.map (·.1))).map λz=>.tup [.str z,.str ((D.aT.lookup z).getD "")])],.tup [.tup D.rows,.tup ((c_ (D.aT.map (·.1))).map λz=>.tup [.str z,.str ((D.aT.lookup z).getD "")])]]=.ok (.bl true):=by
   refine lI (by show 2<=dZ;decide) λu r=>?_
   simp only[bH,cM,cN]at r;rcases r with rfl|rfl
   ·refine lI (du (dv (by omega))) λu r=>?_
    obtain⟨us,rfl,hf,h10⟩:=P.g.fr u r;exact lI (du (dv (by omega))) λw hw=>Cw (dE.mp hf w hw)
   ·refine lI (by rw[bu,(eO _).length_eq,bu];exact du (dv (by omega))) λu r=>?_
    obtain⟨z,_,rfl⟩:=cC.mp r;refine lI (by show 2<=dZ;decide) λw hw=>?_
    simp only[bH,cM,cN]at hw;rcases hw with rfl|rfl<;>exact Cw rfl
  have L:=JM s.h hi P (by omega) λz hz=>eX (P.g.bs z hz);have has:=M6 s.h hi P (by omega) λz hz=>eX (P.g.is z hz);have so:=AM (ss:=D.bx) (by omega);have ss:qi (.lst (D.asked.map .str))=.ok (.lst ((c_ D.inv).map .str)):=by
   show(match oQ (D.asked.map .str)with|some ss=>if ss.length<64 then Rs.ok (Tr.lst ((c_ (eV [] ss)).map .str))else .bad|none=>.bad)=_;rw[vH];show(if D.asked.length<64 then Rs.ok (Tr.lst ((c_ (eV [] D.asked)).map .str))else .bad)=_;rw[aY (by omega),DH ((List.perm_ext_iff_of_nodup (AV xQ) P.g.nd).mpr λz=>?_)];rw[AU,<-eY (as:=D.inv),P.g.ia,eY];simp
  simp only[ev,cP,Pt,cF,b_,s.h.dM (n:=4) (m:="rows") rfl,s.h.dM (n:=4) (m:="roles") rfl,s.h.dM (n:=4) (m:="barred") rfl,s.h.dM (n:=4) (m:="asked") rfl,P_ s.h hi P,M4 s.h hi P,P.m.UB (n:=1) P.g.fr.tu,I,tt,dg,L,P.m.Mu (n:=1),so,rH (l:=D.bx) (n:=3) (by omega),has,P.m.UC (n:=1),ss,rH (l:=D.inv) (n:=3) (by omega)];rw[l6 (AK:=[.sh (.str name),.sh (aZ 3 A (.at j)),.sh (aZ 5 A (.at 0))]) (λ_=>false) Tr.str (λ_=>.cA) (xs:=["door","voice","past"]) (by rfl) (by show 3<=dZ;decide) rfl ?hC (λ_ _ e=>by cases e)]
  case hC=>
   intro z hz;have:z="door"\/z="voice"\/z="past":=by simpa using hz
   rcases this with rfl|rfl|rfl
   ·simp only[ev,cP,s.h.dM (n:=4) (m:="setting") rfl,Gg (jj:="door") (w:=D.d) s.h hi P rfl,P.m.a_d (n:=2),ne_str]
   ·simp only[ev,cP,s.h.dM (n:=4) (m:="setting") rfl,Gg (jj:="voice") (w:=D.v) s.h hi P rfl,P.m.a_v (n:=2),ne_str]
   ·simp only[ev,cP,s.h.dM (n:=4) (m:="setting") rfl,Gg (jj:="past") (w:=D.p) s.h hi P rfl,P.m.a_p (n:=2),ne_str]
  exact⟨_,_,rfl⟩
 ·have hp:bf.length<64:=by have:=s.pl;have h2:=cV List.length s.pp;rw[bu]at h2;omega
  have sh:∀p∈bf,p.1.length<=1000:=λp hp=>eX (s.p6 p.1 (by rw[<-s.pp];exact f' hp));have s1:=rq (f:=Tr.bl) sh hp;have s2:=AM (ss:=bN) (by have:=s.pl;omega);rw[s.pp]at s1;have s3:=rq (f:=λj=>aZ 3 A (.at j)) (l:=[("hall",7),("yard",27)]) (λp hp=>(by decide+kernel:∀p∈([("hall",7),("yard",27)]:List (Str×Nat)),p.1.length<=1000) p hp) (by decide);have s4:n5 [.bW (dP (λj=>aZ 3 A (.at j)) [("hall",16),("yard",36)])]=.ok (.lst ((c_ ["hall","yard"]).map .str)):=rq (f:=λj=>aZ 3 A (.at j)) (l:=[("hall",16),("yard",36)]) (λp hp=>(by decide+kernel:∀p∈([("hall",16),("yard",36)]:List (Str×Nat)),p.1.length<=1000) p hp) (by decide);have e1:sg [aZ 5 A (.at 0)]=.ok (.tup ((c_ bN).map .str)):=by
   show dC (jz.1 [.sh (aZ 5 A (.at 0))])=_;unfold jz;simp only[ev,cP,s.h.Pm,s1,Pt]
  have e2:uW [aZ 5 A (.at 0)]=.ok (.tup ((c_ ["hall","yard"]).map .str)):=by
   show dC (kF.1 [.sh (aZ 5 A (.at 0))])=_;unfold kF;simp only[ev,cP,s.h.UA,s3,Pt]
   rfl
  have I:fF 5 [.tup [.tup ((c_ ["hall","yard"]).map .str),.tup ((c_ bN).map .str)],.tup [.tup ((c_ ["hall","yard"]).map .str),.tup ((c_ bN).map .str)]]=.ok (.bl true):=by
   refine lI (by show 2<=dZ;decide) λu r=>?_
   simp only[bH,cM,cN]at r;rcases r with rfl|rfl
   ·exact rH (n:=2) (by decide)
   ·exact rH (n:=2) (by have:=s.pl;omega)
  simp only[ev,cP,Pt,FU,cF,b_,s.m.Mx (n:=3),s.m.UE (n:=3),s4,s2,s.h.dM (n:=4) (m:="rooms") rfl,s.h.dM (n:=4) (m:="people") rfl,e1,e2,I]
end
def mix(c p m:Int):Int:=(c*48271 % p)*(c*48271 % p+7) % p % m
def Cy{c p m:Int}(hm:0<m):0<=mix c p m/\mix c p m<m:=⟨xJ _ (by omega),Int.emod_lt_of_pos _ hm⟩
def UX{i j:Int}(h:yq i j):II (.int i) (.int j)=.ok (.int (i*j)):=aY h
def UY{i j:Int}(h:0<j):IH (.int i) (.int j)=.ok (.int (i % j)):=aY h
def Zj(c p m:Int)(hp:0<p)(q:p<=1048576)(hm:0<m):HP [.int c,.int p,.int m]=.ok (.int (mix c p m)):=by
 have r:0<=c*48271 % p:=xJ _ (by omega);have I:c*48271 % p<p:=Int.emod_lt_of_pos _ hp;show dC (w_.1 [.sh (.int c),.sh (.int p),.sh (.int m),.no])=_;unfold w_;have b:II (.int c) (.int 48271)=.ok (.int (c*48271)):=aY (.inr ⟨by decide,by decide⟩);have g:∀a,IH (.int a) (.int p)=.ok (.int (a % p)):=λa=>aY hp;have l:II (.int (c*48271 % p)) (.int (c*48271 % p+7))=.ok (.int ((c*48271 % p)*(c*48271 % p+7))):=aY (.inl ⟨by omega,by omega⟩);have n:∀a,IH (.int a) (.int m)=.ok (.int (a % m)):=λa=>aY hm;simp only[ev,cP,b,g,l,n,cF,b_,mix]
def UZ(ns:List Int)(k:Int)(h:0<=k):∃c,Es [.vU ns,.int k]=.ok (.int c):=by
 show∃c,dC (Dc (Vj (.ok (decide (k<(ns.length:Int)))) (KY ((lh (L2.vm ns k)).bind λn=>.ok (.int n))) (.ok (.nx [.sh (.vU ns),.sh (.int k)]))) λY=>KY (Rs.ok (.int 0)))=_;by_cases b:k<(ns.length:Int)
 ·have g:k.toNat<ns.length:=by omega
  have e:L2.vm ns k=some (ns[k.toNat]):=by
   have q:=Bc (xs:=ns) (j:=k.toNat) (bZ g);rw[Int.toNat_of_nonneg h]at q;exact q
  rw[hU b,e];exact⟨_,rfl⟩
 ·rw[fo b];exact⟨0,rfl⟩
def M8{l:List Tr}{k:Int}(h0:0<=k)(h1:k<l.length):∃t∈l,lj (.tup l) (.int k)=.ok t/\lj (.lst l) (.int k)=.ok t:=by
 have b:k.toNat<l.length:=by omega
 have q:=Bc (xs:=l) (j:=k.toNat) (bZ b);rw[Int.toNat_of_nonneg h0]at q;exact⟨l[k.toNat],kR _,by show lh (L2.vm l k)=_;rw[q];rfl,by show lh (L2.vm l k)=_;rw[q];rfl⟩
def Zk{l:List Str}{k:Int}(h0:0<=k)(q:k<l.length):∃z∈l,lj (.tup (l.map .str)) (.int k)=.ok (.str z):=by
 obtain⟨t,b,e,_⟩:=M8 (l:=l.map .str) h0 (by rw[bu];exact q);obtain⟨z,hz,rfl⟩:=cC.mp b;exact⟨z,hz,e⟩
noncomputable abbrev P':List Str:=["ann","bo","cy","dee","ed"]
noncomputable abbrev three:List Str:=["ann","bo","zed"]
noncomputable abbrev rms:List Str:=["hall","hall","hall","yard"]
noncomputable abbrev sets:List Tr:=[.tup [.str "door",.str "open"],.tup [.str "door",.str "asked"],.tup [.str "voice",.str "all"],.tup [.str "voice",.str "some"],.tup [.str "past",.str "shown"],.tup [.str "past",.str "hidden"]]
inductive j7(ws:List Str):List Tr->Prop
 |Qa {a_:Str}:("come":Str)∈ws->a_∈six->j7 ws [.str "come",.str a_]
 |one {c7 a_ c6:Str}:(c7="found"\/c7="enter"\/c7="leave")->c7∈ws->a_∈six->(c6="hall"\/c6="yard")->j7 ws [.str c7,.str a_,.str c6]
 |arr {a_ c6 jj val:Str}:("arrange":Str)∈ws->a_∈six->(c6="hall"\/c6="yard")->(jj="door"\/jj="voice"\/jj="past")->j7 ws [.str "arrange",.str a_,.str c6,.str jj,.str val]
 |role {a_ c6 d4 r:Str}:("role":Str)∈ws->a_∈six->(c6="hall"\/c6="yard")->d4∈six->r∈gZ->j7 ws [.str "role",.str a_,.str c6,.str d4,.str r]
 |two {c7 a_ c6 d4:Str}:(c7="ask"\/c7="out"\/c7="bar"\/c7="unbar")->c7∈ws->a_∈six->(c6="hall"\/c6="yard")->d4∈six->j7 ws [.str c7,.str a_,.str c6,.str d4]
noncomputable abbrev ten:List Str:=["come","found","enter","leave","arrange","role","ask","out","bar","unbar"]
def U0{b:Bool}{x y:Rs Out}{K:bX->Rs Out}{P:Rs Tr->Prop}(h:∀r,r=x\/r=y->P (dC (Dc r K))):P (dC (Dc (Vj (.ok b) x y) K)):=by
 cases b
 ·exact h y (.inr rfl)
 ·exact h x (.inl rfl)
theorem U1{ws:List Str}(q:∀w∈ws,w∈ten)(hl:0<ws.length)(c:Int)(T:Tr):∃ts,Ex [.int c,T,.tup (ws.map .str)]=.ok (.tup ts)/\j7 ws ts:=by
 show∃ts,dC (u6.1 [.sh (.int c),.sh T,.sh (.tup (ws.map .str)),.no,.no,.no,.no,.no,.no,.no,.no,.no])=.ok (.tup ts)/\_;unfold u6;have g:=λp m (hp:0<p) (NW:p<=1048576) (hm:0<m)=>Zj c p m hp NW hm;simp only[ev,cP,g 9931 20 (by decide) (by decide) (by decide),cF,b_];refine U0 (P:=λr=>∃ts,r=.ok (.tup ts)/\j7 ws ts) λr h=>?_
 obtain⟨l,h0,S,rfl⟩:∃l:List Str,(0:Int)<l.length/\(∀z∈l,z∈six)/\r=.ok (.nx [.sh (.int c),.sh T,.sh (.tup (ws.map .str)),.sh (.tup (l.map .str)),.no,.no,.no,.no,.no,.no,.no,.no]):=by
  rcases h with rfl|rfl
  ·exact⟨three,by decide,by decide+kernel,rfl⟩
  ·exact⟨P',by decide,by decide+kernel,rfl⟩
 have hm:(0:Int)<ws.length:=by omega
 have k4:∀l:List Str,((l.map Tr.str).length:Int)=l.length:=λl=>by rw[bu]
 have n:=λ{l:List Str} {p m:Int} (hm:0<m) (hl:m=l.length)=>Zk (l:=l) (Cy (c:=c) (p:=p) hm).1 (hl▸(Cy hm).2);obtain⟨c6,hr,er⟩:=n (l:=rms) (p:=9907) (m:=4) (by decide) rfl;obtain⟨c7,hw,ew⟩:=n (l:=ws) (p:=9901) (m:=ws.length) hm rfl;obtain⟨a_,g3,e3⟩:=n (l:=l) (p:=9929) (m:=l.length) h0 rfl;obtain⟨d4,g4,e4⟩:=n (l:=l) (p:=9923) (m:=l.length) h0 rfl;obtain⟨rl,M,e7⟩:=n (l:=gZ) (p:=9883) (m:=4) (by decide) rfl;obtain⟨st,cJ,_,e8⟩:=M8 (l:=sets) (Cy (c:=c) (p:=9887) (m:=6) (by decide)).1 (by exact(Cy (by decide)).2);have L:c6="hall"\/c6="yard":=by simpa using hr
 have I:=S a_ g3;have h4:=S d4 g4;have Ro:=q c7 hw;simp only[bH,cM,cN]at Ro cJ;simp only[bB,mW]at er e7;have ni:zu (.str "arrange") (.tup [.str "come",.str "found",.str "enter",.str "leave"])=.ok (.bl false)/\zu (.str "role") (.tup [.str "come",.str "found",.str "enter",.str "leave"])=.ok (.bl false):=⟨rfl,rfl⟩;have l3:∀a b c,zB (.ok [a,b,c])=.ok (.lst [a,b,c]):=λ_ _ _=>rfl;have a3:vp (.lst [.tup [.str "door",.str "open"],.tup [.str "door",.str "asked"],.tup [.str "voice",.str "all"]]) (.lst [.tup [.str "voice",.str "some"],.tup [.str "past",.str "shown"],.tup [.str "past",.str "hidden"]])=.ok (.lst sets):=rfl;simp only[ev,cP,k4,g 9929 l.length (by decide) (by decide) h0,g 9923 l.length (by decide) (by decide) h0,g 9907 4 (by decide) (by decide) (by decide),g 9901 ws.length (by decide) (by decide) hm,e3,e4,er,ew,cF,b_];rcases Ro with rfl|rfl|rfl|rfl|rfl|rfl|rfl|rfl|rfl|rfl
 all_goals first
  |exact⟨_,rfl,.Qa hw I⟩
  |exact⟨_,rfl,.one (by simp) hw I L⟩
  |exact⟨_,rfl,.two (by simp) hw I L h4⟩
  |skip
 all_goals simp only[ev,cP,sn,String.reduceBEq,bU,ni,g 9887 6 (by decide) (by decide) (by decide),g 9883 4 (by decide) (by decide) (by decide),e7,l3,a3,e8,cF,b_]
 all_goals first
  |exact⟨_,rfl,.role hw I L h4 M⟩
  |(rcases cJ with rfl|rfl|rfl|rfl|rfl|rfl<;>exact⟨_,rfl,.arr hw I L (by simp)⟩)
noncomputable abbrev Gh:List (Str×Str):=[("ann","owner"),("bo","guest"),("cy","guest")]
noncomputable abbrev M9:List (Str×Int):=[("ann",1),("bo",2),("cy",3)]
noncomputable abbrev M_:List og:=[("ann",1,1,none),("bo",1,2,none),("cy",1,3,none)]
noncomputable abbrev M':List Tr:=[.tup [.int 1,.str "ann",.str "found"],.tup [.int 2,.str "bo",.str "enter"],.tup [.int 3,.str "cy",.str "enter"]]
abbrev Gi:List (Str×Str):=[("dee","owner")]
abbrev Na:List (Str×Int):=[("dee",1)]
abbrev Nb:List og:=[("dee",1,1,none)]
noncomputable abbrev Nc:List Tr:=[.tup [.int 1,.str "dee",.str "found"]]
noncomputable abbrev EG:List (Str×Bool):=[("ann",true),("bo",true),("cy",true),("dee",true),("ed",true)]
def D10:Dat:=⟨M',Gh,M9,λz=>(M9.lookup z).getD 0,M_,[],[],[],"open","all","shown",19,20,26⟩
def D20:Dat:=⟨Nc,Gi,Na,λz=>(Na.lookup z).getD 0,Nb,[],[],[],"open","all","shown",39,40,42⟩
noncomputable def B0:Ab:=[.ins "Hall" [("persons",.at 1),("places",.at 2),("hands",.at 3)],.bW [],.bW [],.lst []]
def B1:Ab:=B0++[.bW (dP id [("people",.at 5),("rooms",.at 6)]),.lst (P'.map .str),.bW []]
def A0:Ab:=[.ins "Hall" [("persons",.at 1),("places",.at 2),("hands",.at 3)],.bW (dP .bl EG),.bW (dP .at [("hall",7),("yard",27)]),.lst [],.bW (dP id [("people",.at 5),("rooms",.at 6)]),.lst (P'.map .str),.bW (dP .at [("hall",16),("yard",36)]),
 .ins "Room" (roomF 7),.lst M',.bW (dP .str Gh),.bW (dP .int M9),.bW (dP .str (J0 "open" "all" "shown")),.bW [],.bW [],.bW [],.bW [],
 .bW (dP id (AL 16 19 20 26 "open" "all" "shown")),.lst M',.bW (dP .str Gh),.lst (M_.map wD),.lst [],.lst [],.lst [],.lst [.str "ann"],.lst [],.lst [.str "ann"],.lst [],
 .ins "Room" (roomF 27),.lst Nc,.bW (dP .str Gi),.bW (dP .int Na),.bW (dP .str (J0 "open" "all" "shown")),.bW [],.bW [],.bW [],.bW [],
 .bW (dP id (AL 36 39 40 42 "open" "all" "shown")),.lst Nc,.bW (dP .str Gi),.lst (Nb.map wD),.lst [],.lst [],.lst []]
def U2:yN "Hall" oV (.ok [] [])=.ok (.at 0) B0:=by kernel_rfl
def Qb:AO [.tup [.str "ann",.str "bo",.str "cy",.str "dee",.str "ed"]] B0=.ok (.at 4) B1:=by kernel_rfl
def U3:EB [.at 0,.at 4] B1=.ok .cA A0:=by kernel_rfl
def rk0(h:(aT.all λp=>gZ.contains p.2&&(decide (p.1.length<=1000)&&(ents.lookup p.1==some ((ents.lookup p.1).getD 0))))=true)(n:(aT.map (·.1)).Nodup)(u:(aT.map λp=>(ents.lookup p.1).getD 0).Pairwise (· <·)):di aT ents λz=>(ents.lookup z).getD 0:=by
 have q:=λp hp=>dE.mp h p hp;simp only[bY,iK,fu]at q;exact⟨λp hp=>eY.mp (q p hp).1,n,λp hp=>(q p hp).2.1,λp hp=>(q p hp).2.2,u⟩
theorem rows0(h:(rows.all λt=>match t with|.tup us=>us.all yu&&decide (us.length<=10)|_=>false)=true):j6 rows:=λt b=>by
 have q:=dE.mp h t b;cases t with
 |tup us=>
  have q:(us.all yu&&decide (us.length<=10))=true:=q;rw[bY,iK]at q;exact⟨us,rfl,q⟩
 |_=>cases q
def st0:St A0 0:=⟨EG,P',D10,D20,⟨rfl,rfl,rfl⟩,⟨rfl,rfl,rfl⟩,rfl,by decide,by decide+kernel,
 ⟨⟨rfl,rfl,rfl,rfl,rfl,rfl,rfl⟩,⟨rfl,rfl,rfl,rfl,rfl,rfl,by decide⟩,⟨rows0 rfl,rk0 (by decide+kernel) (by decide+kernel) (by decide+kernel),rfl,by decide+kernel,.inr (by decide+kernel),λ_=>rfl,by decide+kernel,by decide+kernel,by decide+kernel,by decide+kernel⟩,⟨by decide,by decide,by decide,by decide,by decide,by decide,by decide⟩,by decide,by decide⟩,
 ⟨⟨rfl,rfl,rfl,rfl,rfl,rfl,rfl⟩,⟨rfl,rfl,rfl,rfl,rfl,rfl,by decide⟩,⟨rows0 rfl,rk0 (by decide+kernel) (by decide+kernel) (by decide+kernel),rfl,by decide+kernel,.inr (by decide+kernel),λ_=>rfl,by decide+kernel,by decide+kernel,by decide+kernel,by decide+kernel⟩,⟨by decide,by decide,by decide,by decide,by decide,by decide,by decide⟩,by decide,by decide⟩,by unfold sx;decide,by unfold sx;decide,by unfold Apart;decide⟩
def JN(h:j7 bN rows):nc rows=true:=by cases h<;>rfl
theorem HU{T:o4}{G:bX->Ab->Rz Out}{n:Nat}(I:Nat->bX->Ab->Prop)(h:∀k Y A,k<n->I k Y A->∃rR,T (.int (0+(k:Nat))) Y=.ok rR/\∃q A2,G rR A=.ok (.nx q) A2/\I (k+1) q A2):∀(m k:Nat) (Y:bX) (A:Ab),k+m=n->I k Y A->∃iG A',sL T G ((List.range' k m).map λk=>Tr.int (0+(k:Nat))) Y A=.ok (.nx iG) A'/\I n iG A'
 |0,k,Y,A,e,hi=>⟨Y,A,rfl,by rw[<-e];exact hi⟩
 |m+1,k,Y,A,e,hi=>by
  obtain⟨rR,b,q,A2,g,h2⟩:=h k Y A (by omega) hi;obtain⟨iG,A',l,r⟩:=HU I h m (k+1) q A2 (by omega) h2;refine⟨iG,A',?_,r⟩;rw[List.range'_succ,bB];simp only[FU,b,fg,cP,g];exact l
def Nd{n:Nat}{T:o4}{G K:bX->Ab->Rz Out}{Od:bX}{A0:Ab}(I:Nat->bX->Ab->Prop)(h0:I 0 Od A0)(h:∀k Y A,k<n->I k Y A->∃rR,T (.int (0+(k:Nat))) Y=.ok rR/\∃iH A2,G rR A=.ok (.nx iH) A2/\I (k+1) iH A2)(hK:∀Y A,I n Y A->yz (K Y A)=.ok (.bl true)):
  yz (Fo (sL T G ((List.range' 0 n).map λk=>Tr.int (0+(k:Nat))) Od A0) K)=.ok (.bl true):=by
 obtain⟨b,A',e,q⟩:=HU I h n 0 Od A0 (by omega) h0;rw[show sL T G ((List.range' 0 n).map λk=>Tr.int (0+(k:Nat))) Od A0=_ from e];exact hK b A' q
def Qc(j:Int):GP (.ok [.int j])=if-4611686018427387904<=j/\j<4611686018427387904 then .ok (De 0 j.toNat)else .bad:=rfl
def Zl:GP (.ok [.int 24])=.ok ((List.range' 0 24).map λk=>Tr.int (0+(k:Nat))):=by rw[Qc,aY (by decide)];show Rs.ok (De 0 24)=_;unfold De;rw[List.range_eq_range']
theorem St.push {A:Ab}{t:Nat}{o:Ao}(h:St A t):St (A++[o]) (t+1):=by
 obtain⟨bf,bN,D1,D2,s⟩:=h;have b:=s.pl;have e:∀k∈([]:List Nat),6<k:=λ_ h=>(nomatch h);exact⟨bf,bN,D1,D2,cx.kp s.h (g9.push (S:=[])) e,gj.kp s.m (g9.push (S:=[])) e,s.pp,by omega,s.p6,s.r1.kp (g9.push (S:=[])) λ_ h=>(nomatch h),s.r2.kp (g9.push (S:=[])) λ_ h=>(nomatch h),s.c1,s.c2,s.ap⟩
def j7.mono {ws vs:List Str}{ts:List Tr}(h:j7 ws ts)(q:∀w∈ws,w∈vs):j7 vs ts:=by
 cases h with
 |Qa a b=>exact .Qa (q _ a) b
 |one a b c d=>exact .one a (q _ b) c d
 |arr a b c d=>exact .arr (q _ a) b c d
 |role a b c d e=>exact .role (q _ a) b c d e
 |two a b c d e=>exact .two a (q _ b) c d e
noncomputable abbrev ws:List Str:=["out","out","bar","bar","unbar","enter","enter","role"]
noncomputable abbrev wr:List Str:=["role","enter","out","out","bar","bar","unbar","enter","enter","role"]
theorem step{A:Ab}{ts:List Tr}(h:St A aN)(hd:j7 wr ts)(ht:aN<=1000):∃A',jQ [.at 0,.at 4,.tup ts] A=.ok (.bl true) A'/\St A' (aN+1):=by
 cases hd with
 |Qa q _=>exact absurd q (by decide+kernel)
 |@one c7 a_ c6 hw q n I=>
  rcases hw with rfl|rfl|rfl
  ·exact absurd q (by decide+kernel)
  ·exact h.go (f:=λc6=>[.str "enter",.str a_,.str c6]) (λP b g hi l hp=>PZ P b g hi l hp n ht) I
  ·exact absurd q (by decide+kernel)
 |@arr a_ c6 jj val q n I hw=>exact absurd q (by decide+kernel)
 |@role a_ c6 d4 r q n I L M=>exact h.go (f:=λc6=>[.str "role",.str a_,.str c6,.str d4,.str r]) (λP b g hi l hp=>UT P b g hi l hp n L M ht) I
 |@two c7 a_ c6 d4 hw q n I L=>
  rcases hw with rfl|rfl|rfl|rfl
  ·exact absurd q (by decide+kernel)
  ·exact h.go (f:=λc6=>[.str "out",.str a_,.str c6,.str d4]) (λP b g hi l hp=>Zh P b g hi l hp n L ht) I
  ·exact h.go (f:=λc6=>[.str "bar",.str a_,.str c6,.str d4]) (λP b g hi l hp=>Zc P b g hi l hp n L ht) I
  ·exact h.go (f:=λc6=>[.str "unbar",.str a_,.str c6,.str d4]) (λP b g hi l hp=>P7 P b g hi l hp n L ht) I
def LI(ns:List Int)(k:Nat)(Y:bX)(A:Ab):Prop:=St A (k+4)/\∃a b c,Y=[.sh (.vU ns),.sh (.at 0),.sh (.at 4),.sh c,.sh a,.sh (.tup (ws.map .str)),b]
theorem Nf(ns:List Int):zh [.vU ns]=.ok (.bl true):=by
 unfold zh Dw;rw[aY ⟨rfl,rfl⟩];show yz (HQ.1 [.sh (.vU ns),.no,.no,.no,.no,.no,.no] [])=_;unfold HQ;have S:∀A,vZ (.ok (.tup [.str "ann",.str "bo",.str "cy",.str "dee",.str "ed"])) A=.ok (.tup [.str "ann",.str "bo",.str "cy",.str "dee",.str "ed"]) A:=λA=>rfl;have n:Bl (.ok (ws.map .str))=.ok (.tup (ws.map .str)):=rfl;have r:∀A,vZ (.ok (.tup (ws.map .str))) A=.ok (.tup (ws.map .str)) A:=λA=>rfl;have I:∀A,TZ (TX (.ok (.bl true) A))=.ok false A:=λ_=>rfl;have l2:∀a b,zB (.ok [a,b])=.ok (.lst [a,b]):=λ_ _=>rfl;have l1:∀a,zB (.ok [a])=.ok (.lst [a]):=λ_=>rfl;simp only[bB,mW]at n r;have q:∀A,vv (.ok (.lst [.tup [.str "role",.str "ann",.str "hall",.str "bo",.str "keeper"],.tup [.str "enter",.str "ed",.str "hall"]])) A=.ok (.at A.length) (A++[.lst [.tup [.str "role",.str "ann",.str "hall",.str "bo",.str "keeper"],.tup [.str "enter",.str "ed",.str "hall"]]]):=λ_=>rfl;have t5:aZ 5 (A0++[.lst [.tup [.str "role",.str "ann",.str "hall",.str "bo",.str "keeper"],.tup [.str "enter",.str "ed",.str "hall"]]]) (.at A0.length)=.lst [.tup [.str "role",.str "ann",.str "hall",.str "bo",.str "keeper"],.tup [.str "enter",.str "ed",.str "hall"]]:=by rw[lu ky];rfl
 have al:∀a b c,Hx (.lst [a,b]) (.lst [c])=.ok (.lst [a,b,c]):=λ_ _ _=>rfl;have lw:Mn (.ok (.lst [.tup [.str "role",.str "ann",.str "hall",.str "bo",.str "keeper"],.tup [.str "enter",.str "ed",.str "hall"],.tup [.str "role",.str "bo",.str "hall",.str "cy",.str "speaker"]]))=.ok [.tup [.str "role",.str "ann",.str "hall",.str "bo",.str "keeper"],.tup [.str "enter",.str "ed",.str "hall"],.tup [.str "role",.str "bo",.str "hall",.str "cy",.str "speaker"]]:=rfl;obtain⟨A1,b1,s1⟩:=step (ts:=[.str "role",.str "ann",.str "hall",.str "bo",.str "keeper"]) (st0.push (o:=.lst [.tup [.str "role",.str "ann",.str "hall",.str "bo",.str "keeper"],.tup [.str "enter",.str "ed",.str "hall"]])) (.role (by decide+kernel) (by decide+kernel) (.inl rfl) (by decide+kernel) (by decide+kernel)) (by decide);obtain⟨A2,b2,s2⟩:=step (ts:=[.str "enter",.str "ed",.str "hall"]) s1 (.one (.inr (.inl rfl)) (by decide+kernel) (by decide+kernel) (.inl rfl)) (by decide);obtain⟨A3,b3,s3⟩:=step (ts:=[.str "role",.str "bo",.str "hall",.str "cy",.str "speaker"]) s2 (.role (by decide+kernel) (by decide+kernel) (.inl rfl) (by decide+kernel) (by decide+kernel)) (by decide);simp only[ev,cP,fg,fE,U2,S,Qb,U3,l1,l2,q,t5,al,lw,I,b1,b2,b3,n,r,cF,b_,Zl,FU];refine Nd (LI ns) ⟨s3,_,.no,_,rfl⟩ (λk Y A hk g=>?_) λY A g=>?_
 ·obtain⟨hs,a,b,L,rfl⟩:=g;obtain⟨c,ec⟩:=UZ ns ((0+(k:Nat):Int) % 11) (xJ _ (by decide));obtain⟨ts,M,hd⟩:=U1 (ws:=ws) (by decide+kernel) (by decide) (c+41*(0+(k:Nat))) (aZ 5 A (.at 4));obtain⟨A',eb,l⟩:=step hs (hd.mono (by decide+kernel)) (by omega);have m1:IH (.int (0+(k:Nat))) (.int 11)=.ok (.int ((0+(k:Nat):Int) % 11)):=UY (by decide);have m2:II (.int 41) (.int (0+(k:Nat)))=.ok (.int (41*(0+(k:Nat)))):=UX (.inl ⟨by decide,by decide⟩);have fz:∀A,vZ (.ok (.tup ts)) A=.ok (.tup ts) A:=λA=>aY (JN hd);simp only[bB,mW]at M⊢;refine⟨_,rfl,[.sh (.vU ns),.sh (.at 0),.sh (.at 4),.sh L,.sh (.tup ts),.sh (.tup (ws.map .str)),.sh (.int (0+(k:Nat)))],A',?_,l,_,_,_,rfl⟩;simp only[ev,cP,fg,fE,m1,ec,m2,M,fz,cF,b_,eb,I]
  rfl
 ·obtain⟨⟨bf,bN,D1,D2,s⟩,a,b,L,rfl⟩:=g;simp only[ev,cP,fg,Zi s (by decide)]
  rfl
def O:Vx:=⟨["ValueError","all","bool","dict","int","isinstance","len","list","max","min","range","set","sorted","str","tuple","zip"],["Barred","Hall","Known","NoHand","NoLine","NoPerson","NoRight","NoRoom","NoRow","NotAsked","NotIn","Room","TalkError"],["Hall","Room"],[("Room",["banned","chosen","entries","invited","log","ranks","read_marks","said_by_key"]),("Hall",["hands","persons","places"])],[iX],["Known","NoPerson","NoRoom","NotIn","NotAsked","Barred","NoRight","NoRow","NoHand","NoLine"],[.inl "Barred",.inl "Known",.inl "NoHand",.inl "NoLine",.inl "NoPerson",.inl "NoRight",.inl "NoRoom",.inl "NoRow",.inl "NotAsked",.inl "NotIn",.inr "ValueError"],["TalkError"],["Barred","Known","NoPerson","NoRight","NoRoom","NotAsked","NotIn"]⟩
set_option maxHeartbeats 8000000 in
theorem all_mk{l:PySem.W.OpenLaw}{w:World}{K:Frag}{h:Heap}{mg:Str->Option Value}{fa:Addr}(X:K.In h)(G:h.Ns mainGlobals mg)(hfa:mg "law"=some (.ref fa))
  (c1:DS.map (Df.fd K)=DS.map (λd=>d.re (d.fd K))) (c2:DS.all (Df.Rh K)=true) (c3:O.Rh K=true)
  {zp:Addr} {Ng:Nat} {Nh:Array (Option Value)} {JO JP JR JS:Tok} (HV:PySem.W.nsIn K mainGlobals "ROLES"=some (some (.ref zp))) (HW:K.lookup zp=some ⟨.type "tuple",none,.seq #[.str "guest" JO,.str "speaker" JP,.str "keeper" JR,.str "owner" JS] Ng,Nh⟩)
  {q:Addr} {dn1:Nat} {abK abL abM:Tok} {Zm Zn Zo:Addr} (e1:PySem.W.nsIn K mainGlobals "SETTINGS"=some (some (.ref q))) (d1:K.lookup q=some ⟨.type "dict",none,.dict #[⟨PyData.keyHash w.params "door",.str "door" abK,.ref Zm⟩,⟨PyData.keyHash w.params "voice",.str "voice" abL,.ref Zn⟩,⟨PyData.keyHash w.params "past",.str "past" abM,.ref Zo⟩] dn1,#[]⟩) (s1:(q==sysModules)=false)
  {Zp:Option Addr} {Zq:Nat} {Zr:Array (Option Value)} {U4 U5:Tok} (Zs:K.lookup Zm=some ⟨.type "tuple",Zp,.seq #[.str "open" U4,.str "asked" U5] Zq,Zr⟩)
  {Zt:Option Addr} {Zu:Nat} {Zv:Array (Option Value)} {U6 U7:Tok} (Zw:K.lookup Zn=some ⟨.type "tuple",Zt,.seq #[.str "all" U6,.str "some" U7] Zu,Zv⟩)
  {Zx:Option Addr} {Zy:Array (Option Value)} {U8 U9:Tok} (Zz:K.lookup Zo=some ⟨.type "tuple",Zx,.seq #[.str "shown" U8,.str "hidden" U9] aN,Zy⟩)
  :∃fd:FuncData,(∀(s:Shared) (v:Value),BindsTo s fd ⟨[v],[]⟩ [("_law_script",v)])/\∀base:Heap,K.In base->base.Ns mainGlobals mg->eI l.prog w K mg base mH 10 fa fd ["_law_script"] (spT K zh):=by
 have o:=O.ok X G c3;have T:Ri K w mg:=⟨λi d e=>Mj X G c1 c2 d (d8 e),o.bl rfl,o.bl rfl,o.bl rfl,o.bl rfl,o.bl rfl,o.bl rfl,o.bl rfl,o.bl rfl,o.bl rfl,o.bl rfl,o.bl rfl,o.bl rfl,o.bl rfl,o.bl rfl,o.bl rfl,o.bl rfl,o.bn 0 rfl,o.mk_ rfl,o.mk_ rfl,⟨⟨.ref zp,_,W.mg_of X G HV,rfl,λH=>.tup (vs:=[.str "guest",.str "speaker",.str "keeper",.str "owner"]) (.inr ⟨_,_,_,HW,rfl,rfl,by show 4<=sizeLine;decide,(.cons ⟨_,rfl⟩ (.cons ⟨_,rfl⟩ (.cons ⟨_,rfl⟩ (.cons ⟨_,rfl⟩ .nil))))⟩) (.cons (.str _ (by decide)) (.cons (.str _ (by decide)) (.cons (.str _ (by decide)) (.cons (.str _ (by decide)) .nil))))⟩,⟨_,_,W.mg_of X G HV,HW,rfl,rfl⟩⟩,o.fl (c:="Room") rfl rfl,o.fl (c:="Room") rfl rfl,o.fl (c:="Room") rfl rfl,o.fl (c:="Hall") rfl rfl,o.fl (c:="Room") rfl rfl,o.fl (c:="Room") rfl rfl,o.fl (c:="Hall") rfl rfl,o.fl (c:="Hall") rfl rfl,o.fl (c:="Room") rfl rfl,o.fl (c:="Room") rfl rfl,o.fl (c:="Room") rfl rfl,Fm.gd (bE:=[("door",.tup [.str "open",.str "asked"]),("voice",.tup [.str "all",.str "some"]),("past",.tup [.str "shown",.str "hidden"])]) (.cons (v:=.ref _) rfl (λH=>.tup (vs:=[.str "open",.str "asked"]) (.inr ⟨_,_,_,Zs,rfl,rfl,by show 2<=sizeLine;decide,(.cons ⟨_,rfl⟩ (.cons ⟨_,rfl⟩ .nil))⟩) (.cons (.str _ (by decide)) (.cons (.str _ (by decide)) .nil))) (.cons (v:=.ref _) rfl (λH=>.tup (vs:=[.str "all",.str "some"]) (.inr ⟨_,_,_,Zw,rfl,rfl,by show 2<=sizeLine;decide,(.cons ⟨_,rfl⟩ (.cons ⟨_,rfl⟩ .nil))⟩) (.cons (.str _ (by decide)) (.cons (.str _ (by decide)) .nil))) (.cons (v:=.ref _) rfl (λH=>.tup (vs:=[.str "shown",.str "hidden"]) (.inr ⟨_,_,_,Zz,rfl,rfl,by show 2<=sizeLine;decide,(.cons ⟨_,rfl⟩ (.cons ⟨_,rfl⟩ .nil))⟩) (.cons (.str _ (by decide)) (.cons (.str _ (by decide)) .nil))) .nil))) (W.mg_of X G e1) d1 s1 (show List.Nodup (["door","voice","past"]:List Str) by decide),Fm.gk (bE:=[("door",.tup [.str "open",.str "asked"]),("voice",.tup [.str "all",.str "some"]),("past",.tup [.str "shown",.str "hidden"])]) (.cons (v:=.ref _) rfl (λH=>.tup (vs:=[.str "open",.str "asked"]) (.inr ⟨_,_,_,Zs,rfl,rfl,by show 2<=sizeLine;decide,(.cons ⟨_,rfl⟩ (.cons ⟨_,rfl⟩ .nil))⟩) (.cons (.str _ (by decide)) (.cons (.str _ (by decide)) .nil))) (.cons (v:=.ref _) rfl (λH=>.tup (vs:=[.str "all",.str "some"]) (.inr ⟨_,_,_,Zw,rfl,rfl,by show 2<=sizeLine;decide,(.cons ⟨_,rfl⟩ (.cons ⟨_,rfl⟩ .nil))⟩) (.cons (.str _ (by decide)) (.cons (.str _ (by decide)) .nil))) (.cons (v:=.ref _) rfl (λH=>.tup (vs:=[.str "shown",.str "hidden"]) (.inr ⟨_,_,_,Zz,rfl,rfl,by show 2<=sizeLine;decide,(.cons ⟨_,rfl⟩ (.cons ⟨_,rfl⟩ .nil))⟩) (.cons (.str _ (by decide)) (.cons (.str _ (by decide)) .nil))) .nil))) (W.mg_of X G e1) d1 s1 (show List.Nodup (["door","voice","past"]:List Str) by decide) (show∀z∈(["door","voice","past"]:List Str),z.length<=cZ by decide),o.xc 0 rfl,o.xc 1 rfl,o.xc 2 rfl,o.xc 3 rfl,o.xc 4 rfl,o.xc 5 rfl,o.xc 6 rfl,o.xc 7 rfl,o.xc 8 rfl,o.xc 9 rfl,o.xc 10 rfl,o.HK rfl,o.HK rfl,o.HK rfl,o.HK rfl,o.HK rfl,o.HK rfl,o.HK rfl,o.HK rfl,o.HK rfl,o.HK rfl,o.ca rfl rfl,o.er rfl rfl,o.er rfl rfl,o.er rfl rfl,o.er rfl rfl,o.er rfl rfl,o.er rfl rfl,o.er rfl rfl⟩;cases hfa.symm.trans ((T.d 61 rfl:Ed.Ok K mg).m0 rfl);obtain⟨g,od,kV,doc,pm,an,gn,ct,Ks,b,_,_⟩:=(T.d 61 rfl:Ed.Ok K mg).fn.ex;exact⟨_,λs v=>by rw[b];exact .of_eq rfl,λbase _ _=>(YZ T).ok⟩
def U_{K:Frag}{H:Hp}{Q:VK}{E:XK}{a:Addr}{ns:List Int}(q:lT K H a (ns.map V.int))(hQ:∀H',Q (.bl true) H'):spT K zh [.ref a] H Q E:=
 ⟨⟨λ_=>false,λ_=>none⟩,[.vU ns],λb e=>(nomatch e),.cons (.vU q) .nil,.bl true,Nf ns,λv H' _ r=>by rw[r.ym];exact hQ H'⟩
def walk{l:PySem.W.OpenLaw}{q:Program}{XP:(Str->Option Value)->Heap->Prop}{YP:World->Heap->Prop}{d:DefRec}{K:Params->Frag}(hn:l.most=some 63)(VB:d.params.defaults=[])
  (hY:∀(w:World) (h:Heap),YP w h->(K w.params).In h)
  (F:∀(w:World) (mg:Str->Option Value) (fa:Addr) (h:Heap),(K w.params).In h->h.Ns mainGlobals mg->mg d.name=some (.ref fa)->
   ∃fd:FuncData,(∀(s:Shared) (u:Value),BindsTo s fd ⟨[u],[]⟩ [("_law_script",u)])/\∀base:Heap,(K w.params).In base->base.Ns mainGlobals mg->eI l.prog w (K w.params) mg base mH 10 fa fd ["_law_script"] (spT (K w.params) zh)):
  PySem.W.WalkO q bN XP YP l.row.toRowW d [] (λf vs=>PySem.call f vs):=
 L2.N2 (n:=63) (k:=10) (x:="_law_script") (CX:=λ_=>mH) (sp:=λw=>spT (K w.params) zh) hn (by decide) VB ⟨rfl,by decide,by decide⟩ hY F (λ_ _ a ns g _ b=>U_ b λ_=>rfl) λ_ _ _ _ _ z=>z
end M10
structure PySem.W.Fast:Prop where(tw16728102663063746693 tw399203084882466462 tw8558384916199971532 tw2868395521293934993 tw1531966841029343173 tw1564883896307800689 tw11511639789564043416 tw14063305896224942257 tw18385779767191029501 tw804305213064786031 tw9118064705993448920 tw16433607028272443113 tw16458193693733893488 tw14530058981745415921 tw15537574868218579898 tw18207696947415899144 tw17626676930772544176 tw15572733260123203959 tw8634660656369836129 tw448720795339892620 tw12495856204571593320 tw15814592937305266560 tw1550042034813519450 tw1286270436298051998 tw7175603002157488734 tw6688737607266553021 tw8779234241141615392 tw3109182911858936737 tw15308627682233460945 tw8680877014422948429 tw12230591326416438716 tw12243338817525709275 tw6044267403495677084 tw6300125243361865677 tw16890870976949084660 tw11580434143278097229 tw12606599502732268853 tw15219195046071601890 tw10776055805115935957 tw1300996017651229347 tw4090524903616494031 tw5193289866257391017 tw15755039191652984443 tw16028822087455618314 tw6857905557420210603 tw17775436090473054530 tw1965005136138536931 tw3573021946119998916 tw18370981464946204953 tw13574485910591795664 tw14767964112511817888 tw13512614537289695092 tw2845869537419595702 tw7748843670674321382 tw8955953662415810389 tw2974290259600097686 tw14594745964222705545 tw14616109337060118690 tw17593231163685539480 tw12409145375967954487 tw9580530815496483213 tw6608461052195167113 tw6567048726994144840 tw16944853107369652351 tw6623294342222263559 tw6658084091956566760 tw7163002980696795032 tw11107260063386944828 tw17346971498620000617 tw9984306417336807003 tw13961509822731002115 tw16031102097001301769 tw14608751792774563405 tw14513337688581264595 tw11239844682748995526 tw9017199506025500574 tw4900998374355941716 tw16847027099485772160 tw16420041883796460251 tw6332199073373982024 tw8689236394336060505 tw3662332883963549068 tw7383707314527963392 tw2163740449706278241 tw17805205812001785694 tw2561115642711334527 tw9003328671154318903 tw18405164032185142832 tw9904873461536990277 tw8067918527362080117 tw17987083092113897994 tw15194231242497861799 tw1276689230336778426 tw2190289530535471509 tw6552411874228186833 tw17512002497994778082 tw337156370612793597 tw12791797513828368957 tw13783595726691552144 tw14129289717382959307 tw10533526220350194566 tw7556590045089251912 tw299387853619495170 tw14320124324337831434 tw1070805782526275238 tw4853552908863190212 tw1672910959033310680 tw14968421605436324712 tw9829648801222058876 tw10396048258674956739 tw9398935245649536313 tw6367372711920993141 tw6715777597321136428 tw15531958965968959116 tw3525717356804227096 tw10763089922798485976 tw7463845090602737464 tw15613876717391478555 tw6454037615452108876 tw666344878463365619 tw18405766074254781739 tw5664965050100079116 tw5299994367506052833 tw9790029177248691106 tw5962373067173102145 tw5462748441124993594 tw1253434961315465187 tw3099676948469518079 tw13657761029799324968 tw16760402580178526161 tw7851196643719473654 tw1357362989401807455 tw11139406663171974463 tw3809048973804709536 tw11528928746208326225 tw6957813899271480347 tw16325578916098989997 tw16476941828273425720 tw6416457934283830948 tw12322891067780982757 tw18148589935404120978 tw12666903799852549206 tw10065269859778359702 tw15458411784671524699 tw5612573173375019566 tw18319747324178971604 tw11323922876224572912 tw16117677543118767457 tw8286101592990854685 tw10034427352797039863 tw3092517177054138806 tw266105395408889727 tw17193089628187259032 tw234893578633532756 tw9860072066314629817 tw14842423179390303673 tw4528112973758535385 tw13856402808169338066 tw13525018701884382125 tw4563225347256896748 tw14121396649515261798 tw1435397486772995166 tw3144823677982075642 tw1027006958762487546 tw4433203934803882455 tw10816493797803362369 tw9793672538404733352 tw1203791152109260828 tw14289637939183093621 tw5195681372118494078 tw5089056805257563820 tw418554021762784303 tw17556062074020597593 tw1913006104097436454 tw13116898943983044750 tw575832811932788894 tw3458931787374966899 tw5600376585994149962 tw5384410278774986753 tw18324403332437166291 tw13573209300813722403 tw3083077322555650616 tw17525011852449173814 tw6383177584807983498 tw6613999085449119251 tw971755809374040583 tw7248091079897757569 tw1912744099845137402 tw1179375480453388826 tw13096940969490158497 tw866064073615589542 tw6864950245644601799 tw6988228038092312906 tw14363762183228808159 tw18287201979544875331 tw14701711421994086871 tw14600877399257572757 tw160768916058099959 tw3693216743781146990 tw9937067493313544417 tw1540159988916857244 tw17859568574427258748 tw1450351609526695208 tw5719646711936840492 tw14680482428520961099 tw16561862898022296678 tw2979086597954879809 tw4710471751544326466 tw8127710915383540046 tw3574827960165948140 tw10466018758093602668 tw15283118284753924561 tw18112767866396662272 tw5000621621604276883 tw873346683983734264 tw15954259704863998467 tw11278350424191103637 tw15771996917406245863 tw7776821607810807694 tw11308565852739803729 tw8375176122750833054 tw8737961408025492735 tw3963179738635942406 tw637198821452443533 tw11604490986308059402 tw5808087739377154464 tw16207983786103105860 tw12529249100319787263 tw14197133034361325527 tw92734119284644343 tw4894200977631021157 tw7126934684410524331 tw6031960503929599408 tw17044940406295746506 tw15341278287013329889 tw15236061122205739147 tw15363877116792905271 tw13185327131783407036 tw15601420919439038986 tw10063676567736886101 tw2666943874953296372 tw17093767131191645111 tw13064371531526878938 tw7556298661359764648 tw3239906204662117540 tw1548671052906722628 tw15246458420454473333 tw7990091259963362809 tw2878374433313953047 tw7728988799029963808 tw17731402505279448816 tw12390871640224318433 tw13235339461053788829 tw5909638264530648140 tw9928129523645003558 tw10542693613511924000 tw15965715065454631209 tw2871566656722657056 tw7861099017940582200 tw7983919966772146118 tw15908203975257813805 tw4954243431822321330 tw7005275840170570897 tw10900785420114731579 tw17780968363579416979 tw1333735440034590623 tw12811074978204286519 tw3041750913017078403 tw5210411961465255016 tw8214219050693360803 tw18176921176694597351 tw4640931188063506664 tw7984032791743772200 tw13845150256509655681 tw12978604533048447167 tw15212103257484125291 tw4865012345228903930 tw6913188878685954453 tw4808205658546898218 tw4991971895252092980 tw13031523821157285450 tw9324348730657438898 tw15059814697460040709 tw14978647251325531326 tw1696529165026784766 tw17730154551693537393 tw2495678459182624569 tw4818952913738231559 tw9589781234450565218 tw3423829209646643286 tw1824700340381270273 tw3280707480610515478 tw8011289107982549833 tw7720534600988799263 tw16160189671708306413 tw9260609628972035606 tw6692765663832780188 tw2640226168796508281 tw17609991907994219552 tw6960175206970489971 tw5989437678714248945 tw11299063774687214519 tw8249692687176742243 tw13307412156690676577 tw10763238436887257279 tw1853765104943013060 tw7119755448924911296 tw17641569376277884195 tw14754261640445600 tw6311281590861104742 tw16027037116894889386 tw12219261336824290363 tw8781951895113158519 tw8073414107085129875 tw18094369430617287416 tw16143236020170452478 tw5863481642103820051 tw2180431541231354606 tw18262296847848762342 tw4985600989565004466:True)
open PySem PySem.W PyProof.Rows
set_option maxRecDepth 100000 in
set_option maxHeartbeats 0 in
theorem PySem.Challenge.cw_talkhall_k10_put_out_and_barred_holds : PySem.Challenge.rw_talkhall_k10_put_out_and_barred.Holds := by
 w_on;o_law;k_head;(case hw=>w_witness2)
 k_fill
 refine M10.walk (l:=PySem.Challenge.rw_talkhall_k10_put_out_and_barred) rfl rfl (fun w h ρ=>PySem.W.kIn_of ρ) ?F
 case F=>
  intro w mg fa h KX G VC
  refine' M10.all_mk KX G VC ?_ ?_ ?_ ?_ ?_ ?_ ?_ ?_ ?_ ?_ ?_
  all_goals first|k_is|kernel_rfl|skip
