import PyProof.Rows.All
import Wide.All
import OpenK.AllK
import Wide.FinOn
import Lean
import PyProof.EqAt
import PyProof.EqKinds
import PyProof.TupleCall
import PyProof.ExcArgsOwn
import PyProof.AttrMissSeq
import KE.KMinKey
import KE.KBoundM
import KE.KSortTup
import KE.KItemsList
import PyProof.SeqI3
import PySem.Challenge.RW_talkhall_k07_settings
set_option Elab.async false
set_option linter.all false
set_option maxRecDepth 100000
set_option bootstrap.genMatcherCode false
set_option genSizeOf false
set_option genInjectivity false
set_option compiler.extract_closed false
noncomputable section
set_option maxHeartbeats 4000000
def aS:=@PySem.wpAny_bind
def bV:=@List.getElem?_eq_getElem
def bP:=@PySem.Heap.get?_push_of_some
def bt:=@List.length_map
def bc:=@PySem.wpAny_pure
def ck:=@List.mem_cons_of_mem
def bE:=@List.mem_cons
def b_:=@List.getElem?_map
def bz:=@Nat.le_refl
def bL:=@List.map_cons
def bu:=@PySem.Heap.lt_size
def cf:=@List.set_cons_succ
def cg:=@List.set_cons_zero
def cp:=@PySem.Heap.get?_push_size
def bU:=@Bool.and_eq_true
def aV:=@if_pos
def bX:=@beq_self_eq_true
def cz:=@List.mem_cons_self
def cR:=@Bool.false_eq_true
def bb:=@if_neg
def bY:=@Nat.ne_of_lt
def cS:=@List.size_toArray
def cK:=@List.lookup_cons
def c_:=@Nat.lt_of_lt_of_le
def eJ:=@List.getD_eq_getElem?_getD
def cN:=@List.not_mem_nil
def de:=@List.mem_singleton
def dw:=@List.mem_append_right
def cB:=@Nat.le_trans
def cE:=@List.mem_map
def dZ:=@List.mem_of_getElem?
def di:=@Option.map_some
def dt:=@List.length_cons
def cL:=@List.map_map
def dz:=@List.all_eq_true
def fb:=@List.contains_iff_mem
def gb:=@List.getElem?_eq_some_iff
def dI:=@List.mem_append
def eO:=@List.length_append
def eK:=@of_decide_eq_true
def dA:=@Bool.not_true
def cq:=@if_false
def dB:=@Nat.le_of_lt
def fK:=@Bool.false_ne_true
def jg:=@List.getElem?_eq_none_iff
def gc:=@Array.length_toList
def eL:=@Bool.not_false
def gf:=@List.mem_map_of_mem
def dJ:=@Nat.ne_of_gt
def gV:=@PySem.Around.under_plainId
def fc:=@PySem.W.kia_one
def gW:=@List.map_congr_left
def fu:=@decide_eq_false
def eP:=@Nat.lt_irrefl
def cO:=@or_false
def cC:=@if_true
def cT:=@congrArg
def j6:=@List.filter_cons_of_neg
def dQ:=@PySem.sizeLine_eq
def fL:=@PySem.codeAny_builtin
def d5:=@Nat.zero_le
def gg:=@List.mem_filter
def jh:=@beq_eq_false_iff_ne
def iy:=@decide_eq_true_eq
def fw:=@PySem.wpAny_holding
def gX:=@PySem.wpAny_call_entry
def lF:=@List.filter_cons_of_pos
def j7:=@List.mem_append_left
def gY:=@List.nodup_cons
def d6:=@PySem.wpAny_mono
def ji:=@PySem.wpAny_setField_rec
def lG:=@PySem.W.hideAll_none
def nr:=@PySem.F.slot_list_append
def gZ:=@PySem.wpAny_seqItems
def ff:=@beq_iff_eq
def j8:=@Option.isSome_map
def nu:=@PySem.F.plain_min_loop
def lH:=@PySem.mem_of_lookup
def g0:=@PySem.plainId_quiet
def nv:=@PySem.Calls.callWith_builtin
def ny:=@PySem.Heap.get?_update_other
def nz:=@Array.getElem?_toList
def lI:=@List.mem_filterMap
def iz:=@List.all_cons
def qD:=@PySem.F.type_list_append
def jj:=@decide_eq_true
def qE:=@PySem.F.plainAttrs_dict
def lJ:=@Nat.lt_succ_of_lt
def lK:=@Int.toNat_natCast
def j9:=@List.append_nil
def j_:=@List.find?_cons
def kc:=@beq_false_of_ne
def ke:=@List.map_append
def nA:=@PySem.Calls.evalArgs_plain
def nC:=@List.replicate_succ
def gi:=@PySem.wpAny_field
def jk:=@List.any_cons
def qF:=@PySem.wpAny_callSpecial?_slot
def nD:=@Option.isSome_some
def qG:=@PySem.F.slot_dict_get
def oM:=@List.getElem?_append_left
def oN:=@List.drop_eq_getElem_cons
def mr:=@List.getElem?_set_ne
def kF:=@PySem.Calls.spliced_cons
def mv:=@PySem.W.hideAll_get
def kG:=@PySem.wpAny_newObj_type
def kH:=@PySem.wpAny_pyIter_list
def oO:=@PySem.Str.length_append
def kI:=@PySem.wpAny_setState_of
def kJ:=@List.getElem_mem
def fE:=@PySem.wpAny_rule
def mw:=@PySem.W.of_hideAll
def oP:=@List.getElem?_set_self
def oQ:=@PySem.W.funFrames_hide
def jv:=@PySem.Heap.size_push
def kK:=@List.length_set
def oR:=@List.length_filter_le
def my:=@List.flatten_cons
def mz:=@List.getElem?_set
def iA:=@PySem.codeAny_mono
def mB:=@PySem.wpAny_Call_Name_kw
def mC:=@PySem.tupleKind_room_in1
def mD:=@Nat.succ_ne_self
def mE:=@Nat.le_add_right
def oS:=@List.filterMap_cons
def oU:=@PySem.W.plainGet_of
def oV:=@List.filter_eq_self
def sE:=@Option.isSome_iff_exists
def kL:=@Bool.false_or
def sF:=@PySem.F.slot_tuple_iterator_next
def kM:=@PySem.wpAny_tryCatch
def jw:=@PySem.call_meetsIn
def jx:=@PySem.F.called_set
def oW:=@Option.isSome_none
def sG:=@List.getElem?_replicate
def sH:=@PySem.F.plainAttrs_list
def sI:=@PySem.F.plain_list_iadd
def oX:=@PySem.Heap.SameBut.update
def sJ:=@PySem.F.entry_dict_get
def oY:=@List.ext_getElem?
def oZ:=@Bool.not_eq_true'
def mF:=@PySem.wpAny_ite_split
def sL:=@PySem.F.slot_dict_pop
def o4:=@Nat.lt_succ_self
def o5:=@List.filter_cons
def o6:=@Option.getD_some
def o7:=@List.drop_length
def o8:=@PySem.wpAny_truthy_bool
def o9:=@PySem.Calls.spliced_nil
def kN:=@List.map_id
def sM:=@Array.toArray_toList
def o_:=@List.forIn_cons
def pb:=@List.filter_map
def pd:=@Option.map_none
def sN:=@PySem.Heap.get?_update_self
def sO:=@List.length_pos_iff
def wC:=@PyProof.Rows.callWith_type1
def mG:=@List.map_nil
def pf:=@PySem.wpAny_isInstance
def wD:=@List.getElem?_append_right
def sP:=@Nat.lt_of_le_of_lt
def ph:=@PySem.wpAny_passesOwn
def pj:=@PySem.PassesOwn.never
def pq:=@PySem.wpAny_updateSeq
def sQ:=@PySem.W.kitx_dict
def wF:=@PyProof.Rows.slot_tuple_getitem
def sR:=@bne_self_eq_false
def sS:=@List.length_range
def sT:=@List.filter_congr
noncomputable def pv:=@Bool.or_false
def wG:=@PySem.F.slot_tuple_index
def pw:=@Bool.true_and
def wH:=@PySem.Calls.Name_function_global
def kO:=@PySem.call_meets
def wI:=@decide_eq_false_iff_not
def px:=@List.all_map
def wJ:=@Nat.le_of_succ_le_succ
def wK:=@PySem.F.entry_min_loop
def sU:=@List.of_mem_zip
def sV:=@PySem.wpAny_Call_method
def sW:=@PySem.W.kia_tup
def sX:=@Bool.eq_iff_iff
def mH:=@PySem.wpAny_letGo
def wL:=@List.length_replicate
def pz:=@PySem.wpAny_newList
def wM:=@PySem.F.slot_list_getattribute
def sY:=@List.mem_range
def pA:=@Nat.le_succ
def sZ:=@PySem.wpAny_execs_nil
def s_:=@PySem.F.slot_zip_next
def wN:=@PySem.W.callWith_K
def wO:=@PySem.builtinLookup_eq_fast
def wQ:=@PySem.F.typeOf_object_class
def wR:=@Option.isNone_some
def BZ:=@List.findIdx?_eq_some_iff_getElem
def tm:=@PySem.W.looks_findIn
def wU:=@PySem.W.kitx_list
def wV:=@List.append_assoc
def tq:=@Bool.true_or
def wW:=@List.nodup_append
def wX:=@PySem.codeAny_call_builtin
def mI:=@PySem.W.Looks.ld
def wY:=@Nat.le_of_lt_succ
def wZ:=@PyProof.Rows.F.plain_set_update_loop
def w4:=@decide_eq_decide
def tB:=@PySem.wpAny_attempt
def pB:=@PySem.wpAny_load
def pC:=@PySem.wpAny_call
def w6:=@List.length_nil
def w8:=@Nat.not_lt_zero
def w_:=@List.filter_nil
def xa:=@Int.emod_nonneg
def B5:=@PySem.F.plain_proto_collect
def xf:=@Bool.false_and
def xg:=@Bool.and_false
def xh:=@PySem.PassesOwn.leaving
def B6:=@List.length_eraseIdx_of_lt
def xi:=@PySem.fits_of_scanBound
def tD:=@PySem.wpAny_typeOf
def xj:=@List.forIn_nil
def B7:=@PySem.F.excBase_ValueError
namespace HT
open PySem PyProof.Rows
section
open PySem.SeqAt
open PySem.AutoSeq1 (wpAny_loadPart')
open PySem.MeetsSeq PySem.MeetsSeq2 PySem.MeetsSeq3
end
section
variable {prog:Program}{w:World}{A:Around}{E:Value->Shared->Prop}{s:Shared}
theorem MR{t b:Addr}{vs ws:List Value}{Q:Value->Shared->Prop}(ht:IsTup s.heap t vs.toArray)(hb:IsTup s.heap b ws.toArray)(q:vs≠[])
  (h1:ws=[]->Q (.ref t) s) (h2:ws≠[]->Q (.ref s.heap.objs.size) {s with heap:=s.heap.push {cls:=.type "tuple",data:=.seq (vs++ws).toArray}})
  (hsz:vs.length+ws.length<=sizeLine):wpAny (model prog w) A (binaryOp .Add (.ref t) (.ref b)) Q E s:=by
 obtain⟨⟨cls,dd,data,sl⟩,l,I,n,hd⟩:=id ht;obtain⟨⟨abv,L,data2,M⟩,r,g,S,hd2⟩:=id hb;simp only at I hd g hd2;subst I hd g hd2;have e:vs.toArray++ws.toArray=(vs++ws).toArray:=by simp
 by_cases hw:ws=[]
 ·exact concat_meets ⟨_,l,rfl⟩ ⟨_,r,rfl⟩ noFill_tuple_add seq_tuple_add PySem.F.slot_tuple_add PySem.F.entry_tuple_add (PySem.F.args_tuple_add_2 _ _)
   (tuple_addW1 t b vs.toArray ws.toArray n S dd L sl M (by simpa using q) (by simp[hw])) ⟨l,r,h1 hw⟩
 ·refine concat_meets ⟨_,l,rfl⟩ ⟨_,r,rfl⟩ noFill_tuple_add seq_tuple_add PySem.F.slot_tuple_add PySem.F.entry_tuple_add (PySem.F.args_tuple_add_2 _ _)
   (tuple_addW2 t b vs.toArray ws.toArray n S dd L sl M (by simpa using q) (by simpa using hw) (by rw[List.size_toArray,List.size_toArray];exact hsz)) ⟨l,r,?_⟩
  rw[e];exact h2 hw
noncomputable def ir(n d:Nat):Option Int->Nat
 |none=>d
 |some v=>if v<0 then(v+(n:Int)).toNat else min v.toNat n
def QH(n d:Nat)(hd:d<=n)(o:Option Int):ir n d o<=n:=by
 cases o with
 |none=>exact hd
 |some v=>
  show(if v<0 then(v+(n:Int)).toNat else min v.toNat n)<=n;by_cases b:v<0
  ·rw[if_pos b];omega
  ·rw[if_neg b];exact Nat.min_le_right _ _
def Ax(v:Int)(n d:Nat):(if v<0 then max (v+(n:Int)) 0 else min v (n:Int))=((ir n d (some v):Nat):Int):=by
 show(if v<0 then max (v+(n:Int)) 0 else min v (n:Int))=(((if v<0 then(v+(n:Int)).toNat else min v.toNat n):Nat):Int);by_cases b:v<0
 ·simp only[if_pos b];omega
 ·simp only[if_neg b];omega
def D8(lo hi:Option Int)(n:Nat):Builtin.Slice.sliceAdjust lo hi 1 (n:Int)=(((ir n 0 lo:Nat):Int),((ir n n hi:Nat):Int)):=by
 have b:¬((1:Int)<0):=by omega
 unfold Builtin.Slice.sliceAdjust;simp only[b,if_false];refine Prod.ext ?_ ?_
 ·cases lo with
  |none=>rfl
  |some v=>exact Ax v n 0
 ·cases hi with
  |none=>rfl
  |some v=>exact Ax v n n
def D9(i j:Nat):Builtin.Slice.slicePlaces (i:Int) (j:Int) 1=j - i:=by
 unfold Builtin.Slice.slicePlaces;have b:(1:Int)>0:=by omega
 simp only[b,if_true,Int.ediv_one];split<;>omega
def xk{v:Value}{o:Option Int}{Q:Option Int->Shared->Prop}(p:IsPart v o)(h:Q o s):wpAny (model prog w) A (Builtin.Slice.slicePartIndex v) Q E s:=by
 cases p with
 |none=>exact slicePart_none h
 |int i t=>exact slicePart_int h
theorem mJ{sl:Addr}{q vu:Value}{lo hi:Option Int}{n:Nat}{Q:Int×Int×Nat->Shared->Prop}(hs:s.heap.IsSliceOf sl q vu .none)(pl:IsPart q lo)(pu:IsPart vu hi)
  (h:Q (((ir n 0 lo:Nat):Int),1,ir n n hi - ir n 0 lo) s):wpAny (model prog w) A (Builtin.Slice.sliceApplied (.ref sl) (pure (n:Int))) Q E s:=by
 obtain⟨os,b,l,g⟩:=id hs;unfold Builtin.Slice.sliceApplied Builtin.Slice.sliceFields;refine wpAny_bind (wpAny_bind (wpAny_field b g (x:=q) rfl (wpAny_bind (wpAny_field b g (x:=vu) rfl (wpAny_bind (wpAny_field b g (x:=.none) rfl (wpAny_pure ?_)))))));refine wpAny_bind (slicePart_none ?_);show wpAny _ _ (if((1:Int)==0)=true then _ else _) _ _ s;rw[if_neg (by decide)];refine wpAny_bind (xk pl (wpAny_bind (xk pu (wpAny_bind (wpAny_pure ?_)))));show wpAny _ _ (match Builtin.Slice.sliceAdjust lo hi 1 (n:Int)with|(lo,hi)=>pure (lo,(1:Int),Builtin.Slice.slicePlaces lo hi 1)) _ _ s;rw[D8 lo hi n];show wpAny _ _ (pure (((ir n 0 lo:Nat):Int),(1:Int),Builtin.Slice.slicePlaces ((ir n 0 lo:Nat):Int) ((ir n n hi:Nat):Int) 1)) _ _ s;rw[D9];exact wpAny_pure h
def Jm(xs:Array Value)(i k:Nat):((List.range k).filterMap λ(m:Nat)=>xs[((i:Int)+(m:Int)*1).toNat]?).toArray=((xs.toList.drop i).take k).toArray:=by
 have e:(λ(m:Nat)=>xs[((i:Int)+(m:Int)*1).toNat]?)=λm=>xs[i+m]? :=by
  funext m;have:((i:Int)+(m:Int)*1).toNat=i+m:=by omega
  rw[this]
 rw[e];have:=pick_run xs i k;rw[List.filterMap_map]at this;have b:((λx=>xs[x]?)∘λx=>i+x)=λm=>xs[i+m]? :=rfl
 rw[b]at this;rw[this]
theorem tH{t sl:Addr}{a8:Array Value}{vl vu:Value}{lo hi:Option Int}{Q:Value->Shared->Prop}(ht:IsTup s.heap t a8)(hs:s.heap.IsSliceOf sl vl vu .none)(pl:IsPart vl lo)(pu:IsPart vu hi)
  (hw:¬(ir a8.size 0 lo=0/\ir a8.size a8.size hi=a8.size))
  (h:Q (.ref s.heap.objs.size) {s with heap:=s.heap.push {cls:=.type "tuple",data:=.seq ((a8.toList.drop (ir a8.size 0 lo)).take (ir a8.size a8.size hi - ir a8.size 0 lo)).toArray}})
  (hsz:a8.size<=sizeLine):wpAny (model prog w) A (getItem (.ref t) (.ref sl)) Q E s:=by
 have b:sizeOk (.seq ((a8.toList.drop (ir a8.size 0 lo)).take (ir a8.size a8.size hi - ir a8.size 0 lo)).toArray):=by
  show((a8.toList.drop (ir a8.size 0 lo)).take (ir a8.size a8.size hi - ir a8.size 0 lo)).toArray.size<=sizeLine;rw[List.size_toArray,List.length_take,List.length_drop,Array.length_toList];omega
 have I:ir a8.size a8.size hi<=a8.size:=QH _ _ (Nat.le_refl _) hi;obtain⟨os,g,l,L⟩:=id hs;have n:s.TypeIs (.ref sl) "slice":=⟨os,g,l⟩;unfold getItem
 try with_reducible refine wpAny_holding ?_
 first|refine wpAny_bind (wpAny_pure ?_)|skip
 refine wpAny_bind (wpAny_sequenceKey ht.typeIs (by decide) ?_);refine wpAny_bind (wpAny_callSpecial?_slot (name:=Str.ofString "__getitem__") ht.typeIs PyProof.Rows.slot_tuple_getitem
  (wpAny_call_entry PyProof.Rows.slot_tuple_getitem ht.typeIs entry_tuple_getitem ?_ (args_tuple_getitem _ _)))
 show wpAny _ _ (Builtin.Tuple.tupleItemsOf (.ref t)>>=_) _ _ s;refine wpAny_bind (tupleItemsOf_ ht ?_);refine wpAny_bind (wpAny_typeOf n ?_);rw[if_pos (by decide)];refine wpAny_bind (mJ hs pl pu ?_);have r:¬((((ir a8.size 0 lo:Nat):Int)==0&&(1:Int)==1&&(ir a8.size a8.size hi - ir a8.size 0 lo)==a8.size)=true):=by
  intro q;rw[Bool.and_eq_true,Bool.and_eq_true]at q;have M:((ir a8.size 0 lo:Nat):Int)=0:=eq_of_beq q.1.1;have S:ir a8.size a8.size hi - ir a8.size 0 lo=a8.size:=eq_of_beq q.2;exact hw ⟨by omega,by omega⟩
 show wpAny _ _ (if(((ir a8.size 0 lo:Nat):Int)==0&&(1:Int)==1&&(ir a8.size a8.size hi - ir a8.size 0 lo)==a8.size)=true then _ else _) _ _ s;rw[if_neg r,Jm]
 first
  |exact wpAny_bind (m:=Builtin.Tuple.tupleExact _) (wpAny_newObj_type (wpAny_pure ⟨_,rfl,wpAny_pure h⟩) b)
  |exact wpAny_bind (m:=Builtin.Tuple.tupleExact _) (wpAny_newObj_type (wpAny_bind (wpAny_pure (wpAny_pure ⟨_,rfl,wpAny_pure h⟩))) b)
  |exact wpAny_bind (wpAny_bind (m:=Builtin.Tuple.tupleExact _) (wpAny_newObj_type (wpAny_pure (wpAny_pure ⟨_,rfl,wpAny_pure h⟩)) b))
  |exact wpAny_bind (wpAny_bind (m:=Builtin.Tuple.tupleExact _) (wpAny_newObj_type (wpAny_pure ⟨_,rfl,wpAny_pure h⟩) b))
end
end HT
namespace Att
open PySem PySem.W PySem.Calls PyProof.Rows
def vM{P:Params}{h:Heap}:∀(ns:List Int) (vs:List Value),WellAll P h vs (ns.map WData.int)->IntsAre vs ns:=by
 intro ns
 induction ns with
 |nil=>
  intro vs w;rw[List.map_nil]at w;cases w;exact .nil
 |cons n ns g=>
  intro vs w;rw[List.map_cons]at w;cases w with
  |cons a b=>
   cases a;exact .cons _ _ (g _ b)
theorem Hd{l:OpenLaw}{n:Nat}(hn:l.most=some n){P:Params}{h:Heap}{args:List WData}{vals:List Value}
  (MS:l.row.toRowW.claim.pre args=true) (U6:WellAll P h vals args):
  ∃a vs ns,vals=[Value.ref a]/\args=[WData.list (ns.map WData.int)]/\h.get? a=some {cls:=.type "list",data:=.seq vs.toArray}/\IntsAre vs ns/\ns.length<=n:=by
 have L:WShape.hasAll [] args [.list .int]=true:=(pre_splitW MS).1;have I:l.pre.holds [] {args:=args}=true:=(pre_splitW MS).2;obtain⟨d,r,rfl,h1,h2⟩:=hasAllW_cons L;obtain rfl:=hasAllW_nil h2;obtain⟨xs,rfl,M⟩:=hasW_list h1;obtain⟨ns,rfl⟩:=items_int M;have S:ns.length<=n:=by
  unfold OpenLaw.pre at I;have b:(WTm.not (.lt (.lit (.int (n:Int))) (.len (.arg 0)))).holds [] {args:=[.list (ns.map .int)]}=true:=by
   have b:=(holds_andW I).1;rw[hn]at b;exact b
  have g:=condW_of b (w_not (w_lt w_lit (w_len_list (w_arg rfl))));rw[List.length_map]at g;refine Nat.le_of_not_lt λq=>?_
  have q':(n:Int)<((ns.length:Nat):Int):=by omega
  first
   |(rw[decide_eq_true q']at g;exact absurd g (by decide))
   |(simp at g;omega)
 cases U6 with
 |cons w1 w2=>
  cases w2;cases w1 with
  |list ho uP=>exact⟨_,_,ns,rfl,rfl,ho,vM ns _ uP,S⟩
theorem He(l:OpenLaw)(args:List WData):l.row.toRowW.claim.post args (.bool true) args=true:=
 postW_of (r:=l.row.toRowW) (X:=(true==true))
  (show WShape.has [] (.bool true) .bool=true by first|rfl|decide|simp[WShape.has,WShape.arms,WShape.armsAll])
  (show(WTm.eq .res (.lit (.bool true))).value [] {args:=args,res:=some (.bool true),after:=args}=some (.bool (true==true))from w_eq_bool (w_res rfl) w_lit) rfl
def B8{l:OpenLaw}{n:Nat}{q:Program}{loose:List Str}{XP:(Str->Option Value)->Heap->Prop}{YP:World->Heap->Prop}{d:DefRec}
  (hn:l.most=some n) (U7:d.params.defaults=[])
  (call:∀(w:World) (gj dg:Shared) (mg mb:Str->Option Value) (fa:Addr) (o:Obj) (pm cd doc:Value) (a:Addr) (vs:List Value) (ns:List Int),
   Ground q loose [] XP w gj mg mb dg.heap->YP w dg.heap->
   dg.heap.get? fa=some o->o.data=.func (docDef d.name d.params d.body d.scope pm cd doc)->dg.heap.CodeRec cd d.name->mg d.name=some (.ref fa)->
   dg.heap.get? a=some {cls:=.type "list",data:=.seq vs.toArray}->IntsAre vs ns->ns.length<=n->dg.gens=#[]->
   codeAny (model l.prog w) callerA (.call (.ref fa) ⟨[.ref a],[]⟩) (λr s'=>r=.ok (.ret (.bool true))/\OldK dg.heap s'.heap/\s'.os=dg.os/\AllBare s'.gens) dg):
  WalkO q loose XP YP l.row.toRowW d [] (λf vs=>PySem.call f vs):=by
 intro w gj dg mg mb G g fa o pm cd doc I kV L hd M b S hg args vals as MS abw hrd U6 hlo;obtain rfl:I=.none:=Dflts.none b U7;obtain rfl:kV=.none:=Dflts.noKw b;obtain⟨a,vs,ns,rfl,rfl,QL,hints,b9⟩:=Hd hn MS U6;refine enter_call (codeAny_mono (call w gj dg mg mb fa o pm cd doc a vs ns G g L (fd_plain hd) M S QL hints b9 hg) λr s' hq=>?_);obtain⟨rfl,h2,h3,h4⟩:=hq;exact⟨.inl ⟨.bool true,.bool true,[],rfl,λ_=>rfl,.bool true,He l _,λ_=>⟨List.Pairwise.nil,λ_ hm=>(nomatch hm)⟩⟩,h2,h3,h4⟩
end Att
namespace PySem
noncomputable abbrev Y2(h:Heap)(l1:Addr):Heap:=h.push {cls:=.type "tuple_iterator",data:=.fields #[.ref l1,.int 0 0]}
abbrev Y3(h:Heap)(l1 l2:Addr):Heap:=(Y2 h l1).push {cls:=.type "tuple_iterator",data:=.fields #[.ref l2,.int 0 0]}
abbrev Y4(h:Heap)(l1 l2:Addr):Heap:=(Y3 h l1 l2).push {cls:=.type "tuple",data:=.seq #[.ref h.objs.size,.ref (Y2 h l1).objs.size]}
abbrev Y5(h:Heap)(l1 l2:Addr):Heap:=(Y4 h l1 l2).push {cls:=.type "tuple",data:=.seq #[.none,.none]}
abbrev UE(h:Heap)(l1 l2:Addr):Heap:=(Y5 h l1 l2).push {cls:=.type "zip",data:=.fields #[.none,.bool false,.bool false,.ref (Y3 h l1 l2).objs.size,.ref (Y4 h l1 l2).objs.size]}
theorem Ea(l1 l2:Addr)(xs ys:Array Value):Meets (Builtin.«zip.__new__» ⟨[.type "zip",.ref l1,.ref l2],[]⟩)
  (λ_ R s=>s.heap.IsTuple l1 xs/\s.heap.IsTuple l2 ys/\R (.ok (.ret (.ref (Y5 s.heap l1 l2).objs.size))) {s with heap:=UE s.heap l1 l2}):=
 .of_wp λprog w A R s h=>by
  obtain⟨hp,g,d,tk,os⟩:=s;obtain⟨l,n,h⟩:=h;have I:=sub_zip;have r:Heap.IsTuple (Shared.heap ⟨hp,g,d,tk,os⟩) l1 xs:=l;have b:Heap.IsTuple (Shared.heap ⟨hp.push {cls:=.type "tuple_iterator",data:=.fields #[.ref l1,.int 0 0]},g,d,tk,os⟩) l2 ys:=n.at λo e=>Heap.get?_push_of_some _ e
  wp_walk using wpAny_pyIter_tuple r,wpAny_pyIter_tuple b
  exact⟨_,rfl,h⟩
section
variable {prog:Program}{w:World}{A:Around}{E:Value->Shared->Prop}{s:Shared}
theorem Hf{l1 l2:Addr}{xs ys:Array Value}{Q:Value->Shared->Prop}(q:s.heap.IsTuple l1 xs)(MT:s.heap.IsTuple l2 ys)
  (h:∀h',IsZip h' (s.heap.objs.size+4) (s.heap.objs.size+2) (s.heap.objs.size+3) .none->IsPair h' (s.heap.objs.size+2) (.ref s.heap.objs.size) (.ref (s.heap.objs.size+1))->
   IsPair h' (s.heap.objs.size+3) .none .none->h'.IsTupleIter s.heap.objs.size l1 0->h'.IsTupleIter (s.heap.objs.size+1) l2 0->(∀c o,s.heap.get? c=some o->h'.get? c=some o)->Q (.ref (s.heap.objs.size+4)) {s with heap:=h'}):
  wpAny (model prog w) A (call (.type "zip") [.ref l1,.ref l2]) Q E s:=by
 refine callType_new F.called_zip (by decide) (F.typeCall_zip_2 _ _) (F.newCall_zip_2 _ _) (λobj=>F.args_object_init_3 obj _ _) F.entry_zip_new (Ea l1 l2 xs ys) ⟨q,MT,?_⟩;have b:(Y2 s.heap l1).objs.size=s.heap.objs.size+1:=Heap.size_push ..;have g:(Y3 s.heap l1 l2).objs.size=s.heap.objs.size+2:=by rw[Heap.size_push,b]
 have l:(Y4 s.heap l1 l2).objs.size=s.heap.objs.size+3:=by rw[Heap.size_push,g]
 have r:(Y5 s.heap l1 l2).objs.size=s.heap.objs.size+4:=by rw[Heap.size_push,l]
 have up:∀{h:Heap} {c:Addr} {o o':Obj},h.get? c=some o->(h.push o').get? c=some o:=λe=>Heap.get?_push_of_some _ e;have n:(UE s.heap l1 l2).get? (Y5 s.heap l1 l2).objs.size=some _:=Heap.get?_push_size _ rfl;have I:(UE s.heap l1 l2).get? (Y4 s.heap l1 l2).objs.size=some _:=up (Heap.get?_push_size _ rfl);have g3:(UE s.heap l1 l2).get? (Y3 s.heap l1 l2).objs.size=some _:=up (up (Heap.get?_push_size _ rfl));have g2:(UE s.heap l1 l2).get? (Y2 s.heap l1).objs.size=some _:=up (up (up (Heap.get?_push_size _ rfl)));have g1:(UE s.heap l1 l2).get? s.heap.objs.size=some _:=up (up (up (up (Heap.get?_push_size _ rfl))));show _/\_;rw[g,l,r]at n;rw[b,g]at g3;rw[l]at I;rw[b]at g2;rw[r];exact⟨⟨_,n,rfl⟩,h _ n g3 I ⟨_,g1,rfl,rfl⟩ ⟨_,g2,rfl,rfl⟩ λc o x=>up (up (up (up (up x))))⟩
end
end PySem
namespace PySem.SeqAt
open PySem PySem.Spec PySem.Calls PyProof.Rows PySem.MeetsSeq
def Hg{M:Model}{A:Around}{E:Value->Shared->Prop}{s:Shared}{β:Type}(f:Nat->β->Sem (ForInStep β))(I:List Nat->β->Shared->Prop)(Q:β->Shared->Prop)
  (turn:∀x c9 b s,I (x::c9) b s->wpAny M A (f x b) (λr s'=>match r with|.yield q=>I c9 q s'|.done q=>Q q s') E s)
  (fin:∀b s,I [] b s->Q b s) (n:Nat) (b:β) (h:I (List.range' 0 n) b s):wpAny M A (forIn [:n] b f) Q E s:=by
 rw[Std.Legacy.Range.forIn_eq_forIn_range'];simp only[Std.Legacy.Range.size,Nat.sub_zero,Nat.add_sub_cancel,Nat.div_one];exact wpAny_forIn_list f I Q turn fin _ b h
theorem y6(l:Addr)(q:Array Value)(n:Nat)(dd:Option Addr)(sl:Array (Option Value))(x:Value)(e:Value->Bool)(j:Nat)(hj:j<q.size)(hit:e q[j]=true)(Jn:∀m (hm:m<q.size),m<j->e q[m]=false):
  Meets (Builtin.«tuple.index» ⟨[.ref l,x],[]⟩)
   (λA R s=>s.heap.get? l=some {cls:=.type "tuple",dict:=dd,data:=.seq q n,slots:=sl}/\(∀y,y∈q->EqAt A.in1 s y x (e y))/\R (.ok (.ret (.int j s.toks))) {s with toks:=s.toks+1}):=
 .of_wp λprog w A R s h=>by
  obtain⟨hp,g,d,tk,os⟩:=s;obtain⟨L,he,h⟩:=h
  wp_walk using wpAny_loadPart' L,Hg _ (λc9 (b:Option _×Unit) s'=>b.1=none/\s'=⟨hp,g,d,tk,os⟩/\∃i,c9=List.range' i (q.size - i)/\i<=j) _
  case turn=>
   rintro y c9 b s' ⟨hb,rfl,i,r,hi⟩
   have I:i<q.size:=Nat.lt_of_le_of_lt hi hj;obtain⟨rfl,M⟩:y=i/\c9=List.range' (i+1) (q.size - (i+1)):=by
    have e:q.size - i=(q.size - (i+1))+1:=by omega
    rw[e,List.range'_succ]at r;injection r with h1 h2
    exact⟨h1,h2⟩
   rw[Array.getElem?_eq_getElem I];refine wpAny_bind (he _ (Array.getElem_mem I) prog w _ _ ?_);by_cases z:y=j
   ·subst z;rw[hit]
    wp_walk
    exact⟨_,rfl,h⟩
   ·rw[Jn y I (by omega)]
    wp_walk
    exact⟨rfl,rfl,y+1,M,by omega⟩
  case fin=>
   rintro b s' ⟨hb,rfl,i,r,hi⟩
   have e:q.size - i=(q.size - (i+1))+1:=by omega
   rw[e,List.range'_succ]at r;exact nomatch r
  case h=>exact⟨rfl,rfl,0,by rw[Nat.min_self,Nat.sub_zero],Nat.zero_le _⟩
end PySem.SeqAt
namespace HT
open PySem PyProof.Rows
section
variable {prog:Program}{w:World}{A:Around}{E:Value->Shared->Prop}{s:Shared}
theorem rg{t sl:Addr}{q:Array Value}{vl vu:Value}{lo hi:Option Int}{Q:Value->Shared->Prop}(ht:IsTup s.heap t q)(hs:s.heap.IsSliceOf sl vl vu .none)(pl:IsPart vl lo)(pu:IsPart vu hi)
  (hw:ir q.size 0 lo=0/\ir q.size q.size hi=q.size) (h:Q (.ref t) s):wpAny (model prog w) A (getItem (.ref t) (.ref sl)) Q E s:=by
 obtain⟨os,b,g,r⟩:=id hs;have l:s.TypeIs (.ref sl) "slice":=⟨os,b,g⟩;unfold getItem
 try with_reducible refine wpAny_holding ?_
 first|refine wpAny_bind (wpAny_pure ?_)|skip
 refine wpAny_bind (wpAny_sequenceKey ht.typeIs (by decide) ?_);refine wpAny_bind (wpAny_callSpecial?_slot (name:=Str.ofString "__getitem__") ht.typeIs PyProof.Rows.slot_tuple_getitem
  (wpAny_call_entry PyProof.Rows.slot_tuple_getitem ht.typeIs entry_tuple_getitem ?_ (args_tuple_getitem _ _)))
 show wpAny _ _ (Builtin.Tuple.tupleItemsOf (.ref t)>>=_) _ _ s;refine wpAny_bind (tupleItemsOf_ ht ?_);refine wpAny_bind (wpAny_typeOf l ?_);rw[if_pos (by decide)];refine wpAny_bind (mJ hs pl pu ?_);have n:((((ir q.size 0 lo:Nat):Int)==0&&(1:Int)==1&&(ir q.size q.size hi - ir q.size 0 lo)==q.size)=true):=by
  rw[hw.1,hw.2];simp
 show wpAny _ _ (if(((ir q.size 0 lo:Nat):Int)==0&&(1:Int)==1&&(ir q.size q.size hi - ir q.size 0 lo)==q.size)=true then _ else _) _ _ s;rw[if_pos n];refine wpAny_bind (m:=Builtin.Tuple.tupleIsExact (.ref t)) ?_
 show wpAny _ _ (typeOf (.ref t)>>=_) _ _ s;refine wpAny_bind (wpAny_typeOf ht.typeIs (wpAny_pure ?_));rw[if_pos (by decide)];exact wpAny_bind (wpAny_rule (wpAny_pure ⟨_,rfl,wpAny_pure h⟩))
end
end HT
namespace L2
open PySem.W (Frag)
open PySem PySem.Spec PyProof.Rows
variable {aa:Heap}{ae:Unit->Shared->Prop}{af:Value}{ag:Type}{ah aj:List Stmt}{ai:Stmt}{ak:Array Value}{am:Expr}{aq:List Value}{au:Addr}{av:Str}{aw:Result->Shared->Prop}{ax:Scope}{ay:String}{az:Nat}{aA:List Expr}{aM:Option Value->Shared->Prop}
variable {K:Frag}{U:List (Addr×Obj)}{pos p b8:Pos}{E Q:Value->Shared->Prop}{es:List Expr}{e tg o:Expr}{s:Shared}{a:Addr}{x:Str}{w:World}{A:Around}{mg:Str->Option Value}{i:Nat}{P:Program}{ps:List Str}
def fe{p:Prop}(h:False):p:=h.elim
abbrev Db(x:Str):Prop:=(x==("__debug__":Str))=false
abbrev tK(pos b8:Pos)(o:Expr)(m:Str)(es:List Expr)(env:Env)(pl:Sem Bool):Sem Value:=do
 let ov<-eval o env
 standAt b8.atName
 let(f,first)<-holding [ov] (getMethod ov m pl)
 callWith pos f first (backTo pos (starEach es env)) (backToKw pos (keywordEach [] env))
abbrev Key:=Sum Int Str
noncomputable def mK:Key->Value->Bool
 |.inl k,v=>Value.isInt k v
 |.inr x,v=>Value.isStrOf x v
def ZO(w:World):Key->Int
 |.inl k=>hashInt k
 |.inr x=>hashStr w x
theorem dN:∀{k:Key} {v:Value},mK k v=true->(∃i t,k=Sum.inl i/\v=Value.int i t)\/(∃x t,k=Sum.inr x/\v=Value.str x t)
 |.inl i,v,h=>by
  obtain⟨t,e⟩:=Value.isInt_shape (k:=i) (v:=v) h;exact .inl ⟨i,t,rfl,e⟩
 |.inr x,v,h=>by
  obtain⟨t,e⟩:=Value.isStrOf_shape (x:=x) (v:=v) h;exact .inr ⟨x,t,rfl,e⟩
theorem Hh(i:Int)(t:Tok):mK (.inl i) (.int i t)=true:=by simp[mK,Value.isInt]
theorem Hi(x:Str)(t:Tok):mK (.inr x) (.str x t)=true:=by simp[mK,Value.isStrOf]
def QN(a b:Int):decide ((Sum.inl a:Key)=Sum.inl b)=(a==b):=by
 by_cases e:a=b
 ·subst e;simp
 ·have h:¬(Sum.inl a:Key)=Sum.inl b:=λq=>e (Sum.inl.inj q);rw[fu h];exact(jh.mpr e).symm
def QQ(a b:Str):decide ((Sum.inr a:Key)=Sum.inr b)=decide (a=b):=by
 by_cases e:a=b
 ·subst e;simp
 ·have h:¬(Sum.inr a:Key)=Sum.inr b:=λq=>e (Sum.inr.inj q);rw[fu h,fu e]
def QR(a:Int)(b:Str):decide ((Sum.inl a:Key)=Sum.inr b)=false:=fu (λq=>nomatch q)
def QU(a:Str)(b:Int):decide ((Sum.inr a:Key)=Sum.inl b)=false:=fu (λq=>nomatch q)
def cj(prog:Program)(w:World):PySem.KeyKind prog w Key where
 is:=mK
 hash:=ZO w
 inj:=λv a b n hb=>by
  rcases dN n with⟨i,t,rfl,rfl⟩|⟨x,t,rfl,rfl⟩
  ·rcases dN hb with⟨j,u,rfl,e⟩|⟨y,u,rfl,e⟩
   ·injection e with g _;rw[g]
   ·exact nomatch e
  ·rcases dN hb with⟨j,u,rfl,e⟩|⟨y,u,rfl,e⟩
   ·exact nomatch e
   ·injection e with g _;rw[g]
 byValue:=λk v h=>by
  rcases dN h with⟨i,t,rfl,rfl⟩|⟨x,t,rfl,rfl⟩<;>rfl
 pyHash:=λl h=>by
  rcases dN l with⟨i,t,rfl,rfl⟩|⟨x,t,rfl,rfl⟩
  ·exact wpAny_pyHash_int h
  ·exact wpAny_pyHash_str h
 eqBool:=λr l h=>by
  rcases dN r with⟨i,t,rfl,rfl⟩|⟨x,t,rfl,rfl⟩
  ·rcases dN l with⟨j,u,rfl,rfl⟩|⟨y,u,rfl,rfl⟩
   ·rw[QN]at h;exact wpAny_eqBool_int h
   ·rw[QR]at h;exact SeqAt.EqAt.int_str i t y u _ _ _ _ h
  ·rcases dN l with⟨j,u,rfl,rfl⟩|⟨y,u,rfl,rfl⟩
   ·rw[QU]at h;exact SeqAt.EqAt.str_int x t j u _ _ _ _ h
   ·rw[QQ]at h;exact wpAny_eqBool_str h
 «strs»:=λk x t v h=>by
  rcases dN h with⟨i,u,rfl,e⟩|⟨y,u,rfl,e⟩
  ·exact nomatch e
  ·injection e with g _
   subst g;cases v<;>rfl
def B9(prog:Program)(w:World)(i:Int)(t:Tok):(cj prog w).is (.inl i) (.int i t)=true:=Hh i t
def B_(prog:Program)(w:World)(x:Str)(t:Tok):(cj prog w).is (.inr x) (.str x t)=true:=Hi x t
set_option genInjectivity true in
inductive V where
 |cx|bl (b:Bool)|int (i:Int)|str (x:Str)|Pq (b:Array UInt8)|D3 (b:UInt64)|ref (a:Addr)|ty (n:String)
 deriving DecidableEq
variable {ar:List V}
variable {kvs:List (Key×V)}
def RelV:V->Value->Prop
 |.cx,u=>u=Value.none
 |.bl b,u=>u=Value.bool b
 |.int i,u=>∃t,u=Value.int i t
 |.str x,u=>∃t,u=Value.str x t
 |.Pq b,u=>∃t,u=Value.bytes b t
 |.D3 b,u=>∃t,u=Value.float b t
 |.ref a,u=>u=Value.ref a
 |.ty n,u=>u=Value.type n
abbrev Vals:List V->List Value->Prop:=Paired RelV
theorem Vals.length {xs:List V}{us:List Value}(r:Vals xs us):xs.length=us.length:=Paired.length r
theorem Vals.get:∀{xs:List V} {us:List Value} {i:Nat} {x:V},Vals xs us->xs[i]?=some x->∃u,us[i]?=some u/\RelV x u
 |_,_,_,_,.nil,e=>by simp at e
 |_,_,0,_,.cons r _,e=>by simp at e;subst e;exact⟨_,rfl,r⟩
 |_,_,i+1,x,.cons _ t,e=>by
  obtain⟨u,h1,h2⟩:=Vals.get (i:=i) (x:=x) t (by simpa using e);exact⟨u,by simpa using h1,h2⟩
theorem Vals.set {x:V}{u:Value}(r:RelV x u):∀{xs:List V} {us:List Value} (i:Nat),Vals xs us->Vals (xs.set i x) (us.set i u)
 |_,_,_,.nil=>.nil
 |_,_,0,.cons _ t=>.cons r t
 |_,_,i+1,.cons q t=>.cons q (Vals.set r i t)
theorem Vals.append:∀{xs ys:List V} {us ws:List Value},Vals xs us->Vals ys ws->Vals (xs++ys) (us++ws)
 |_,_,_,_,.nil,s=>s
 |_,_,_,_,.cons r t,s=>.cons r (Vals.append t s)
theorem Vals.take:∀{xs:List V} {us:List Value} (n:Nat),Vals xs us->Vals (xs.take n) (us.take n)
 |_,_,0,_=>.nil
 |_,_,_+1,.nil=>.nil
 |_,_,n+1,.cons r t=>.cons r (Vals.take n t)
theorem Vals.drop:∀{xs:List V} {us:List Value} (n:Nat),Vals xs us->Vals (xs.drop n) (us.drop n)
 |_,_,0,r=>r
 |_,_,_+1,.nil=>.nil
 |_,_,n+1,.cons _ t=>Vals.drop n t
def lY:Option V->Option Value->Prop
 |some v,some u=>RelV v u
 |none,none=>True
 |_,_=>False
def KV{κ:Type}:List (κ×V)->List (κ×Value)->Prop:=Paired λ(p:κ×V) (q:κ×Value)=>p.1=q.1/\RelV p.2 q.2
noncomputable def kV:Key->V
 |.inl i=>.int i
 |.inr x=>.str x
inductive HO where
 |lst (xs:List V)
 |tup (xs:List V)
 |dK (kvs:List (Key×V))|dT (kvs:List (List Key×V))
 |set (S:Int->Bool) (n:Nat)
 |ins (C dx:Addr) (fs:List (Str×V))
 |own (x:Addr)
 |xd (fs:List (Str×V))
 |met (f x:Addr)
 |Y6 (lo hi:Int)
 |lB (o:Obj) (u:HO)
 |Pt (ps:Array Value)
 |ext (φ:Heap->Prop)
abbrev Hp:=Addr->Option HO
variable {ac:Hp}
variable {H:Hp}
noncomputable def upd(H:Hp)(a:Addr)(o:HO):Hp:=λb=>if b=a then some o else H b
def bK{o:HO}:upd H a o a=some o:=by unfold upd;rw[aV rfl]
def bh{b:Addr}{o:HO}(h:b≠a):upd H a o b=H b:=by unfold upd;rw[bb h]
theorem U'{b:Addr}{o u:HO}(h:H a=some o)(h':H b=some u)(d:o≠u):a≠b:=by
 intro e;subst e;rw[h]at h';exact d (Option.some.inj h')
def bR{b:Addr}{o:HO}(h:H a=some o)(h':H b=none):a≠b:=by
 intro e;subst e;rw[h]at h';cases h'
section
variable (P:Program)(w:World)
def cV(H:Hp)(h:Heap)(a:Addr):HO->Prop
 |.lst xs=>xs.length<=sizeLine/\∃(cn:List Value) (n:Nat),Vals xs cn/\h.get? a=some {cls:=.type "list",data:=.seq cn.toArray n}
 |.tup xs=>xs.length<=sizeLine/\∃cn:List Value,Vals xs cn/\IsTup h a cn.toArray
 |.dK kvs=>kvs.length<=sizeLine/\(a==sysModules)=false/\∃vs,KV kvs vs/\h.DictOf (cj P w) a vs
 |.dT kvs=>kvs.length<=sizeLine/\(a==sysModules)=false/\∃xs:List (List Key×Addr×Value),
   Paired (λ(p:List Key×V) (q:List Key×Addr×Value)=>p.1=q.1/\H q.2.1=some (.tup (p.1.map kV))/\RelV p.2 q.2.2) kvs xs/\
   ∃o es ep,h.get? a=some o/\o.ExactDict/\o.data=.dict es ep/\es.toList=xs.map (entryOfKey (tupleKind (cj P w)))/\(xs.map (·.1)).Nodup
 |.set S n=>h.SetOf (intKind P w) a S n
 |.ins C dx fs=>H dx=some (.own a)/\fs.length<=1000/\dx≠a/\h.get? a=some (PySem.W.instObj C dx)/\
   ∃mA,h.Ns1 dx mA/\(∀f,lY (fs.lookup f) (mA f))/\PySem.Within mA (fs.map (·.1))
 |.own _=>∃o,h.get? a=some o
 |.xd fs=>∃mA,h.Ns1 a mA/\∀f,lY (fs.lookup f) (mA f)
 |.Y6 lo hi=>∃t u v,h.get? a=some {cls:=.type "range",data:=.fields #[.int lo t,.int hi u,.int 1 v]}
 |.lB o u=>h.get? a=some o/\cV H h a u
 |.Pt ps=>h.get? a=some {cls:=.none,data:=.fields ps}
 |.met f x=>h.get? a=some (PySem.W.methodObj (.ref f) (.ref x))
 |.ext φ=>φ h/\(∃o,h.get? a=some o)/\∀h1 h2:Heap,φ h1->(∀o,h1.get? a=some o->h2.get? a=some o)->φ h2
def rV(H:Hp)(h:Heap):Prop:=∀a o,H a=some o->cV P w H h a o
end
section
variable {h':Heap}{o:HO}
theorem cV.lt (x:cV P w H aa a o):a<aa.objs.size:=by
 cases o with
 |lst xs=>obtain⟨_,_,_,_,e⟩:=x;exact bu e
 |tup xs=>obtain⟨_,_,_,p⟩:=x;exact p.lt
 |dK kvs=>obtain⟨_,_,_,_,o,_,_,e,_⟩:=x;exact bu e
 |dT kvs=>obtain⟨_,_,_,_,o,_,_,e,_⟩:=x;exact bu e
 |set S n=>obtain⟨o,_,_,_,e,_⟩:=x;exact bu e
 |ins C dx fs=>obtain⟨_,_,_,e,_⟩:=x;exact bu e
 |own y=>obtain⟨_,e⟩:=x;exact bu e
 |xd fs=>obtain⟨_,⟨_,_,_,e,_⟩,_⟩:=x;exact bu e
 |Y6 lo hi=>obtain⟨_,_,_,e⟩:=x;exact bu e
 |lB b u=>obtain⟨e,_⟩:=x;exact bu e
 |Pt ps=>exact bu (show aa.get? a=some _ from x)
 |met f y=>exact bu (show aa.get? a=some _ from x)
 |ext g=>obtain⟨_,⟨_,e⟩,_⟩:=x;exact bu e
theorem Paired.QV {α β:Type}{F G:α->β->Prop}:∀{q:List α} {Ay:List β},Paired F q Ay->(∀a b,F a b->G a b)->Paired G q Ay
 |_,_,.nil,_=>.nil
 |_,_,.cons r t,f=>.cons (f _ _ r) (Paired.QV t f)
theorem cV.pD (x:cV P w H aa a o)(k:∀b u,(b=a\/H b=some (.own a))->aa.get? b=some u->h'.get? b=some u)
  (ho:∀b,H b=some (.own a)->ac b=some (.own a)) (ht:∀b xs,H b=some (.tup xs)->ac b=some (.tup xs)):cV P w ac h' a o:=by
 induction o with
 |lst xs=>obtain⟨z,cn,n,r,e⟩:=x;exact⟨z,cn,n,r,k _ _ (.inl rfl) e⟩
 |tup xs=>obtain⟨z,cn,r,ob,e,c⟩:=x;exact⟨z,cn,r,ob,k _ _ (.inl rfl) e,c⟩
 |dK kvs=>obtain⟨z,y,vs,r,ob,es,ep,e,c⟩:=x;exact⟨z,y,vs,r,ob,es,ep,k _ _ (.inl rfl) e,c⟩
 |dT kvs=>
  obtain⟨z,y,xs,r,ob,es,ep,e,c⟩:=x;exact⟨z,y,xs,Paired.QV r λp q z=>⟨z.1,ht _ _ z.2.1,z.2.2⟩,ob,es,ep,k _ _ (.inl rfl) e,c⟩
 |set S n=>obtain⟨ob,es,ep,t,e,c⟩:=x;exact⟨ob,es,ep,t,k _ _ (.inl rfl) e,c⟩
 |ins C dx fs=>
  obtain⟨d,z,ne,e,mA,⟨g,es,ep,l,c⟩,r⟩:=x;exact⟨ho _ d,z,ne,k _ _ (.inl rfl) e,mA,⟨g,es,ep,k _ _ (.inr d) l,c⟩,r⟩
 |own y=>obtain⟨ob,e⟩:=x;exact⟨ob,k _ _ (.inl rfl) e⟩
 |xd fs=>obtain⟨mA,⟨g,es,ep,e,c⟩,r⟩:=x;exact⟨mA,⟨g,es,ep,k _ _ (.inl rfl) e,c⟩,r⟩
 |Y6 lo hi=>obtain⟨t,u,v,e⟩:=x;exact⟨t,u,v,k _ _ (.inl rfl) e⟩
 |lB ob u I=>obtain⟨e,q⟩:=x;exact⟨k _ _ (.inl rfl) e,I q⟩
 |Pt ps=>
  have e:aa.get? a=some {cls:=.none,data:=.fields ps}:=x;show h'.get? a=some {cls:=.none,data:=.fields ps};exact k a _ (.inl rfl) e
 |met f y=>
  have e:aa.get? a=some (PySem.W.methodObj (.ref f) (.ref y)):=x;show h'.get? a=some (PySem.W.methodObj (.ref f) (.ref y));exact k a _ (.inl rfl) e
 |ext L=>obtain⟨p,⟨o,e⟩,st⟩:=x;exact⟨st _ _ p λo q=>k _ _ (.inl rfl) q,⟨o,k _ _ (.inl rfl) e⟩,st⟩
theorem rV.lt (x:rV P w H aa)(e:H a=some o):a<aa.objs.size:=(x a o e).lt
def rV.fresh (x:rV P w H aa)(e:aa.objs.size<=a):H a=none:=by
 cases q:H a with
 |none=>rfl
 |some u=>exact absurd (c_ (x.lt q) e) (eP _)
def rV.kept (x:rV P w H aa)(k:∀b u,aa.get? b=some u->h'.get? b=some u):rV P w H h':=λa o e=>
 (x a o e).pD (λb u _ q=>k b u q) (λ_ q=>q) λ_ _ q=>q
def rV.laid (x:rV P w H aa)(k:∀b u,aa.get? b=some u->h'.get? b=some u)(hp:aa.objs.size<=a)(new:cV P w (upd H a o) h' a o):rV P w (upd H a o) h':=λb u e=>by
 have g:=x.fresh hp;by_cases hb:b=a
 ·subst hb;rw[bK]at e;cases e;exact new
 ·rw[bh hb]at e;exact(x b u e).pD (λc v _ q=>k c v q) (λc q=>by rw[bh (bR q g)];exact q) λc xs q=>by rw[bh (bR q g)];exact q
end
def Rd(H:Hp)(a:Addr)(u:HO):Prop:=H a=some u\/∃o,H a=some (.lB o u)
def Rd.ok {h:Heap}{a:Addr}{u:HO}(r:Rd H a u)(x:rV P w H h):cV P w H h a u:=by
 rcases r with r|⟨o,r⟩
 ·exact x a u r
 ·obtain⟨_,q⟩:=x a _ r;exact q
def Vb:Option HO->Prop
 |some (.lst _)=>True
 |some (.dK _)=>True
 |some (.dT _)=>True
 |some (.set _ _)=>True
 |some (.ins _ _ _)=>True
 |some (.ext _)=>True
 |_=>False
section
variable {h':Heap}{x e:Addr}{o':HO}
def rV.write (ok:rV P w H aa)(mu:Vb (H x))(he:e=x\/H e=some (.own x))(k:∀b u,b≠e->aa.get? b=some u->h'.get? b=some u)(UG:∃u,h'.get? e=some u)
  (new:cV P w (upd H x o') h' x o'):rV P w (upd H x o') h':=λb u q=>by
 have n:∀c y,H c=some (.own y)->c≠x:=λc y r z=>by subst z;rw[r]at mu;exact mu
 have L:∀c xs,H c=some (.tup xs)->c≠x:=λc xs r z=>by subst z;rw[r]at mu;exact mu
 by_cases hb:b=x
 ·subst hb;rw[bK]at q;cases q;exact new
 ·rw[bh hb]at q;by_cases g:b=e
  ·have I:H b=some (.own x):=by
    rcases he with z|z
    ·exact absurd (g.trans z) hb
    ·rw[g];exact z
   rw[q]at I;cases I;obtain⟨v,M⟩:=UG;exact⟨v,by rw[g];exact M⟩
  ·refine(ok b u q).pD (λc v l r=>k c v ?_ r) (λc r=>by rw[bh (n c b r)];exact r) λc xs r=>by rw[bh (L c xs r)];exact r
   rcases l with rfl|l
   ·exact g
   ·rintro rfl
    rcases he with z|z
    ·exact n c b l z
    ·rw[l]at z;cases z;exact hb rfl
end
structure Un(fs ex:List Addr)(H H':Hp)(h h':Heap):Prop where
 keep:∀b o,h.get? b=some o->H b=none->b∉fs->b∉ex->h'.get? b=some o
 slot:∀b o,h.get? b=some o->H b=none->b∈fs->b∉ex->∃sl,h'.get? b=some {o with slots:=sl}
 free:∀b o,h.get? b=some o->H b=none->b∉ex->H' b=none
 there:∀b o,h.get? b=some o->b∉ex->∃o',h'.get? b=some o'
 mL:∀b xs,H b=some (.tup xs)->H' b=some (.tup xs)
 lC:∀b o u,H b=some (.lB o u)->H' b=some (.lB o u)
 nE:∀b ps,H b=some (.Pt ps)->∃more,H' b=some (.Pt (ps++more))
section
variable {fs fs' ex ex':List Addr}{H2:Hp}{h h2 h':Heap}{x e:Addr}{o:HO}
def Un.any (u:Un fs ex H ac h aa){b:Addr}{ob:Obj}(q:h.get? b=some ob)(n:H b=none)(hx:b∉ex):∃sl,aa.get? b=some {ob with slots:=sl}:=by
 by_cases hb:b∈fs
 ·exact u.slot b ob q n hb hx
 ·exact⟨ob.slots,u.keep b ob q n hb hx⟩
theorem Un.trans (a:Un fs ex H ac h aa)(b:Un fs ex ac H2 aa h2):Un fs ex H H2 h h2 where
 keep:=λc g q n I l=>b.keep c g (a.keep c g q n I l) (a.free c g q n l) I l
 slot:=λc g q n I l=>by
  obtain⟨sl,r⟩:=a.slot c g q n I l;obtain⟨M,L⟩:=b.slot c _ r (a.free c g q n l) I l;exact⟨M,L⟩
 free:=λc g q n l=>by
  obtain⟨o',r⟩:=a.there c g q l;exact b.free c o' r (a.free c g q n l) l
 there:=λc g q l=>by
  obtain⟨o',r⟩:=a.there c g q l;exact b.there c o' r l
 mL:=λc xs q=>b.mL c xs (a.mL c xs q)
 lC:=λc g xs q=>b.lC c g xs (a.lC c g xs q)
 nE:=λc ps q=>by
  obtain⟨S,r⟩:=a.nE c ps q;obtain⟨m2,L⟩:=b.nE c _ r;exact⟨S++m2,by rw[L,Array.append_assoc]⟩
def Un.kept (k:∀b u,h.get? b=some u->h'.get? b=some u):Un fs ex H H h h':=
 ⟨λb g q _ _ _=>k b g q,λb g q _ _ _=>⟨g.slots,k b g q⟩,λ_ _ _ n _=>n,λb g q _=>⟨g,k b g q⟩,λ_ _ q=>q,λ_ _ _ q=>q,λ_ ps q=>⟨#[],by rw[q];simp⟩⟩
def Un.refl:Un fs ex H H h h:=Un.kept λ_ _ q=>q
def Un.laid (k:∀b u,h.get? b=some u->h'.get? b=some u)(hp:h.objs.size<=a)(hn:H a=none):Un fs ex H (upd H a o) h h' where
 keep:=λb u q _ _ _=>k b u q
 slot:=λb u q _ _ _=>⟨u.slots,k b u q⟩
 free:=λb u q n _=>by rw[bh (bY (c_ (bu q) hp))];exact n
 there:=λb u q _=>⟨u,k b u q⟩
 mL:=λb xs q=>by rw[bh (bR q hn)];exact q
 lC:=λb u xs q=>by rw[bh (bR q hn)];exact q
 nE:=λb ps q=>⟨#[],by rw[bh (bR q hn),q];simp⟩
def Un.write (mu:Vb (H x))(he:e=x\/H e=some (.own x))(k:∀b u,b≠e->h.get? b=some u->h'.get? b=some u)(UG:∃u,h'.get? e=some u):Un fs ex H (upd H x o) h h':=by
 have g:∀b,H b=none->b≠x:=λb n z=>by subst z;rw[n]at mu;exact mu
 have hb:∀b,H b=none->b≠e:=λb n z=>by
  subst z;rcases he with r|r
  ·exact g b n r
  ·rw[n]at r;cases r
 have hm:∀b u,H b=some u->¬Vb (some u)->b≠x:=λb u q nm z=>by subst z;rw[q]at mu;exact nm mu
 refine⟨λb u q n _ _=>k b u (hb b n) q,λb u q n _ _=>⟨u.slots,k b u (hb b n) q⟩,λb u q n _=>by rw[bh (g b n)];exact n,λb u q _=>?_,
  λb xs q=>by rw[bh (hm b _ q λz=>z)];exact q,λb u xs q=>by rw[bh (hm b _ q λz=>z)];exact q,λb ps q=>⟨#[],by rw[bh (hm b _ q λz=>z),q];simp⟩⟩
 by_cases l:b=e
 ·subst l;exact UG
 ·exact⟨u,k b u l q⟩
end
noncomputable def Y7(h:Heap)(H:Hp):List Addr:=(List.range h.objs.size).filter λa=>(H a).isSome
def Az(h:Heap)(H:Hp):Heap:=PySem.W.hideAll h (Y7 h H)
def Hj(h:Heap)(H:Hp):(Az h H).objs.size=h.objs.size:=PySem.W.hideAll_size _ _
def Jo{o:Obj}(e:aa.get? a=some o)(n:H a=none):(Az aa H).get? a=some o:=
 mv _ e λhm=>by
  have q:(H a).isSome=true:=(gg.mp hm).2;rw[n]at q;simp at q
def MU{h:Heap}{o:Obj}(e:(Az h H).get? a=some o):h.get? a=some o/\H a=none:=by
 have b:h.get? a=some o:=mw (Y7 h H) e;refine⟨b,?_⟩;cases q:H a with
 |none=>rfl
 |some x=>
  have hm:a∈Y7 h H:=gg.mpr ⟨sY.mpr (bu b),by simp[q]⟩;have z:(Az h H).get? a=none:=lG (Y7 h H) hm;rw[z]at e;cases e
structure Mod(K:Frag)(mg:Str->Option Value)(base:Heap):Prop where
 Pu:K.In base
 glob:base.Ns mainGlobals mg
 blt:∃mb,base.Ns builtinsNs mb/\∀x:Str,x≠"__name__"->mb x=bootBuiltins x
 nolimit:base.NoLimit
structure Cx where
 prog:Program
 w:World
 K:Frag
 mg:Str->Option Value
 base:Heap
 A:Around
 N:List Str
 gj:Shared
 Ca:Hp
 env:Env
 outer:List Env
 stack:List Env
 ex:List Addr
 fn:Str->Bool
 calm:Bool
 pn:List (Addr×Obj)
 xe:Value->Shared->Prop
variable {X:Cx}
abbrev y3(X:Cx)(x:Str):Prop:=X.fn x=true\/X.env.scope.names.lookup x=some .local
noncomputable def jV(l:List Env):List Addr:=l.filterMap (·.frame)
abbrev Cx.fs (X:Cx):List Addr:=jV X.outer
def Y8(sc:Scope)(x:Str):Prop:=sc.names.lookup x=some .local\/sc.names.lookup x=some .cell\/sc.names.lookup x=some .free
def Loc(sc:Scope)(x:Str):Prop:=sc.names.lookup x=some .local\/sc.names.lookup x=some .cell
def Look(env:Env)(h:Heap)(m:Str->Option Value)(x:Str)(u:Value):Prop:=
 (env.kindOf x=some .local/\m x=some u)\/((env.kindOf x=some .cell\/env.kindOf x=some .free)/\∃c,env.cells.lookup x=some c/\h.IsCell c (some u))
structure Cx.Ok (X:Cx):Prop where
 mod:Mod X.K X.mg X.base
 kind:X.env.scope.kind=.function
 glob:X.env.globals=mainGlobals
 blt:X.env.builtins=builtinsNs
 above:X.gj.heap.objs.size<=X.env.locals
 inj:∀x y c,X.env.cells.lookup x=some c->X.env.cells.lookup y=some c->x=y
 has:∀x,(X.env.kindOf x=some .cell\/X.env.kindOf x=some .free)->∃c,X.env.cells.lookup x=some c
 Pw:∀x c,X.fn x=true->X.env.cells.lookup x=some c->X.gj.heap.objs.size<=c
 hd:X.calm=true->X.A.handled=none
 frames:X.A.frames=some X.stack
 MJ:X.stack=X.outer\/(X.stack=X.env::X.outer/\X.env.frame=some X.env.locals)
 UH:∀b∈X.ex,b≠X.env.locals/\∀x c,X.env.cells.lookup x=some c->c≠b
 bs:∀b o,X.base.get? b=some o->X.gj.heap.get? b=some o/\X.Ca b=none
 Hk:X.base.objs.size<=X.gj.heap.objs.size
 AA:∀b o,X.base.get? b=some o->b∉X.ex
 Cb:∀b∈X.ex,b∉X.fs
 rh:X.gj.heap.FunFrames X.base X.outer
 Jp:∀b∈X.fs,X.Ca b=none
structure Inv(X:Cx)(U:List (Addr×Obj))(Z:List (Option V))(H:Hp)(s:Shared):Prop where
 ok:X.Ok
 os:s.os=X.gj.os
 bare:AllBare s.gens
 base:Un X.fs X.ex X.Ca H X.gj.heap s.heap
 loc:∃m,s.heap.Ns X.env.locals m/\∀(i:Nat) (x:Str) (v:V),X.N[i]?=some x->Z[i]?=some (some v)->Y8 X.env.scope x->∃u,RelV v u/\Look X.env s.heap m x u
 cell:∀x c,X.env.cells.lookup x=some c->∃v,s.heap.IsCell c v
 free:H X.env.locals=none
 fP:∀x c,X.env.cells.lookup x=some c->H c=none
 pin:∀p∈X.pn++U,s.heap.get? p.1=some p.2/\H p.1=none/\p.1≠X.env.locals/\p.1∉X.fs/\∀v,p.2.data≠ .cell v
 cU:rV X.prog X.w H s.heap
 len:Z.length=X.N.length
section
variable {Z:List (Option V)}{H':Hp}{h':Heap}
def Cx.Ok.ZQ (ok:X.Ok){b:Addr}{o:Obj}(e:X.base.get? b=some o):b∉X.fs:=λhb=>by
 have:=(ok.rh.mem hb).1;rw[e]at this;cases this
theorem Inv.bs (I:Inv X U Z H s):∀b o,X.base.get? b=some o->s.heap.get? b=some o/\H b=none:=λb o e=>
 ⟨I.base.keep b o (I.ok.bs b o e).1 (I.ok.bs b o e).2 (I.ok.ZQ e) (I.ok.AA b o e),I.base.free b o (I.ok.bs b o e).1 (I.ok.bs b o e).2 (I.ok.AA b o e)⟩
def Inv.bk (I:Inv X U Z H s):∀b o,X.base.get? b=some o->s.heap.get? b=some o:=λb o e=>(I.bs b o e).1
theorem Inv.mod (I:Inv X U Z H s):Mod X.K X.mg X.base:=I.ok.mod
def Inv.lZ (I:Inv X U Z H s):X.K.In s.heap:=I.ok.mod.Pu.keeps I.bk
def Inv.fr (I:Inv X U Z H s):∃m,Fr X.base X.env.locals s.heap m:=
 let⟨m,hn,_⟩:=I.loc
 ⟨m,hn,I.bk,cB I.ok.Hk I.ok.above⟩
theorem Inv.lt (I:Inv X U Z H s):X.env.locals<s.heap.objs.size:=let⟨_,hn,_⟩:=I.loc;hn.lt
def Inv.sz (I:Inv X U Z H s):X.gj.heap.objs.size<=s.heap.objs.size:=cB I.ok.above (dB I.lt)
def Inv.Ve (I:Inv X U Z H s)(h:s.heap.objs.size<=a):a∉X.fs:=λhb=>by
 obtain⟨_,o,b,_⟩:=I.ok.rh.mem hb;exact absurd (c_ (bu b) (cB I.sz h)) (eP _)
def Inv.Hl (I:Inv X U Z H s):∀x c,X.env.cells.lookup x=some c->c≠X.env.locals:=λx c e z=>by
 obtain⟨v,o,b,hd⟩:=I.cell x c e;obtain⟨m,⟨o',es,ep,g,l,_⟩,_⟩:=I.loc;rw[z,g]at b;cases b;rw[l]at hd;cases hd
theorem Inv.rh (I:Inv X U Z H s):s.heap.FunFrames X.base X.outer:=by
 have all:∀(l:List Env),(∀b∈jV l,b∈X.fs)->X.gj.heap.FunFrames X.base l->s.heap.FunFrames X.base l:=by
  intro l
  induction l with
  |nil=>intro _ _;trivial
  |cons env r n=>
   intro hs M;obtain⟨S,⟨L,o,hf,hn,q,hd⟩,hr⟩:=M;have g:L∈X.fs:=hs L (by unfold jV;rw[oS,hf];exact cz);obtain⟨sl,e⟩:=I.base.slot L o q (I.ok.Jp L g) g λz=>I.ok.Cb L z g;exact⟨S,⟨L,_,hf,hn,e,hd⟩,n (λb hb=>hs b (by unfold jV;rw[oS,hf];exact ck _ hb)) hr⟩
 exact all X.outer (λ_ hb=>hb) I.ok.rh
theorem Inv.stack (I:Inv X U Z H s):s.heap.FunFrames X.base X.stack:=by
 rcases I.ok.MJ with e|⟨e,hf⟩
 ·rw[e];exact I.rh
 ·rw[e];obtain⟨m,hn,_⟩:=I.loc;refine .cons (by rw[I.ok.kind];decide) hf hn ?_ I.rh
  exact Heap.get?_none_of_le (cB I.ok.Hk I.ok.above)
def Inv.xl (I:Inv X U Z H s):∀b∈jV X.stack,b∈X.env.locals::X.fs:=λb hb=>by
 rcases I.ok.MJ with e|⟨e,hf⟩
 ·rw[e]at hb;exact ck _ hb
 ·rw[e]at hb;unfold jV at hb;rw[oS,hf]at hb;exact hb
def Inv.v7 (I:Inv X U Z H s):∀b∈jV X.stack,H b=none:=λb hb=>by
 rcases bE.mp (I.xl b hb)with e|hb
 ·rw[e];exact I.free
 ·obtain⟨_,o,g,_⟩:=I.ok.rh.mem hb;exact I.base.free b o g (I.ok.Jp b hb) λz=>I.ok.Cb b z hb
def Inv.step {g':Array GenState}{t':Nat}{d':Drawn}{ch:List Addr}(I:Inv X U Z H s)
  (zu:∀b∈ch,(b∈X.ex\/X.gj.heap.objs.size<=b)/\b≠X.env.locals/\(∀x c,X.env.cells.lookup x=some c->c≠b)/\∀p∈X.pn++U,p.1≠b)
  (keep:∀b o,b≠X.env.locals->b∉X.fs->b∉ch->s.heap.get? b=some o->H b=none->h'.get? b=some o)
  (slot:∀b o,b≠X.env.locals->b∈X.fs->b∉ch->s.heap.get? b=some o->H b=none->∃sl,h'.get? b=some {o with slots:=sl}) (free:∀b o,b∉ch->s.heap.get? b=some o->H b=none->H' b=none)
  (there:∀b o,b∉ch->s.heap.get? b=some o->∃o',h'.get? b=some o')
  (mL:∀b xs,H b=some (.tup xs)->H' b=some (.tup xs)) (lC:∀b o u,H b=some (.lB o u)->H' b=some (.lB o u)) (nE:∀b ps,H b=some (.Pt ps)->∃more,H' b=some (.Pt (ps++more)))
  (ns:∀m,s.heap.Ns X.env.locals m->h'.Ns X.env.locals m) (cU:rV X.prog X.w H' h') (hg:AllBare g'):
  Inv X U Z H' {s with heap:=h',gens:=g',drawn:=d',toks:=t'}:=by
 have S:∀b o,X.gj.heap.get? b=some o->b≠X.env.locals:=λb o e=>bY (c_ (bu e) I.ok.above);have MX:∀b o,X.gj.heap.get? b=some o->b∉X.ex->b∉ch:=λb o e g hb=>by
  rcases(zu b hb).1 with z|z
  ·exact g z
  ·exact absurd (c_ (bu e) z) (eP _)
 have cellK:∀x c,X.env.cells.lookup x=some c->∀v,s.heap.IsCell c v->h'.IsCell c v:=λx c e v ⟨o,M,hd⟩=>by
  have Jq:c∉ch:=λz=>(zu c z).2.2.1 x c e rfl;by_cases hc:c∈X.fs
  ·obtain⟨sl,q⟩:=slot c o (I.Hl x c e) hc Jq M (I.fP x c e);exact⟨_,q,hd⟩
  ·exact⟨o,keep c o (I.Hl x c e) hc Jq M (I.fP x c e),hd⟩
 refine⟨I.ok,I.os,hg,⟨λb o e n hb g=>?_,λb o e n hb g=>?_,λb o e n g=>?_,λb o e g=>?_,λb xs e=>mL b xs (I.base.mL b xs e),λb o xs e=>lC b o xs (I.base.lC b o xs e),λb ps e=>?_⟩,?_,λx c e=>?_,?_,λx c e=>?_,λp hp=>?_,cU,I.len⟩
 ·exact keep b o (S b o e) hb (MX b o e g) (I.base.keep b o e n hb g) (I.base.free b o e n g)
 ·obtain⟨sl,L⟩:=I.base.slot b o e n hb g;obtain⟨Vd,e2⟩:=slot b _ (S b o e) hb (MX b o e g) L (I.base.free b o e n g);exact⟨Vd,e2⟩
 ·obtain⟨o',L⟩:=I.base.there b o e g;exact free b o' (MX b o e g) L (I.base.free b o e n g)
 ·obtain⟨o',L⟩:=I.base.there b o e g;exact there b o' (MX b o e g) L
 ·obtain⟨m1,L⟩:=I.base.nE b ps e;obtain⟨m2,e2⟩:=nE b _ L;exact⟨m1++m2,by rw[e2,Array.append_assoc]⟩
 ·obtain⟨m,hn,hl⟩:=I.loc;refine⟨m,ns m hn,λi x v L e2 e3=>?_⟩;obtain⟨u,r,l⟩:=hl i x v L e2 e3;refine⟨u,r,?_⟩;rcases l with l|⟨k,c,e,z⟩
  ·exact .inl l
  ·exact .inr ⟨k,c,e,cellK x c e _ z⟩
 ·obtain⟨v,z⟩:=I.cell x c e;exact⟨v,cellK x c e v z⟩
 ·obtain⟨m,⟨o,_,_,M,_⟩,_⟩:=I.loc;exact free _ o (λz=>(zu _ z).2.1 rfl) M I.free
 ·obtain⟨v,o,M,hd⟩:=I.cell x c e;exact free c o (λz=>(zu c z).2.2.1 x c e rfl) M (I.fP x c e)
 ·obtain⟨e,n,ne,nf,d⟩:=I.pin p hp;have Jq:p.1∉ch:=λz=>(zu p.1 z).2.2.2 p hp rfl;exact⟨keep p.1 p.2 ne nf Jq e n,free p.1 p.2 Jq e n,ne,nf,d⟩
theorem Inv.un {t':Nat}(I:Inv X U Z H s)(u:Un X.fs [] H H' s.heap h')(q:rV X.prog X.w H' h'):Inv X U Z H' {s with heap:=h',toks:=t'}:=by
 obtain⟨m,⟨o,es,ep,g,r⟩,_⟩:=id I.loc;obtain⟨sl,L⟩:=u.any g I.free (by simp);exact I.step (g':=s.gens) (d':=s.drawn) (ch:=[]) (λ_ z=>nomatch z) (λb o _ hb _ e n=>u.keep b o e n hb (by simp)) (λb o _ hb _ e n=>u.slot b o e n hb (by simp)) (λb o _ e n=>u.free b o e n (by simp)) (λb o _ e=>u.there b o e (by simp)) u.mL u.lC u.nE (λm' hm=>by
  obtain⟨o',M,S,l,r'⟩:=hm;rw[g]at l;cases l;exact⟨_,M,S,L,r'⟩) q I.bare
theorem Inv.call {g':Array GenState}{t':Nat}{d':Drawn}{ch:List Addr}(I:Inv X U Z H s)(u:Un (jV X.stack) ch H H' s.heap h')(cU:rV X.prog X.w H' h')(hg:AllBare g')
  (q:∀b∈ch,(b∈X.ex\/X.gj.heap.objs.size<=b)/\b≠X.env.locals/\(∀x c,X.env.cells.lookup x=some c->c≠b)/\∀p∈X.pn++U,p.1≠b):
  Inv X U Z H' {s with heap:=h',gens:=g',drawn:=d',toks:=t'}:=by
 obtain⟨m,⟨o,es,ep,L,r⟩,_⟩:=id I.loc;obtain⟨sl,l⟩:=u.any L I.free λz=>(q _ z).2.1 rfl;exact I.step (ch:=ch) q (λb o l hb g e n=>u.keep b o e n (λz=>(bE.mp (I.xl b z)).elim l hb) g) (λb o _ _ g e n=>u.any e n g) (λb o g e n=>u.free b o e n g) (λb o g e=>u.there b o e g) u.mL u.lC u.nE (λm' hm=>by
  obtain⟨o',S,Jr,M,r'⟩:=hm;rw[L]at M;cases M;exact⟨_,S,Jr,l,r'⟩) cU hg
def Inv.turned {t':Nat}{it:Addr}(I:Inv X U Z H s)(k:∀b o,b≠it->s.heap.get? b=some o->h'.get? b=some o)(hn:H it=none)(hL:it≠X.env.locals)
  (h1:it∈X.ex\/X.gj.heap.objs.size<=it) (h2:∀x c,X.env.cells.lookup x=some c->c≠it) (h3:∀p∈X.pn++U,p.1≠it):Inv X U Z H {s with heap:=h',toks:=t'}:=by
 have l:∀b u,H b=some u->b≠it:=λb u e z=>by rw[z,hn]at e;cases e
 refine I.step (g':=s.gens) (d':=s.drawn) (ch:=[it]) (λb hb=>?_) (λb o _ _ g e _=>k b o (λz=>g (by simp[z])) e) (λb o _ _ g e _=>⟨o.slots,k b o (λz=>g (by simp[z])) e⟩) (λ_ _ _ _ n=>n)
  (λb o g e=>⟨o,k b o (λz=>g (by simp[z])) e⟩) (λ_ _ e=>e) (λ_ _ _ e=>e) (λb ps e=>⟨#[],by rw[e];simp⟩) (λm hm=>?_) (λb u e=>?_) I.bare
 ·have e:b=it:=by simpa using hb
  subst e;exact⟨h1,hL,h2,h3⟩
 ·obtain⟨o,es,ep,L,r⟩:=hm;exact⟨o,es,ep,k _ o (Ne.symm hL) L,r⟩
 ·refine(I.cU b u e).pD (λc v g q=>k c v ?_ q) (λ_ q=>q) λ_ _ q=>q;rcases g with z|z
  ·rw[z];exact l b u e
  ·exact l c _ z
def Inv.tok (I:Inv X U Z H s)(t:Nat):Inv X U Z H {s with toks:=t}:=I.un (h':=s.heap) (t':=t) Un.refl I.cU
theorem Inv.kept {t':Nat}(I:Inv X U Z H s)(k:∀b u,s.heap.get? b=some u->h'.get? b=some u):Inv X U Z H {s with heap:=h',toks:=t'}:=I.un (Un.kept k) (I.cU.kept k)
theorem Inv.laid {a:Addr}{o:HO}{t':Nat}(I:Inv X U Z H s)(k:∀b u,s.heap.get? b=some u->h'.get? b=some u)(hp:s.heap.objs.size<=a)(new:cV X.prog X.w (upd H a o) h' a o):
  Inv X U Z (upd H a o) {s with heap:=h',toks:=t'}:=I.un (Un.laid k hp (I.cU.fresh hp)) (I.cU.laid k hp new)
theorem Inv.write {x e:Addr}{o:HO}{t':Nat}(I:Inv X U Z H s)(q:Vb (H x))(he:e=x\/H e=some (.own x))(k:∀b u,b≠e->s.heap.get? b=some u->h'.get? b=some u)(UG:∃u,h'.get? e=some u)
  (new:cV X.prog X.w (upd H x o) h' x o):Inv X U Z (upd H x o) {s with heap:=h',toks:=t'}:=I.un (Un.write q he k UG) (I.cU.write q he k UG new)
def Inv.kg {Js:List (Addr×Obj)}(I:Inv X U Z H s)(h:∀p∈Js,s.heap.get? p.1=some p.2/\H p.1=none/\p.1≠X.env.locals/\p.1∉X.fs/\∀v,p.2.data≠ .cell v):Inv X Js Z H s:=
 ⟨I.ok,I.os,I.bare,I.base,I.loc,I.cell,I.free,I.fP,λp hp=>(dI.mp hp).elim (λz=>I.pin p (j7 _ z)) (h p),I.cU,I.len⟩
theorem tL(q:ps.Nodup){j:Nat}(a:ps[i]?=some x)(b:ps[j]?=some x):i=j:=by
 obtain⟨n,g⟩:=gb.mp a;obtain⟨h2,l⟩:=gb.mp b;exact(List.getElem_inj q).mp (g.trans l.symm)
theorem zv{M:Model}{v:V}(I:Inv X U Z H s)(hN:X.N.Nodup)(hi:X.N[i]?=some x)(hx:Loc X.env.scope x)(r:RelV v af)
  (h:∀s',Inv X U (Z.set i (some v)) H s'->(∃a,Heap.SameBut a s.heap s'.heap/\(a=X.env.locals\/X.env.cells.lookup x=some a))->ae () s') (hf:y3 X x:=by first|exact .inl rfl|exact .inr rfl|assumption):wpAny M A (storeName X.env x af) ae E s:=by
 obtain⟨m,hn,hl⟩:=id I.loc;have AD:(X.env.scope.kind== .class||(X.env.scope.kind== .module&&X.env.locals !=X.env.globals))=false:=by rw[I.ok.kind];rfl
 have Vf:i<Z.length:=by rw[I.len];exact(gb.mp hi).1
 have Hl:=I.Hl;have tracked:∀{a:Addr} {h':Heap},(∃o,s.heap.get? a=some o/\H a=none)->Heap.SameBut a s.heap h'->rV X.prog X.w H h':=λ{a h'} ha hs b ob e=>by
  obtain⟨_,_,FC⟩:=ha;refine(I.cU b ob e).pD (λc w' l q=>(hs.2 c ?_).trans q) (λ_ q=>q) λ_ _ q=>q
  rintro rfl
  rcases l with rfl|l
  ·rw[FC]at e;cases e
  ·rw[FC]at l;cases l
 rcases hx with S|S
 ·refine wpAny_storeName_local S hn (λh' Px hs=>?_) AD;obtain⟨oL,_,_,FD,_⟩:=id hn;refine h _ ⟨I.ok,I.os,I.bare,⟨λb o e n hb hx=>?_,λb o e n hb hx=>?_,I.base.free,λb o e hx=>?_,I.base.mL,I.base.lC,I.base.nE⟩,⟨_,Px,λj y v' g L e3=>?_⟩,λy c e=>?_,I.free,I.fP,λp hp=>?_,tracked ⟨oL,FD,I.free⟩ hs,by simpa using I.len⟩ ⟨_,hs,.inl rfl⟩
  ·exact(hs.2 b (bY (c_ (bu e) I.ok.above))).trans (I.base.keep b o e n hb hx)
  ·obtain⟨sl,g⟩:=I.base.slot b o e n hb hx;exact⟨sl,(hs.2 b (bY (c_ (bu e) I.ok.above))).trans g⟩
  ·obtain⟨o',g⟩:=I.base.there b o e hx;exact⟨o',(hs.2 b (bY (c_ (bu e) I.ok.above))).trans g⟩
  ·by_cases hj:j=i
   ·subst hj;rw[hi]at g;cases g;rw[oP Vf]at L;cases L;exact⟨af,r,.inl ⟨S,by simp⟩⟩
   ·rw[mr (Ne.symm hj)]at L;obtain⟨u',r',q⟩:=hl j y v' g L e3;refine⟨u',r',?_⟩;rcases q with⟨k,e⟩|⟨k,c,e,z⟩
    ·refine .inl ⟨k,?_⟩;have:y≠x:=λe=>hj (tL hN g (e▸hi));simp[this,e]
    ·exact .inr ⟨k,c,e,z.sameBut hs (Hl y c e)⟩
  ·obtain⟨w',z⟩:=I.cell y c e;exact⟨w',z.sameBut hs (Hl y c e)⟩
  ·obtain⟨e,n,ne,nf,d⟩:=I.pin p hp;exact⟨(hs.2 p.1 ne).trans e,n,ne,nf,d⟩
 ·have MY:X.fn x=true:=by
   rcases hf with z|z
   ·exact z
   ·rw[z]at S;cases S
  obtain⟨c,l⟩:=I.ok.has x (.inl S);obtain⟨w',z⟩:=I.cell x c l;refine wpAny_storeName_cell I.ok.kind S l z (λh' Vg hs=>?_);obtain⟨oc,QY,ZR⟩:=id z;refine h {s with heap:=h'} ⟨I.ok,I.os,I.bare,⟨λb o e n hb hx=>?_,λb o e n hb hx=>?_,I.base.free,λb o e hx=>?_,I.base.mL,I.base.lC,I.base.nE⟩,⟨m,hn.sameBut hs (Ne.symm (Hl x c l)),λj y v' g L e3=>?_⟩,λy c' e=>?_,I.free,I.fP,λp hp=>?_,tracked ⟨oc,QY,I.fP x c l⟩ hs,by simpa using I.len⟩ ⟨c,hs,.inr l⟩
  ·exact(hs.2 b (bY (c_ (bu e) (I.ok.Pw x c MY l)))).trans (I.base.keep b o e n hb hx)
  ·obtain⟨sl,g⟩:=I.base.slot b o e n hb hx;exact⟨sl,(hs.2 b (bY (c_ (bu e) (I.ok.Pw x c MY l)))).trans g⟩
  ·obtain⟨o',g⟩:=I.base.there b o e hx;exact⟨o',(hs.2 b (bY (c_ (bu e) (I.ok.Pw x c MY l)))).trans g⟩
  ·by_cases hj:j=i
   ·subst hj;rw[hi]at g;cases g;rw[oP Vf]at L;cases L;exact⟨af,r,.inr ⟨.inl S,c,l,Vg⟩⟩
   ·rw[mr (Ne.symm hj)]at L;obtain⟨u',r',q⟩:=hl j y v' g L e3;refine⟨u',r',?_⟩;rcases q with q|⟨k,c',e,z'⟩
    ·exact .inl q
    ·refine .inr ⟨k,c',e,z'.sameBut hs ?_⟩
     rintro rfl
     exact hj (tL hN g (I.ok.inj _ _ _ e l▸hi))
  ·by_cases hcc:c'=c
   ·subst hcc;exact⟨_,Vg⟩
   ·obtain⟨w2,z2⟩:=I.cell y c' e;exact⟨w2,z2.sameBut hs hcc⟩
  ·obtain⟨e,n,ne,nf,d⟩:=I.pin p hp;refine⟨(hs.2 p.1 ?_).trans e,n,ne,nf,d⟩;intro q;rw[q,QY]at e;have q':oc=p.2:=Option.some.inj e;exact d w' (by rw[<-q'];exact ZR)
def xm{M:Model}{v:V}(I:Inv X U Z H s)(q:X.N.Nodup)(hi:X.N[i]?=some x)(hx:Loc X.env.scope x)(r:RelV v af)
  (h:∀s',Inv X U (Z.set i (some v)) H s'->ae () s') (hf:y3 X x:=by first|exact .inl rfl|exact .inr rfl|assumption):wpAny M A (storeName X.env x af) ae E s:=
 zv I q hi hx r (λs' b _=>h s' b) hf
def Inv.Vh {s':Shared}{ch:List Addr}(I:Inv X U Z H s)(q:s'.os=s.os)(u:Un (jV X.stack) ch H H' s.heap s'.heap)(cU:rV X.prog X.w H' s'.heap)(hg:AllBare s'.gens)
  (zu:∀b∈ch,(b∈X.ex\/X.gj.heap.objs.size<=b)/\b≠X.env.locals/\(∀x c,X.env.cells.lookup x=some c->c≠b)/\∀p∈X.pn++U,p.1≠b):Inv X U Z H' s':=by
 obtain⟨h',g',d',t',o'⟩:=s';have e:o'=s.os:=q;subst e;exact I.call (g':=g') (t':=t') (d':=d') u cU hg zu
end
abbrev XK:=Value->Option Addr->Hp->Prop
abbrev St:=List (Option V)
variable {Z:St}
abbrev VK:=V->Hp->Prop
abbrev TE:=St->Hp->VK->Prop
abbrev TT:=St->Hp->(Bool->Hp->Prop)->Prop
abbrev TA:=St->Hp->(List V->Hp->Prop)->Prop
structure Ends where
 nx:St->Hp->Prop
 rt:VK
 bk:St->Hp->Prop:=fun _ _=>False
 ct:St->Hp->Prop:=fun _ _=>False
abbrev TS:=Ends->St->Hp->Prop
def EP(X:Cx)(U:List (Addr×Obj))(Z:St)(Q:VK)(u:Value)(s':Shared):Prop:=∃v H',Inv X U Z H' s'/\RelV v u/\Q v H'
def TP(X:Cx)(U:List (Addr×Obj))(Z:St)(Q:Bool->Hp->Prop)(b:Bool)(s':Shared):Prop:=∃H',Inv X U Z H' s'/\Q b H'
def AP(X:Cx)(U:List (Addr×Obj))(Z:St)(Q:List V->Hp->Prop)(us:List Value)(s':Shared):Prop:=∃vs H',Inv X U Z H' s'/\Vals vs us/\Q vs H'
def SP(X:Cx)(U:List (Addr×Obj))(D:Ends)(f:Flow)(s':Shared):Prop:=
 match f with
 |.next=>∃b H',Inv X U b H' s'/\D.nx b H'
 |.brk=>∃b H',Inv X U b H' s'/\D.bk b H'
 |.cont=>∃b H',Inv X U b H' s'/\D.ct b H'
 |.ret u=>∃v b H',Inv X U b H' s'/\RelV v u/\D.rt v H'
def PE(X:Cx)(e:Expr)(t:TE):Prop:=
 ∀(U:List (Addr×Obj)) (s:Shared) (Z:St) (H:Hp) (Q:VK),Inv X U Z H s->t Z H Q->wpAny (model X.prog X.w) X.A (eval e X.env) (EP X U Z Q) X.xe s
def PT(X:Cx)(e:Expr)(t:TT):Prop:=
 ∀(U:List (Addr×Obj)) (s:Shared) (Z:St) (H:Hp) (Q:Bool->Hp->Prop),Inv X U Z H s->t Z H Q->wpAny (model X.prog X.w) X.A (isTrue e X.env (eval e X.env)) (TP X U Z Q) X.xe s
def PW(X:Cx)(e:Expr)(t:TT):Prop:=
 ∀(whole:Sem Value) (U:List (Addr×Obj)) (s:Shared) (Z:St) (H:Hp) (Q:Bool->Hp->Prop),Inv X U Z H s->t Z H Q->wpAny (model X.prog X.w) X.A (isTrue e X.env whole) (TP X U Z Q) X.xe s
def PW.pt {t:TT}(h:PW X e t):PT X e t:=h _
def PA(X:Cx)(es:List Expr)(t:TA):Prop:=
 ∀(pos:Pos) (U:List (Addr×Obj)) (s:Shared) (Z:St) (H:Hp) (Q:List V->Hp->Prop),Inv X U Z H s->t Z H Q->wpAny (model X.prog X.w) X.A (spliced (backTo pos (starEach es X.env))) (AP X U Z Q) X.xe s
def PS(X:Cx)(st:Stmt)(t:TS):Prop:=
 ∀(U:List (Addr×Obj)) (s:Shared) (Z:St) (H:Hp) (D:Ends),Inv X U Z H s->t D Z H->wpAny (model X.prog X.w) X.A (exec st X.env) (SP X U D) X.xe s
def oK(X:Cx)(st:List Stmt)(t:TS):Prop:=
 ∀(U:List (Addr×Obj)) (s:Shared) (Z:St) (H:Hp) (D:Ends),Inv X U Z H s->t D Z H->wpAny (model X.prog X.w) X.A (execs st X.env) (SP X U D) X.xe s
def eC{t:Sem ag}{Q q:ag->Shared->Prop}{M:Model}(h:wpAny M A t Q E s)(hQ:∀a s,Q a s->q a s):wpAny M A t q E s:=d6 h hQ λ_ _ x=>x
section
def ZU(i:Nat):TE:=λZ H Q=>∃v,Z[i]?=some (some v)/\Q v H
def tC(v:V):TE:=λ_ H Q=>Q v H
theorem QZ(q:X.N[i]?=some x)(hv:Y8 X.env.scope x)(hd:Db x:=by decide) (D_:(x==("__classdict__":Str))=false:=by decide):PE X (.Name x pos) (ZU i):=by
 intro U s Z H Q I h;obtain⟨v,e,h⟩:=h;obtain⟨m,hn,L⟩:=I.loc;obtain⟨u,r,l⟩:=L i x v q e hv;have fin:EP X U Z Q u s:=⟨v,H,I,r,h⟩;rcases l with⟨b,hm⟩|⟨b,c,g,n⟩
 ·exact wpAny_Name (wpAny_loadName_local I.ok.kind b hn hm fin) hd
 ·rcases b with b|b
  ·exact wpAny_Name (wpAny_loadName_cell I.ok.kind b g n fin) hd
  ·exact wpAny_Name (wpAny_loadName_free I.ok.kind b g n fin D_) hd
def Q0{i j pos}:PE X (.Constant (.int i) j pos) (tC (.int i)):=λ_ _ _ H _ I h=>wpAny_Constant_int ⟨.int i,H,I.tok _,⟨_,rfl⟩,h⟩
def Vi{b j pos}:PE X (.Constant (.bool b) j pos) (tC (.bl b)):=λ_ _ _ H _ I h=>Constant_bool ⟨.bl b,H,I,rfl,h⟩
def Q1{j pos}:PE X (.Constant .none j pos) (tC .cx):=λ_ _ _ H _ I h=>Constant_none ⟨.cx,H,I,rfl,h⟩
def Q2{x j pos}:PE X (.Constant (.str x) j pos) (tC (.str x)):=λ_ _ _ H _ I h=>Calls.Constant_str ⟨.str x,H,I.tok _,⟨_,rfl⟩,h⟩
def Gl(X:Cx)(x:Str):Prop:=X.env.kindOf x=some .globalImplicit
def qH(I:Inv X U Z H s)(q:Gl X x)(hm:X.mg x=some af)(h:Q af s)
  (hd:Db x:=by decide):wpAny (model X.prog X.w) X.A (eval (.Name x pos) X.env) Q E s:=
 wH I.ok.kind q (Calls.loadGlobal_global (by rw[I.ok.glob];exact I.mod.glob.keeps I.bk) hm h) hd
def uQ{u:Value}(I:Inv X U Z H s)(q:Gl X x)(hm:X.mg x=none)(hv:bootBuiltins x=some u)(h:Q u s)
  (hn:x≠"__name__":=by decide) (hd:Db x:=by decide):wpAny (model X.prog X.w) X.A (eval (.Name x pos) X.env) Q E s:=by
 obtain⟨b,h1,h2⟩:=I.mod.blt;exact wH I.ok.kind q (Calls.loadGlobal_builtin (by rw[I.ok.glob];exact I.mod.glob.keeps I.bk) hm (by rw[I.ok.blt];exact h1.keeps I.bk) ((h2 x hn).trans hv) h) hd
def AE{v:V}(q:Gl X x)(hm:X.mg x=some af)(r:RelV v af)(hd:Db x:=by decide):PE X (.Name x pos) (tC v):=
 λ_ _ _ H _ I h=>qH I q hm ⟨v,H,I,r,h⟩ hd
def FE{v:V}(q:Gl X x)(hm:X.mg x=none)(hv:bootBuiltins x=some af)(r:RelV v af)(hn:x≠"__name__":=by decide) (hd:Db x:=by decide):PE X (.Name x pos) (tC v):=
 λ_ _ _ H _ I h=>uQ I q hm hv ⟨v,H,I,r,h⟩ hn hd
variable {a b:Expr}{ta tb:TE}
variable {tA Y9:TT}{c9:List Expr}
def ZV(t u:TT):TT:=λZ H Q=>t Z H λc H1=>if c=true then u Z H1 Q else Q false H1
def tOr(t u:TT):TT:=λZ H Q=>t Z H λc H1=>if c=true then Q true H1 else u Z H1 Q
def ZW(t:TT):TT:=λZ H Q=>t Z H λc H1=>Q (!c) H1
theorem pw_and1(q:PT X a tA):PW X (.BoolOp .And [a] pos) tA:=by
 intro wh U s Z H Q I h;refine isTrue_and (eC (q U s Z H Q I h) λc s1 e=>?_);cases c with
 |true=>exact isTrue_and_nil e
 |false=>exact e
theorem pw_or1(q:PT X a tA):PW X (.BoolOp .Or [a] pos) tA:=by
 intro wh U s Z H Q I h;refine isTrue_or (eC (q U s Z H Q I h) λc s1 e=>?_);cases c with
 |false=>exact isTrue_or_nil e
 |true=>exact e
theorem pw_and(q:PT X a tA)(hb:PW X (.BoolOp .And (b::c9) pos) Y9):PW X (.BoolOp .And (a::b::c9) pos) (ZV tA Y9):=by
 intro wh U s Z H Q I h;refine isTrue_and (eC (q U s Z H _ I h) λc s1 ⟨H1,g,l⟩=>?_);cases c with
 |true=>exact hb wh U s1 Z H1 Q g l
 |false=>exact⟨H1,g,l⟩
theorem pw_or(q:PT X a tA)(hb:PW X (.BoolOp .Or (b::c9) pos) Y9):PW X (.BoolOp .Or (a::b::c9) pos) (tOr tA Y9):=by
 intro wh U s Z H Q I h;refine isTrue_or (eC (q U s Z H _ I h) λc s1 ⟨H1,g,l⟩=>?_);cases c with
 |true=>exact⟨H1,g,l⟩
 |false=>exact hb wh U s1 Z H1 Q g l
theorem Jt(q:PT X a tA):PT X (.UnaryOp .Not a pos) (ZW tA):=by
 intro U s Z H Q I h;exact isTrue_not (q U s Z H (λc H1=>Q (!c) H1) I h)
theorem Q3{op}{t:TE}(h:PE X a t):PE X (.BoolOp op [a] pos) t:=λU s Z H Q I hw=>BoolOp_one (h U s Z H Q I hw)
def tIf(t:TT)(ta tb:TE):TE:=λZ H Q=>t Z H λc H1=>if c=true then ta Z H1 Q else tb Z H1 Q
theorem Ju(q:PT X e tA)(ha:PE X a ta)(hb:PE X b tb):PE X (.IfExp e a b pos) (tIf tA ta tb):=by
 intro U s Z H Q I h;refine wpAny_IfExp (eC (q U s Z H _ I h) λd s1 ⟨H1,g,l⟩=>?_);cases d with
 |true=>exact ha U s1 Z H1 Q g l
 |false=>exact hb U s1 Z H1 Q g l
end
def lL(K:Frag)(H:Hp)(a:Addr)(xs:List V):Prop:=
 Rd H a (.lst xs)\/
  ∃(o:Obj) (cn:Array Value) (n:Nat),K.lookup a=some o/\o.cls=.type "list"/\o.dict=none/\o.data=.seq cn n/\cn.size<=sizeLine/\Vals xs cn.toList
def jl(K:Frag)(H:Hp)(a:Addr)(xs:List V):Prop:=
 Rd H a (.tup xs)\/
  ∃(o:Obj) (cn:Array Value) (n:Nat),K.lookup a=some o/\o.cls=.type "tuple"/\o.data=.seq cn n/\cn.size<=sizeLine/\Vals xs cn.toList
noncomputable def ZX:Value->Option V
 |.none=>some .cx
 |.bool b=>some (.bl b)
 |.int i _=>some (.int i)
 |.str x _=>some (.str x)
 |.bytes b _=>some (.Pq b)
 |.float b _=>some (.D3 b)
 |.ref a=>some (.ref a)
 |.type n=>some (.ty n)
 |_=>none
def RelV.abs {x:V}{u:Value}(r:RelV x u):ZX u=some x:=by
 cases x with
 |cx=>cases r;rfl
 |bl _=>cases r;rfl
 |int _=>obtain⟨t,rfl⟩:=r;rfl
 |str _=>obtain⟨t,rfl⟩:=r;rfl
 |Pq _=>obtain⟨t,rfl⟩:=r;rfl
 |D3 _=>obtain⟨t,rfl⟩:=r;rfl
 |_=>cases r;rfl
theorem RelV.inj {x y:V}{u:Value}(r:RelV x u)(q:RelV y u):x=y:=Option.some.inj (r.abs.symm.trans q.abs)
theorem Vals.inj:∀{xs ys:List V} {us:List Value},Vals xs us->Vals ys us->xs=ys
 |_,_,_,.nil,.nil=>rfl
 |_,_,_,.cons r t,.cons b t'=>by rw[r.inj b,Vals.inj t t']
section
variable {xs ys:List V}
def lL.of (h:H a=some (.lst xs)):lL K H a xs:=.inl (.inl h)
def jl.of (h:H a=some (.tup xs)):jl K H a xs:=.inl (.inl h)
def Inv.list (I:Inv X U Z H s)(h:lL X.K H a xs):∃cn:List Value,Vals xs cn/\PlainL s.heap a cn.toArray/\xs.length<=sizeLine:=by
 rcases h with h|⟨o,cn,n,b,g,hd,hs,hz,r⟩
 ·obtain⟨z,cn,n,r,e⟩:=h.ok I.cU;exact⟨cn,r,⟨_,n,e,rfl,rfl,rfl⟩,z⟩
 ·refine⟨cn.toList,r,⟨o,n,I.lZ a o b,g,hd,by simpa using hs⟩,?_⟩;have e:=r.length;simp only[gc]at e;omega
def Inv.tuple (I:Inv X U Z H s)(h:jl X.K H a xs):∃cn:List Value,Vals xs cn/\IsTup s.heap a cn.toArray/\xs.length<=sizeLine:=by
 rcases h with h|⟨o,cn,n,b,g,hs,hz,r⟩
 ·obtain⟨z,cn,r,p⟩:=h.ok I.cU;exact⟨cn,r,p,z⟩
 ·refine⟨cn.toList,r,⟨o,I.lZ a o b,g,n,by simpa using hs⟩,?_⟩;have e:=r.length;simp only[gc]at e;omega
theorem Inv.Jv (I:Inv X U Z H s)(h:lL X.K H a xs)(h':lL X.K H a ys):xs=ys:=by
 obtain⟨cn,r,⟨o,n,e,_,_,d⟩,_⟩:=I.list h;obtain⟨tM,g,⟨o',L,b,_,_,d'⟩,_⟩:=I.list h';rw[e]at b;cases b;rw[d]at d';injection d' with l _
 have:cn=tM:=by simpa using cT Array.toList l
 subst this;exact r.inj g
theorem Inv.qI (I:Inv X U Z H s)(h:jl X.K H a xs)(h':jl X.K H a ys):xs=ys:=by
 obtain⟨cn,r,⟨o,e,_,n,d⟩,_⟩:=I.tuple h;obtain⟨tM,g,⟨o',b,_,L,d'⟩,_⟩:=I.tuple h';rw[e]at b;cases b;rw[d]at d';injection d' with l _
 have:cn=tM:=by simpa using cT Array.toList l
 subst this;exact r.inj g
end
noncomputable abbrev Cx.y8 (X:Cx)(E:Value->Shared->Prop):Cx:={X with xe:=E}
abbrev Cx.Jf (X:Cx):Cx:=X.y8 fun _ _=>False
theorem Cx.Ok.y8 (ok:X.Ok)(E:Value->Shared->Prop):(X.y8 E).Ok:=
 ⟨ok.mod,ok.kind,ok.glob,ok.blt,ok.above,ok.inj,ok.has,ok.Pw,ok.hd,ok.frames,ok.MJ,ok.UH,ok.bs,ok.Hk,ok.AA,ok.Cb,ok.rh,ok.Jp⟩
def Cx.Ok.pE (ok:(X.y8 E).Ok):X.Ok:=
 ⟨ok.mod,ok.kind,ok.glob,ok.blt,ok.above,ok.inj,ok.has,ok.Pw,ok.hd,ok.frames,ok.MJ,ok.UH,ok.bs,ok.Hk,ok.AA,ok.Cb,ok.rh,ok.Jp⟩
theorem Inv.y8 (I:Inv X U Z H s)(E:Value->Shared->Prop):Inv (X.y8 E) U Z H s:=⟨I.ok.y8 E,I.os,I.bare,I.base,I.loc,I.cell,I.free,I.fP,I.pin,I.cU,I.len⟩
theorem Inv.pE (I:Inv (X.y8 E) U Z H s):Inv X U Z H s:=⟨I.ok.pE,I.os,I.bare,I.base,I.loc,I.cell,I.free,I.fP,I.pin,I.cU,I.len⟩
theorem SP.pE {D:Ends}{f:Flow}{s':Shared}(h:SP (X.y8 E) U D f s'):SP X U D f s':=by
 cases f with
 |next=>obtain⟨du,H',I,q⟩:=h;exact⟨du,H',I.pE,q⟩
 |brk=>obtain⟨du,H',I,q⟩:=h;exact⟨du,H',I.pE,q⟩
 |cont=>obtain⟨du,H',I,q⟩:=h;exact⟨du,H',I.pE,q⟩
 |ret u=>obtain⟨v,du,H',I,r,q⟩:=h;exact⟨v,du,H',I.pE,r,q⟩
theorem oK.Jf {st:List Stmt}{t:TS}(h:oK X.Jf st t):oK X st t:=λU s Z H D I hw=>
 d6 (h U s Z H D (I.y8 _) hw) (λ_ _ q=>q.pE) λ_ _ z=>False.elim z
section
variable {t u:TS}{te:TE}
def Vj:TS:=λD Z H=>D.nx Z H
def ZY(t u:TS):TS:=λD Z H=>t {D with nx:=u D} Z H
theorem FF:oK X [] Vj:=λ_ _ Z H _ I h=>sZ ⟨Z,H,I,h⟩
theorem Cc(h1:PS X ai t)(h2:oK X ah u):oK X (ai::ah) (ZY t u):=by
 intro U s Z H D I h;refine wpAny_execs_cons (eC (h1 U s Z H {D with nx:=u D} I h) λf s1 q=>?_);cases f with
 |next=>
  obtain⟨b,H',g,q⟩:=q;exact h2 U s1 b H' D g q
 |_=>exact q
theorem FG(h1:PS X ai t):oK X [ai] t:=by
 intro U s Z H D I h;refine wpAny_execs_cons (eC (h1 U s Z H D I h) λf s1 q=>?_);cases f with
 |next=>exact sZ q
 |_=>exact q
def Inv.quiet (I:Inv X U Z H s):interactive X.env=false:=by simp[interactive,I.ok.kind]
def Vk(te:TE):TS:=λD Z H=>te Z H λ_ H1=>D.nx Z H1
theorem MZ(he:PE X e te)(hs:swapsWith e none pos.line X.env=pure false:=by rfl):PS X (.Expr e pos) (Vk te):=by
 intro U s Z H D I h;exact wpAny_Expr_any (eC (he U s Z H _ I h) λv s1 ⟨x,H1,b,r1,g⟩=>⟨Z,H1,b,g⟩) I.quiet hs
def ZZ(te:TE):TS:=λD Z H=>te Z H D.rt
theorem Jw(he:PE X e te):PS X (.Return (some e) pos) (ZZ te):=by
 intro U s Z H D I h;exact wpAny_Return_some (eC (he U s Z H _ I h) λv s1 ⟨x,H1,b,r1,g⟩=>⟨x,Z,H1,b,r1,g⟩)
def Vl:TS:=λD _ H=>D.rt .cx H
theorem M0:PS X (.Return none pos) Vl:=λ_ _ Z H _ I h=>wpAny_Return_none ⟨.cx,Z,H,I,rfl,h⟩
def Z0(c:TT)(t u:TS):TS:=λD Z H=>c Z H λb H1=>if b=true then t D Z H1 else u D Z H1
theorem Pz{tc:TT}(q:PT X e tc)(ha:oK X ah t)(hb:oK X aj u):PS X (.If e ah aj pos) (Z0 tc t u):=by
 intro U s Z H D I h;refine wpAny_If (eC (q U s Z H _ I h) λd s1 ⟨H1,b,g⟩=>?_);cases d with
 |true=>exact ha U s1 Z H1 D b g
 |false=>exact hb U s1 Z H1 D b g
end
abbrev TG:=V->St->Hp->(St->Hp->Prop)->Prop
abbrev Q4:=List V->St->Hp->(St->Hp->Prop)->Prop
def PG(X:Cx)(target:Expr)(t:TG):Prop:=
 ∀(U:List (Addr×Obj)) (s:Shared) (Z:St) (H:Hp) (v:V) (u:Value) (Q:St->Hp->Prop),Inv X U Z H s->RelV v u->t v Z H Q->
  wpAny (model X.prog X.w) X.A (assign target X.env u) (λ_ s'=>∃b H',Inv X U b H' s'/\Q b H') X.xe s
def M3(X:Cx)(ts:List Expr)(t:Q4):Prop:=
 ∀(U:List (Addr×Obj)) (s:Shared) (Z:St) (H:Hp) (vs:List V) (us:List Value) (Q:St->Hp->Prop),Inv X U Z H s->Vals vs us->t vs Z H Q->
  wpAny (model X.prog X.w) X.A (assignInOrder ((assignEach ts X.env).map (·.2)) us) (λ_ s'=>∃b H',Inv X U b H' s'/\Q b H') X.xe s
def PB(i:Nat):TG:=λv Z H Q=>Q (Z.set i (some v)) H
theorem FH(q:X.N.Nodup)(hi:X.N[i]?=some x)(hx:Loc X.env.scope x)(hf:y3 X x:=by first|exact .inl rfl|exact .inr rfl|assumption):PG X (.Name x pos) (PB i):=by
 intro U s Z H v u Q I r h;exact wpAny_assign_Name (xm I q hi hx r (λs' b=>⟨_,H,b,h⟩) hf)
def Z1:Q4:=λvs Z H Q=>vs=[]/\Q Z H
def Vm(t:TG)(u:Q4):Q4:=λvs Z H Q=>∃v r,vs=v::r/\t v Z H λb H'=>u r b H' Q
theorem M4:M3 X [] Z1:=by
 intro U s Z H vs us Q I r h;obtain⟨e,h⟩:=h;subst e;cases r;exact assignInOrder_nil ⟨Z,H,I,h⟩
theorem Jx{t:TG}{u:Q4}(q:PG X e t)(h2:M3 X es u)
  (hs:(assignEach (e::es) X.env).map (·.2)=assign e X.env::(assignEach es X.env).map (·.2):=by rfl):M3 X (e::es) (Vm t u):=by
 intro U s Z H vs us Q I r h;obtain⟨v,M,b,h⟩:=h;subst b;cases r with
 |cons r g=>
  rw[hs];refine assignInOrder_cons (eC (q U s Z H _ _ _ I r h) λ_ s1 ⟨l,H1,n,L⟩=>?_);exact h2 U s1 l H1 _ _ Q n g L
def Z2(K:Frag)(n:Nat)(t:Q4):TG:=λv Z H Q=>∃a xs,v=.ref a/\jl K H a xs/\xs.length=n/\t xs Z H Q
theorem Q5{t:Q4}{n:Nat}(q:X.calm=true)(h:M3 X es t)
  (hn:(assignEach es X.env).length=n:=by rfl) (cD:(assignEach es X.env).findIdx? (·.1)=none:=by rfl):PG X (.Tuple es i pos) (Z2 X.K n t):=by
 intro U s Z H v u Q I r hw;obtain⟨a,xs,g,l,L,hw⟩:=hw;subst g;cases r;obtain⟨cn,rv,M,hz⟩:=I.tuple l;refine assign_Tuple_tuple (I.ok.hd q) M (by simp[hn,<-L,rv.length]) cD λh' S=>?_
 have I1:Inv X U Z H {s with heap:=h'}:=I.kept (t':=s.toks) λb o e=>S b o (bY (bu e)) e;exact h U _ Z H xs _ Q I1 (by simpa using rv) hw
def Vn(te:TE)(g:TG):TS:=λD Z H=>te Z H λx H1=>g x Z H1 D.nx
theorem Jy{te:TE}{g:TG}(he:PE X e te)(hg:PG X tg g)(hs:swapsWithSole [tg] e pos.line X.env=pure false:=by rfl) (hw:swappedStores [tg] e X.env=pure none:=by rfl)
  (h1:(assignEach [tg] X.env).map (·.2)=[assign tg X.env]:=by rfl):PS X (.Assign [tg] e pos) (Vn te g):=by
 intro U s Z H D I h;refine wpAny_Assign_stores (eC (he U s Z H _ I h) λv s1 ⟨x,H1,b,r1,l⟩=>?_) hs hw;rw[h1];exact eC (hg U s1 Z H1 x v _ b r1 l) λ_ s2 q=>q
theorem Jz{te:TE}(q:X.N.Nodup)(hi:X.N[i]?=some x)(hx:Loc X.env.scope x)(he:PE X e te)(hs:swapsWith e (some (.Name x p)) pos.line X.env=pure false:=by rfl) (hf:y3 X x:=by first|exact .inl rfl|exact .inr rfl|assumption):
  PS X (.Assign [.Name x p] e pos) (Vn te (PB i)):=by
 intro U s Z H D I h;refine wpAny_Assign_Name (eC (he U s Z H _ I h) λv s1 ⟨y,H1,b,r1,g⟩=>?_) hs;exact xm b q hi hx r1 (λs2 l=>⟨_,H1,l,g⟩) hf
structure It where
 go:Nat->Hp->Prop
 FI:Nat->Hp->V->Hp->Prop
 stop:Nat->Hp->Prop
def kP(X:Cx)(U:List (Addr×Obj))(H:Hp)(b:Addr):Prop:=
 H b=none/\b≠X.env.locals/\b∉X.fs/\(b∈X.ex\/X.gj.heap.objs.size<=b)/\(∀x c,X.env.cells.lookup x=some c->c≠b)/\∀p∈X.pn++U,p.1≠b
def Inv.xn {H':Hp}{b:Addr}(I:Inv X U Z H s)(hb:s.heap.objs.size<=b)(hn:H' b=none):kP X U H' b:=by
 refine⟨hn,dJ (c_ I.lt hb),I.Ve hb,.inr (cB I.sz hb),λx c e z=>?_,λp hp z=>?_⟩
 ·obtain⟨v,q⟩:=I.cell x c e;exact absurd (c_ q.lt (by rw[z];exact hb)) (eP _)
 ·exact absurd (c_ (bu (I.pin p hp).1) (by rw[z];exact hb)) (eP _)
structure Turn(P:Program)(w:World)(K:Frag)(tg:Expr)(J:It)(fp:List Addr)(it:Addr)(tn:Nat->Heap->Prop):Prop where
 mem:it∈fp
 obj:∀i h,tn i h->∀b∈fp,∃o,h.get? b=some o/\∀v,o.data≠ .cell v
 keep:∀i h h',tn i h->(∀b∈fp,∀o,h.get? b=some o->h'.get? b=some o)->tn i h'
 item:∀(X:Cx),X.prog=P->X.w=w->X.K=K->X.calm=true->∀(i:Nat) (U:List (Addr×Obj)) (s:Shared) (Z:St) (H:Hp) (E:Value->Shared->Prop),Inv X U Z H s->(∀b∈fp,kP X U H b)->tn i s.heap->J.go i H->
  wpAny (model P w) X.A (pyNext (.ref it)) (fun r s1=>∃u,r=some u/\
   wpAny (model P w) X.A (letOwnedTupleGo tg (.ref it) u) (fun _ s2=>∃x H',Inv X U Z H' s2/\RelV x u/\J.FI i H x H'/\tn (i+1) s2.heap/\∀b∈fp,H' b=none) E s1) E s
 done:∀(X:Cx),X.prog=P->X.w=w->X.K=K->X.calm=true->∀(i:Nat) (U:List (Addr×Obj)) (s:Shared) (Z:St) (H:Hp) (E:Value->Shared->Prop),Inv X U Z H s->(∀b∈fp,kP X U H b)->tn i s.heap->J.stop i H->
  wpAny (model P w) X.A (pyNext (.ref it)) (fun r s1=>r=none/\Inv X U Z H s1) E s
 self:∀(A:Around) (i:Nat) (s:Shared) (Q:Value->Shared->Prop) (E:Value->Shared->Prop),tn i s.heap->Q (.ref it) s->wpAny (model P w) A (pyIter (.ref it)) Q E s
abbrev TI:=St->Hp->(It->Hp->Prop)->Prop
def Y'(X:Cx)(U:List (Addr×Obj))(Z:St)(tg:Expr)(R:It->Hp->Prop)(q:Value)(s2:Shared):Prop:=
 ∃(it:Addr) (fp:List Addr) (tn:Nat->Heap->Prop) (J:It) (H':Hp),q=.ref it/\Inv X U Z H' s2/\Turn X.prog X.w X.K tg J fp it tn/\tn 0 s2.heap/\(∀b∈fp,kP X U H' b)/\R J H'
def PI(X:Cx)(tg c5:Expr)(q:TI):Prop:=
 ∀(U:List (Addr×Obj)) (s:Shared) (Z:St) (H:Hp) (R:It->Hp->Prop),Inv X U Z H s->q Z H R->
  wpAny (model X.prog X.w) X.A (eval c5 X.env) (λv s1=>wpAny (model X.prog X.w) X.A (pyIter v) (Y' X U Z tg R) X.xe s1) X.xe s
def zw{M:Model}{s:Shared}{o:Obj}{n:String}(ho:s.heap.get? a=some o)(hc:o.cls=.type n)(hd:o.data=.fields ak)
  (hn:["enumerate","zip","dict_itemiterator","dict_reverseitemiterator","odict_iterator","itertools.zip_longest","itertools.pairwise"].contains n=false) (q:ae () s):wpAny M A (letOwnedTupleGo tg (.ref a) af) ae E s:=by
 unfold letOwnedTupleGo;cases tg<;>first
  |exact bc q
  |(cases af<;>first
    |exact bc q
    |(refine aS (pB ho ?_)
      rw[hc,hd];show wpAny M A (if(["enumerate","zip","dict_itemiterator","dict_reverseitemiterator","odict_iterator","itertools.zip_longest","itertools.pairwise"].contains n&&ak[0]?==some (rawInt _))=true then _ else _) ae E s;rw[bb (by intro h;rw[hn,xf]at h;cases h)];exact bc q))
def Itl(K:Frag)(a:Addr):It:=
 ⟨λi H=>∃xs x,lL K H a xs/\xs[i]?=some x,λi H x H'=>H'=H/\∀xs,lL K H a xs->xs[i]?=some x,λi H=>∃xs,lL K H a xs/\xs.length<=i⟩
def Itt(K:Frag)(a:Addr):It:=
 ⟨λi H=>∃xs x,jl K H a xs/\xs[i]?=some x,λi H x H'=>H'=H/\∀xs,jl K H a xs->xs[i]?=some x,λi H=>∃xs,jl K H a xs/\xs.length<=i⟩
def Zb(lo:Int)(n:Nat):It:=⟨λi _=>i<n,λi H x H'=>H'=H/\x=.int (lo+i),λi _=>n<=i⟩
theorem zx(a it:Addr):Turn P w K tg (Itl K a) [it] it (λi h=>h.IsListIter it a i) where
 mem:=by simp
 obj:=λi h st b hb=>by
  have e:b=it:=by simpa using hb
  subst e;obtain⟨o,e,c,d⟩:=st;exact⟨o,e,λv z=>by rw[d]at z;cases z⟩
 keep:=λi h h' st k=>st.at λo e=>k it (by simp) o e
 item:=by
  intro X l hw n q i U s Z H E I hf st r;subst l hw n;obtain⟨xs,x,g,L⟩:=r;obtain⟨cn,rv,p,hz⟩:=I.list g;obtain⟨u,hu,ru⟩:=rv.get L;obtain⟨f0,f1,f2,M,f4,S⟩:=hf it (by simp);refine wpAny_pyNext_list_item st p.isList (x:=u) (by simpa using hu) λh' xo sb=>?_
  have I1:Inv X U Z H {s with heap:=h'}:=I.turned (t':=s.toks) (λb o hb e=>(sb.2 b hb).trans e) f0 f1 M f4 S;obtain⟨o,e,c,d⟩:=id xo;exact⟨u,rfl,zw (s:={s with heap:=h'}) e c d (by decide) ⟨x,H,I1,ru,⟨rfl,λys hy=>by rw[I.Jv hy g];exact L⟩,xo,λb hb=>(hf b hb).1⟩⟩
 done:=by
  intro X l hw n q i U s Z H E I hf st r;subst l hw n;obtain⟨xs,g,L⟩:=r;obtain⟨cn,rv,p,hz⟩:=I.list g;obtain⟨f0,f1,f2,M,f4,S⟩:=hf it (by simp);have hl:=rv.length;exact wpAny_pyNext_list_end (I.ok.hd q) st p.isList (by simp;omega) λh' eb=>⟨rfl,I.turned (t':=s.toks) (λb o hb e=>eb b o hb e) f0 f1 M f4 S⟩
 self:=λ_ _ _ _ _ st h=>wpAny_pyIter_listiter st h
theorem Eb(a it:Addr):Turn P w K tg (Itt K a) [it] it (λi h=>h.IsTupleIter it a i) where
 mem:=by simp
 obj:=λi h st b hb=>by
  have e:b=it:=by simpa using hb
  subst e;obtain⟨o,e,c,d⟩:=st;exact⟨o,e,λv z=>by rw[d]at z;cases z⟩
 keep:=λi h h' st k=>st.at λo e=>k it (by simp) o e
 item:=by
  intro X l hw n q i U s Z H E I hf st r;subst l hw n;obtain⟨xs,x,g,L⟩:=r;obtain⟨cn,rv,p,hz⟩:=I.tuple g;obtain⟨u,hu,ru⟩:=rv.get L;obtain⟨f0,f1,f2,M,f4,S⟩:=hf it (by simp);refine wpAny_pyNext_tuple_item st (show s.heap.IsTuple a cn.toArray from p) (x:=u) (by simpa using hu) λh' xo sb=>?_
  have I1:Inv X U Z H {s with heap:=h'}:=I.turned (t':=s.toks) (λb o hb e=>(sb.2 b hb).trans e) f0 f1 M f4 S;obtain⟨o,e,c,d⟩:=id xo;exact⟨u,rfl,zw (s:={s with heap:=h'}) e c d (by decide) ⟨x,H,I1,ru,⟨rfl,λys hy=>by rw[I.qI hy g];exact L⟩,xo,λb hb=>(hf b hb).1⟩⟩
 done:=by
  intro X l hw n q i U s Z H E I hf st r;subst l hw n;obtain⟨xs,g,L⟩:=r;obtain⟨cn,rv,p,hz⟩:=I.tuple g;obtain⟨f0,f1,f2,M,f4,S⟩:=hf it (by simp);have hl:=rv.length;exact wpAny_pyNext_tuple_end (I.ok.hd q) st (show s.heap.IsTuple a cn.toArray from p) (by simp;omega) λh' eb=>⟨rfl,I.turned (t':=s.toks) (λb o hb e=>eb b o hb e) f0 f1 M f4 S⟩
 self:=λ_ _ _ _ _ st h=>wpAny_pyIter_tupleiter st h
theorem Ec(it:Addr)(lo:Int)(n:Nat):Turn P w K tg (Zb lo n) [it] it (λi h=>IsRangeIter h it (lo+(i:Nat)*1) ((n:Int) - (i:Nat)) 1) where
 mem:=by simp
 obj:=λi h st b hb=>by
  have e:b=it:=by simpa using hb
  subst e;exact⟨_,st,λv z=>by
   have z':Data.fields _=Data.cell v:=z;cases z'⟩
 keep:=λi h h' st k=>k it (by simp) _ st
 item:=by
  intro X g hw l r i U s Z H E I hf st L;subst g hw l;obtain⟨f0,f1,f2,M,f4,S⟩:=hf it (by simp);have W:=Walks.range (prog:=X.prog) (w:=X.w) (I.ok.hd r) it lo 1 n;refine W.item i s _ _ L st λv h' q hv xo kk=>?_
  obtain⟨t,rfl⟩:=hv;have I1:Inv X U Z H {s with heap:=h',toks:=q}:=I.turned (λb o hb e=>kk b o (by simpa using hb) e) f0 f1 M f4 S;refine⟨_,rfl,zw (s:={s with heap:=h',toks:=q}) (n:="range_iterator") xo rfl rfl (by decide) ⟨.int (lo+i),H,I1,⟨t,?_⟩,⟨rfl,rfl⟩,xo,λb hb=>(hf b hb).1⟩⟩;rw[Int.mul_one]
 done:=by
  intro X g hw l r i U s Z H E I hf st L;subst g hw l;obtain⟨f0,f1,f2,M,f4,S⟩:=hf it (by simp);exact wpAny_pyNext_range_end (I.ok.hd r) st (by have:n<=i:=L;omega) λh' eb=>⟨rfl,I.turned (t':=s.toks) (λb o hb e=>eb b o hb e) f0 f1 M f4 S⟩
 self:=λ_ _ _ _ _ st h=>wpAny_pyIter_rangeiter st h
theorem JA{R:It->Hp->Prop}{lo hi:Int}{t u v:Tok}(I:Inv X U Z H s)(h1:-(2 ^62)<=lo)(h2:lo<2 ^62)(h3:-(2 ^62)<=hi)(h4:hi<2 ^62)
  (q:R (Zb lo (hi - lo).toNat) H):wpAny (model X.prog X.w) X.A (pyIter (.ref s.heap.objs.size)) (Y' X U Z tg R) E {s with heap:=s.heap.push {cls:=.type "range",data:=.fields #[.int lo t,.int hi u,.int 1 v]},toks:=i}:=by
 refine wpAny_pyIter_range (IsRange.new ..) (small_one h1 h2 h3 h4) ?_
 have g:Inv X U Z H {s with heap:=s.heap.push {cls:=.type "range",data:=.fields #[.int lo t,.int hi u,.int 1 v]},toks:=i}:=I.kept λb o e=>bP _ e;refine⟨(s.heap.push {cls:=.type "range",data:=.fields #[.int lo t,.int hi u,.int 1 v]}).objs.size,[(s.heap.push {cls:=.type "range",data:=.fields #[.int lo t,.int hi u,.int 1 v]}).objs.size],_,_,H,rfl,
  g.kept (t':=i) λb o e=>bP _ e,Ec _ lo (hi - lo).toNat,?_,λb hb=>?_,q⟩
 ·have l:lo+((0:Nat):Int)*1=lo:=by simp
  have n:(((hi - lo).toNat:Nat):Int) - ((0:Nat):Int)=Builtin.Range.rangeSize lo hi 1:=by rw[rangeSize_one];split<;>omega
  show IsRangeIter _ _ (lo+((0:Nat):Int)*1) ((((hi - lo).toNat:Nat):Int) - ((0:Nat):Int)) 1;rw[l,n];exact cp _ rfl
 ·have e:b=(s.heap.push {cls:=.type "range",data:=.fields #[.int lo t,.int hi u,.int 1 v]}).objs.size:=by simpa using hb
  subst e;exact g.xn (bz _) (g.cU.fresh (bz _))
def Vo(ta:TA):TI:=λZ H R=>ta Z H λvs H1=>∃j:Int,vs=[.int j]/\-(2 ^62)<=j/\j<2 ^62/\R (Zb 0 j.toNat) H1
theorem Hm{ta:TA}(hg:Gl X "range")(hm:X.mg "range"=none)(ha:PA X [o] ta)(hs:starEach [o] X.env=[(false,eval o X.env)]:=by rfl):PI X tg (.Call (.Name "range" p) [o] [] pos) (Vo ta):=by
 intro U s Z H R I h;refine Call_ (uQ I hg hm boot_range (wC (eC (ha pos U s Z H _ I h) λus s1 ⟨vs,H1,g,r1,b⟩=>?_) hs rfl));obtain⟨j,e,b,l,q⟩:=b;subst e;cases r1 with
 |cons r n=>
  cases n;obtain⟨t,rfl⟩:=r;exact call_range_1 (JA g (by omega) (by omega) b l (by simpa using q))
def Z3(q:TI)(g:TG)(tb:TS):TS:=λD Z H=>q Z H λJ H1=>∃W:Nat->Nat->St->Hp->Prop,(∃m,W 0 m Z H1)/\∀i m Z H,W i m Z H->
 (J.stop i H/\D.nx Z H)\/(J.go i H/\∃N:St->Hp->Prop,(∀b H',N b H'->∃l,l<m/\W (i+1) l b H')/\∀x H',J.FI i H x H'->g x Z H' λn H2=>tb {D with nx:=N,ct:=N,bk:=D.nx} n H2)
def xp(fp:List Addr)(h:Heap):List (Addr×Obj):=fp.filterMap λb=>(h.get? b).map λo=>(b,o)
def nF{fp:List Addr}{h:Heap}{o:Obj}(hb:a∈fp)(e:h.get? a=some o):(a,o)∈xp fp h:=lI.mpr ⟨a,hb,by rw[e];rfl⟩
theorem Hn{fp:List Addr}{p:Addr×Obj}(hp:p∈xp fp aa):p.1∈fp/\aa.get? p.1=some p.2:=by
 obtain⟨b,hb,e⟩:=lI.mp hp;cases q:aa.get? b with
 |none=>rw[q]at e;cases e
 |some o=>
  rw[q]at e;have g:(b,o)=p:=Option.some.inj e;subst g;exact⟨hb,q⟩
def Inv.pinned {fp:List Addr}(I:Inv X U Z H s)(hf:∀b∈fp,kP X U H b)(q:∀b∈fp,∃o,s.heap.get? b=some o/\∀v,o.data≠ .cell v):Inv X (U++xp fp s.heap) Z H s:=
 I.kg λp hp=>(dI.mp hp).elim (λz=>I.pin p (dw _ z)) λz=>by
   obtain⟨hb,e⟩:=Hn z;obtain⟨f0,f1,f2,_⟩:=hf p.1 hb;obtain⟨o,g,d⟩:=q p.1 hb;rw[e]at g;cases g;exact⟨e,f0,f1,f2,d⟩
def Inv.tN {pl:List (Addr×Obj)}(I:Inv X (U++pl) Z H s):Inv X U Z H s:=I.kg λp hp=>I.pin p (dw _ (j7 _ hp))
theorem Ed{wi:TI}{g:TG}{tb:TS}(hp:PassesOwn (model X.prog X.w) X.A X.env X.xe)(hc:X.calm=true)(hi:PI X tg am wi)(hg:PG X tg g)(hb:oK X ah tb)
  (hs:∀x,foldedSetIterable am X.env x=pure x:=by intro _;rfl):PS X (.For tg am ah [] pos) (Z3 wi g tb):=by
 intro U s Z H D I h;refine wpAny_For (eC (hi U s Z H _ I h) λv s1 h1=>eC h1 λZa s2 h2=>?_) hs;obtain⟨it,fp,tn,J,H2,e,I2,T,M5,f2,W,⟨m0,w0⟩,turn⟩:=h2;subst e;have Ee:∀{H':Hp},(∀b∈fp,H' b=none)->∀b∈fp,kP X U H' b:=λhn b hb=>⟨hn b hb,(f2 b hb).2⟩;refine codeAny_forLoop_any (λn s'=>∃i q H',Inv X U q H' s'/\tn i s'.heap/\(∀b∈fp,H' b=none)/\W i n q H') ?_ m0 ⟨0,Z,H2,I2,M5,λb hb=>(f2 b hb).1,w0⟩
 rintro n s3 ⟨i,M6,H3,I3,st3,fr3,w3⟩
 rcases turn i n M6 H3 w3 with⟨stop,qn⟩|⟨go,N,hN,step⟩
 ·refine ph hp (eC (T.done X rfl rfl rfl hc i U s3 M6 H3 X.xe I3 (Ee fr3) st3 stop) λr s4 ⟨hr,I4⟩=>?_);subst hr;exact sZ ⟨M6,H3,I4,qn⟩
 ·refine ph hp (eC (T.item X rfl rfl rfl hc i U s3 M6 H3 X.xe I3 (Ee fr3) st3 go) λr s4 ⟨u,hr,h4⟩=>?_);subst hr;refine ph hp (eC h4 λ_ s5 ⟨x,H5,I5,r5,y5,UI,Zc⟩=>?_);have I5':=I5.pinned (Ee Zc) (T.obj _ _ UI);refine ph hp (eC (hg _ s5 M6 H5 x u _ I5' r5 (step x H5 y5)) λ_ s6 ⟨Z4,H6,I6,q6⟩=>?_);refine ph hp (eC (hb _ s6 Z4 H6 _ I6 q6) λf s7 S=>?_);have again:∀{l:St} {L:Hp},Inv X (U++xp fp s5.heap) l L s7->N l L->∃m,m<n/\∃i q H',Inv X U q H' s7/\tn i s7.heap/\(∀b∈fp,H' b=none)/\W i m q H':=λ{l L} M n7=>by
   obtain⟨m',hm,w7⟩:=hN l L n7;refine⟨m',hm,i+1,l,L,M.tN,T.keep _ _ _ UI λb hb o e=>(M.pin (b,o) (dw _ (dw _ (nF hb e)))).1,λb hb=>?_,w7⟩;obtain⟨o,e,d⟩:=T.obj _ _ UI b hb;exact(M.pin (b,o) (dw _ (dw _ (nF hb e)))).2.1
  cases f with
  |next=>obtain⟨l,L,M,n7⟩:=S;exact again M n7
  |cont=>obtain⟨l,L,M,n7⟩:=S;exact again M n7
  |brk=>obtain⟨l,L,M,S⟩:=S;exact⟨l,L,M.tN,S⟩
  |ret v=>obtain⟨x7,l,L,M,r7,S⟩:=S;exact⟨x7,l,L,M.tN,r7,S⟩
abbrev R2:=V->V->Hp->VK->Prop
def uR(X:Cx)(f:Value->Value->Sem Value)(r:R2):Prop:=
 ∀(U:List (Addr×Obj)) (s:Shared) (Z:St) (H:Hp) (x y:V) (v u:Value) (Q:VK),Inv X U Z H s->RelV x v->RelV y u->r x y H Q->
  wpAny (model X.prog X.w) X.A (f v u) (EP X U Z Q) X.xe s
def Z5(X:Cx)(f:Value->Sem Value)(r:V->Hp->VK->Prop):Prop:=
 ∀(U:List (Addr×Obj)) (s:Shared) (Z:St) (H:Hp) (x:V) (v:Value) (Q:VK),Inv X U Z H s->RelV x v->r x H Q->
  wpAny (model X.prog X.w) X.A (f v) (EP X U Z Q) X.xe s
def gC(X:Cx)(f:Value)(r:List V->Hp->VK->Prop):Prop:=
 ∀(U:List (Addr×Obj)) (s:Shared) (Z:St) (H:Hp) (xs:List V) (us:List Value) (Q:VK),Inv X U Z H s->Vals xs us->r xs H Q->
  wpAny (model X.prog X.w) X.A (call f us) (EP X U Z Q) X.xe s
def Z6(X:Cx)(r:V->Hp->(Bool->Hp->Prop)->Prop):Prop:=
 ∀(U:List (Addr×Obj)) (s:Shared) (Z:St) (H:Hp) (x:V) (v:Value) (Q:Bool->Hp->Prop),Inv X U Z H s->RelV x v->r x H Q->
  wpAny (model X.prog X.w) X.A (truthy v) (TP X U Z Q) X.xe s
def Q6(r:R2)(ta tb:TE):TE:=λZ H Q=>ta Z H λx H1=>tb Z H1 λy H2=>r x y H2 Q
def tUn(r:V->Hp->VK->Prop)(ta:TE):TE:=λZ H Q=>ta Z H λx H1=>r x H1 Q
def rI(C:Int->Int->Prop)(g:Int->Int->V):R2:=λx y H Q=>∃i j,x=.int i/\y=.int j/\C i j/\Q (g i j) H
def Q7(g:Int->Int->V):R2:=λx y H Q=>∃i j,x=.int i/\y=.int j/\Q (g i j) H
def rU(g:Int->V):V->Hp->VK->Prop:=λx H Q=>∃i,x=.int i/\Q (g i) H
section
variable {a b c:Expr}{ta tb tc:TE}
def Q8(q:PE X a ta)(hb:PE X b tb){R:V->V->Hp->Prop}(I:Inv X U Z H s)
  (h:ta Z H λx H1=>tb Z H1 λy H2=>R x y H2) {f:Value->Value->Sem Value}
  (hf:∀v u s2 x y H2,Inv X U Z H2 s2->RelV x v->RelV y u->R x y H2->wpAny (model X.prog X.w) X.A (f v u) Q X.xe s2):
  wpAny (model X.prog X.w) X.A (eval a X.env) (λv dg=>wpAny (model X.prog X.w) X.A (eval b X.env) (λu tR=>wpAny (model X.prog X.w) X.A (f v u) Q X.xe tR) X.xe dg) X.xe s:=by
 refine eC (q U s Z H _ I h) λv s1 ⟨x,H1,g,r1,l⟩=>?_
 refine eC (hb U s1 Z H1 _ g l) λu s2 ⟨y,H2,n,r2,r⟩=>?_
 exact hf v u s2 x y H2 n r1 r2 r
theorem PC{op:Operator}{r:R2}(ho:uR X (binaryOp op) r)(ha:PE X a ta)(hb:PE X b tb):PE X (.BinOp a op b pos) (Q6 r ta tb):=by
 intro U s Z H Q I h;exact wpAny_BinOp (Q8 ha hb I h λv u s2 x y H2 g l n q=>ho U s2 Z H2 x y v u Q g l n q)
theorem Vp{op:UnaryOp}{r:V->Hp->VK->Prop}(q:Z5 X (unaryOp op) r)(ha:PE X a ta):PE X (.UnaryOp op a pos) (tUn r ta):=by
 intro U s Z H Q I h;exact UnaryOp_ (eC (ha U s Z H _ I h) λv s1 ⟨x,H1,b,r1,g⟩=>q U s1 Z H1 x v Q b r1 g)
theorem opI{f:Value->Value->Sem Value}{C:Int->Int->Prop}{g:Int->Int->Int}
  (rule:∀(i j:Int) (t u:Tok) (s:Shared) (Q:Value->Shared->Prop) (E:Value->Shared->Prop),C i j->Q (.int (g i j) s.toks) {s with toks:=s.toks+1}->wpAny (model X.prog X.w) X.A (f (.int i t) (.int j u)) Q E s):
  uR X f (rI C λi j=>.int (g i j)):=by
 intro U s Z H x y v u Q I b l h;obtain⟨i,j,rfl,rfl,n,q⟩:=h;obtain⟨t,rfl⟩:=b;obtain⟨t',rfl⟩:=l;exact rule i j t t' s _ _ n ⟨.int (g i j),H,I.tok _,⟨_,rfl⟩,q⟩
theorem Z7{f:Value->Value->Sem Value}{g:Int->Int->Int}
  (rule:∀(i j:Int) (t u:Tok) (s:Shared) (Q:Value->Shared->Prop) (E:Value->Shared->Prop),Q (.int (g i j) s.toks) {s with toks:=s.toks+1}->wpAny (model X.prog X.w) X.A (f (.int i t) (.int j u)) Q E s):
  uR X f (Q7 λi j=>.int (g i j)):=by
 intro U s Z H x y v u Q I b l h;obtain⟨i,j,rfl,rfl,q⟩:=h;obtain⟨t,rfl⟩:=b;obtain⟨t',rfl⟩:=l;exact rule i j t t' s _ _ ⟨.int (g i j),H,I.tok _,⟨_,rfl⟩,q⟩
theorem M7{f:Value->Value->Sem Value}{g:Int->Int->Bool}
  (rule:∀(i j:Int) (t u:Tok) (s:Shared) (Q:Value->Shared->Prop) (E:Value->Shared->Prop),Q (.bool (g i j)) s->wpAny (model X.prog X.w) X.A (f (.int i t) (.int j u)) Q E s):
  uR X f (Q7 λi j=>.bl (g i j)):=by
 intro U s Z H x y v u Q I b l h;obtain⟨i,j,rfl,rfl,q⟩:=h;obtain⟨t,rfl⟩:=b;obtain⟨t',rfl⟩:=l;exact rule i j t t' s _ _ ⟨.bl (g i j),H,I,rfl,q⟩
def JC(i j:Int):Prop:=(-(2 ^64)<i/\i<2 ^64)\/(-(2 ^64)<j/\j<2 ^64)
def JC.ok {i j:Int}(h:JC i j):IntMulOk i j:=by
 rcases h with⟨b,h2⟩|⟨b,h2⟩
 ·exact .of_left (intBits_le_64 b h2)
 ·exact .of_right (intBits_le_64 b h2)
def Q9:uR X (binaryOp .Add) (Q7 λi j=>.int (i+j)):=Z7 λ_ _ _ _ _ _ _ q=>add_int q
def Q_:uR X (binaryOp .Mult) (rI JC λi j=>.int (i*j)):=opI λ_ _ _ _ _ _ _ b q=>mul_int q b.ok
theorem Ra:uR X (binaryOp .Mod) (rI (λ_ j=>0<j) λi j=>.int (i % j)):=opI λi j _ _ _ _ _ b q=>by
 have g:(0:Int)<j:=b;exact mod_int' (by omega) (by rw[Int.fmod_eq_emod_of_nonneg i (by omega)];exact q)
theorem unI{f:Value->Sem Value}{g:Int->Int}
  (rule:∀(i:Int) (t:Tok) (s:Shared) (Q:Value->Shared->Prop) (E:Value->Shared->Prop),Q (.int (g i) s.toks) {s with toks:=s.toks+1}->wpAny (model X.prog X.w) X.A (f (.int i t)) Q E s):
  Z5 X f (rU λi=>.int (g i)):=by
 intro U s Z H x v Q I b h;obtain⟨i,rfl,q⟩:=h;obtain⟨t,rfl⟩:=b;exact rule i t s _ _ ⟨.int (g i),H,I.tok _,⟨_,rfl⟩,q⟩
def Rb:Z5 X (unaryOp .USub) (rU λi=>.int (-i)):=unI λ_ _ _ _ _ q=>neg_int q
end
section
variable {b c:Expr}{ta tb tc:TE}
def uS{Q:VK}{k k':Bool}(I:Inv X U Z H s)(q:Q (.bl k) H)(e:k=k'):EP X U Z Q (.bool k') s:=by
 subst e;exact⟨.bl k,H,I,rfl,q⟩
def Vq:uR X (compareOp .Lt) (Q7 λi j=>.bl (decide (i<j))):=M7 λ_ _ _ _ _ _ _ q=>lt_int q
def Vr:uR X (compareOp .LtE) (Q7 λi j=>.bl (decide (i<=j))):=M7 λ_ _ _ _ _ _ _ q=>le_int q
def Vs:uR X (compareOp .Gt) (Q7 λi j=>.bl (decide (j<i))):=M7 λ_ _ _ _ _ _ _ q=>gt_int q
def Vt:uR X (compareOp .GtE) (Q7 λi j=>.bl (decide (j<=i))):=M7 λ_ _ _ _ _ _ _ q=>ge_int q
theorem Ho:uR X (compareOp .Lt) (λx y H Q=>∃i j,x=.str i/\y=.str j/\Q (.bl (decide (i.cps.toList<j.cps.toList))) H):=by
 intro U s Z H x y v u Q I b g h;obtain⟨i,j,rfl,rfl,q⟩:=h;obtain⟨t,rfl⟩:=b;obtain⟨t',rfl⟩:=g;exact lt_str (uS I q rfl)
theorem Hq:uR X (compareOp .In) (λx y H Q=>∃i j,x=.str i/\y=.str j/\Q (.bl (!(Builtin.Str.occurrences j i 0 j.length 1).isEmpty)) H):=by
 intro U s Z H x y v u Q I b g h;obtain⟨i,j,rfl,rfl,q⟩:=h;obtain⟨t,rfl⟩:=b;obtain⟨t',rfl⟩:=g;exact in_str (uS I q rfl)
theorem Rc:uR X (compareOp .Is) (λx y H Q=>y=.cx/\Q (.bl (decide (x=.cx))) H):=by
 intro U s Z H x y v u Q I b g h;obtain⟨rfl,q⟩:=h;cases g;refine is_none_gen (uS I q ?_);cases x<;>first
  |(cases b;rfl)
  |(obtain⟨t,rfl⟩:=b;rfl)
theorem AF:uR X (compareOp .NotIn) (λx y H Q=>∃i j,x=.str i/\y=.str j/\Q (.bl (!(!(Builtin.Str.occurrences j i 0 j.length 1).isEmpty))) H):=by
 intro U s Z H x y v u Q I b g h;obtain⟨i,j,rfl,rfl,q⟩:=h;obtain⟨t,rfl⟩:=b;obtain⟨t',rfl⟩:=g;exact notIn_str (uS I q rfl)
def AG(b:Expr){op:CmpOp}(h:op≠ .In:=by decide) (h2:op≠ .NotIn:=by decide):behindInMarks op b=false:=by
 have g:(op==CmpOp.In)=false:=by cases op<;>first|rfl|exact absurd rfl h
 have l:(op==CmpOp.NotIn)=false:=by cases op<;>first|rfl|exact absurd rfl h2
 cases b<;>simp[behindInMarks,g,l]
theorem M8{op:CmpOp}{r:R2}(ho:uR X (compareOp op) r)(ha:PE X o ta)(hb:PE X b tb)(hm:behindInMarks op b=false):PE X (.Compare o [op] [b] pos) (Q6 r ta tb):=by
 intro U s Z H Q I h;exact wpAny_Compare1 (Q8 ha hb I h λv u s2 x y H2 g l n q=>ho U s2 Z H2 x y v u Q g l n q) hm
def Vu(t:TE):TT:=λZ H Q=>t Z H λx H'=>∃k,x=.bl k/\Q k H'
theorem M9{op:CmpOp}{r:R2}(q:uR X (compareOp op) r)(ha:PE X o ta)(hb:PE X b tb)(hm:behindInMarks op b=false):PT X (.Compare o [op] [b] pos) (Vu (Q6 r ta tb)):=by
 intro U s Z H Q I h;refine wpAny_isTrue_Compare1 (eC (ha U s Z H _ I h) λv s1 ⟨x,H1,g,r1,l⟩=>eC (hb U s1 Z H1 _ g l) λu s2 ⟨y,H2,n,r2,L⟩=>
  eC (q U s2 Z H2 x y v u _ n r1 r2 L) λc s3 ⟨z,M,S,r3,k,e,q3⟩=>?_) hm
 subst e;cases r3;exact o8 ⟨M,S,q3⟩
def M_(K:Frag)(x:V)(H:Hp)(k:Bool):Prop:=
 match x with
 |.cx=>k=false
 |.bl b=>k=b
 |.int i=>k=(i !=0)
 |.str y=>y.length<=sizeLine/\k=((y.length:Int) !=0)
 |.Pq y=>y.size<=sizeLine/\k=((y.size:Int) !=0)
 |.ref p=>(∃xs,lL K H p xs/\k=!xs.isEmpty)\/(∃xs,jl K H p xs/\k=!xs.isEmpty)\/∃kvs,Rd H p (.dK kvs)/\k=!kvs.isEmpty
 |_=>False
def Ef{kvs:List (ag×V)}{vs:List (ag×Value)}(r:KV kvs vs):(!vs.isEmpty)=!kvs.isEmpty:=by
 cases r<;>rfl
def xq(r:Vals ar aq):(!aq.toArray.isEmpty)=!ar.isEmpty:=by
 cases r<;>simp
def xr:(sizeLine:Nat)<2 ^63:=by rw[dQ];decide
theorem JD:Z6 X (λx H Q=>∃k,M_ X.K x H k/\Q k H):=by
 intro U s Z H x v Q I l h;obtain⟨k,e,q⟩:=h;have hl:=xr;have hs:sizeLine=16777216:=dQ;cases x with
 |cx=>
  cases l;have g:k=false:=e;subst g;exact truthy_none ⟨H,I,q⟩
 |bl b=>
  cases l;have g:k=b:=e;subst g;exact o8 ⟨H,I,q⟩
 |int i=>
  obtain⟨t,rfl⟩:=l;have g:k=(i !=0):=e;subst g;exact PySem.P.truthy_int ⟨H,I,q⟩
 |str y=>
  obtain⟨t,rfl⟩:=l;obtain⟨M,g⟩:y.length<=sizeLine/\k=((y.length:Int) !=0):=e;subst g;exact PySem.P.truthy_str (by omega) ⟨H,I.tok _,q⟩
 |Pq y=>
  obtain⟨t,rfl⟩:=l;obtain⟨M,g⟩:y.size<=sizeLine/\k=((y.size:Int) !=0):=e;subst g;exact PySem.W.truthy_bytes (by omega) ⟨H,I.tok _,q⟩
 |ref p=>
  cases l;have g:(∃xs,lL X.K H p xs/\k=!xs.isEmpty)\/(∃xs,jl X.K H p xs/\k=!xs.isEmpty)\/∃kvs,Rd H p (.dK kvs)/\k=!kvs.isEmpty:=e;rcases g with⟨xs,n,g⟩|⟨xs,n,g⟩|⟨kvs,n,g⟩
  ·subst g;obtain⟨cn,r,pl,hz⟩:=I.list n;have L:=r.length;exact wpAny_truthy_list pl.isList (by simp only[cS];omega) ⟨H,I.tok _,by rw[xq r];exact q⟩
  ·subst g;obtain⟨cn,r,pl,hz⟩:=I.tuple n;have L:=r.length;exact truthy_tuple pl (by simp only[cS];omega) ⟨H,I.tok _,by rw[xq r];exact q⟩
  ·subst g;obtain⟨hz,S,vs,r,m⟩:kvs.length<=sizeLine/\(p==sysModules)=false/\∃vs,KV kvs vs/\s.heap.DictOf (cj X.prog X.w) p vs:=n.ok I.cU;have L:kvs.length=vs.length:=Paired.length r;exact wpAny_truthy_dict S m (by omega) ⟨H,I.tok _,by rw[Ef r];exact q⟩
 |_=>exact fe e
def Cd(q:PE X o ta)(he:∀whole,isTrue o X.env whole=(do let v<-whole;standAt o.pos;holding [v] (truthy v))):
  PT X o (λZ H Q=>ta Z H λx H'=>∃k,M_ X.K x H' k/\Q k H'):=by
 intro U s Z H Q I h;exact isTrue_plain (eC (q U s Z H _ I h) λv s1 ⟨x,H1,b,r1,g⟩=>JD U s1 Z H1 x v Q b r1 g) (he _)
theorem Eg:uR X (binaryOp .Add) (λx y H Q=>∃i j,x=.str i/\y=.str j/\i.length+j.length<=sizeLine/\Q (.str (i++j)) H):=by
 intro U s Z H x y v u Q I b g h;obtain⟨i,j,rfl,rfl,hz,q⟩:=h;obtain⟨t,rfl⟩:=b;obtain⟨t',rfl⟩:=g;exact add_str (λt' l=>⟨.str (i++j),H,I.tok _,⟨_,rfl⟩,q⟩) hz
def vals1{x:V}(r:Vals [x] aq):∃u,aq=[u]/\RelV x u:=by
 cases r with
 |cons r1 b=>cases b;exact⟨_,rfl,r1⟩
def vals2{x y:V}(r:Vals [x,y] aq):∃u w',aq=[u,w']/\RelV x u/\RelV y w':=by
 cases r with
 |cons r1 b=>
  cases b with
  |cons g l=>cases l;exact⟨_,_,rfl,r1,g⟩
theorem Hr(hc:X.calm=true):gC X (.builtin "max") (λxs H Q=>∃i j,xs=[.int i,.int j]/\Q (.int (if j>i then j else i)) H):=by
 intro U s Z H xs us Q I r h;obtain⟨i,j,rfl,q⟩:=h;obtain⟨u,g,rfl,⟨t,rfl⟩,⟨t',rfl⟩⟩:=vals2 r;refine max_two_ints (I.ok.hd hc) λh' l k=>⟨_,H,I.kept k,?_,q⟩;by_cases b:j>i
 ·rw[aV b,aV b];exact⟨_,rfl⟩
 ·rw[bb b,bb b];exact⟨_,rfl⟩
theorem zy:gC X (.type "int") (λxs H Q=>(∃i,xs=[.int i]/\Q (.int i) H)\/∃k,xs=[.bl k]/\Q (.int (if k then 1 else 0)) H):=by
 intro U s Z H xs us Q I r h;rcases h with⟨i,rfl,q⟩|⟨k,rfl,q⟩
 ·obtain⟨u,rfl,t,rfl⟩:=vals1 r;exact call_int_int ⟨.int i,H,I,⟨_,rfl⟩,q⟩
 ·obtain⟨u,rfl,r1⟩:=vals1 r;cases r1;exact call_int_bool ⟨.int (if k then 1 else 0),H,I.tok _,⟨_,rfl⟩,q⟩
def Z8(K:Frag)(x:V)(H:Hp)(n:Nat):Prop:=
 match x with
 |.str y=>y.length<=sizeLine/\n=y.length
 |.Pq y=>y.size<=sizeLine/\n=y.size
 |.ref p=>(∃xs,lL K H p xs/\n=xs.length)\/∃xs,jl K H p xs/\n=xs.length
 |_=>False
theorem tT:gC X (.builtin "len") (λxs H Q=>∃x n,xs=[x]/\Z8 X.K x H n/\Q (.int n) H):=by
 intro U s Z H xs us Q I r h;obtain⟨x,n,rfl,e,q⟩:=h;obtain⟨u,rfl,g⟩:=vals1 r;have hl:=xr;have hs:sizeLine=16777216:=dQ;cases x with
 |str y=>
  obtain⟨t,rfl⟩:=g;obtain⟨S,b⟩:y.length<=sizeLine/\n=y.length:=e;subst b;exact len_str (by omega) ⟨.int _,H,I.tok _,⟨_,rfl⟩,q⟩
 |Pq y=>
  obtain⟨t,rfl⟩:=g;obtain⟨S,b⟩:y.size<=sizeLine/\n=y.size:=e;subst b;exact PySem.W.len_bytes (by omega) ⟨.int _,H,I.tok _,⟨_,rfl⟩,q⟩
 |ref p=>
  cases g;have b:(∃xs,lL X.K H p xs/\n=xs.length)\/∃xs,jl X.K H p xs/\n=xs.length:=e;rcases b with⟨xs,l,b⟩|⟨xs,l,b⟩
  ·subst b;obtain⟨cn,L,pl,hz⟩:=I.list l;have M:=L.length;exact Calls.call_len_list pl.isList (by simp only[cS];omega) ⟨.int xs.length,H,I.tok _,⟨_,by simp only[cS];rw[M]⟩,q⟩
  ·subst b;obtain⟨cn,L,pl,hz⟩:=I.tuple l;have M:=L.length;exact len_tuple pl (by simp only[cS];omega) ⟨.int xs.length,H,I.tok _,⟨_,by simp only[cS];rw[M]⟩,q⟩
 |_=>exact fe e
end
structure Eh(h:Heap)(x dx C:Addr)(mA:Str->Option Value):Prop where
 obj:h.get? x=some (PySem.W.instObj C dx)
 ns:h.Ns1 dx mA
 ne:dx≠x
theorem Hs(n:aa.Ns1 au mg):∃od,aa.get? au=some od/\∀name,PySem.W.lookIn name od=some (mg name):=by
 obtain⟨o,es,ep,b,hd,g,_,hm⟩:=n;refine⟨o,b,λname=>?_⟩;have e:=hm name;unfold nsFind findBy at e;rw[<-Array.find?_toList]at e;unfold PySem.W.lookIn;rw[hd];dsimp only;split
 ·rename_i y q;rw[q]at e;exact cT some e
 ·rename_i q;rw[q]at e;have a:es.toList.any (·.refKey)=false:=by
   rw[List.any_eq_false];intro y l;obtain⟨z,t,r⟩:=g y (Array.mem_toList_iff.mp l);simp[DictEntry.refKey,r]
  have I:¬es.toList.any (·.refKey)=true:=by rw[a];exact fK
  rw[bb I];exact cT some e
def Eh.look {h:Heap}{x dx C:Addr}{mA:Str->Option Value}(I:Eh h x dx C mA):∃q,PySem.W.InstAt h x (PySem.W.instObj C dx) C (some q)/\∀name,PySem.W.lookIn name q=some (mA name):=
 let⟨q,b,g⟩:=Hs I.ns
 ⟨q,⟨I.obj,rfl,rfl,b⟩,g⟩
section
variable {x C f:Addr}
def get_map{expr:Bool}(X:K.In s.heap)(I:Eh s.heap x au C mg)(q:PySem.W.plainGet K C av=true)(hh:PySem.W.hasDictIn K C=true)
  (ha:PySem.W.findIn K (.ref C) av=some none) (hv:mg av=some af) (JF:PySem.W.handedIn af=true) (h:Q af {s with toks:=s.toks+1}):
  wpAny (model P w) A (getAttr (.ref x) av expr) Q E s:=by
 obtain⟨g,J,b⟩:=I.look;exact PySem.W.get_value X J (oU q).1 (PySem.W.findObj_own hh ha rfl (by rw[b,hv])) JF h
def JG{pl:Sem Bool}{Q:Value×List Value->Shared->Prop}(X:K.In s.heap)(I:Eh s.heap x au C mg)(q:PySem.W.plainGet K C av=true)
  (hf:PySem.W.findIn K (.ref C) av=some (some (.ref f))) (ht:PySem.W.isFn K (.ref f)=true) (hv:mg av=none) (h:Q (.ref f,[.ref x]) s):
  wpAny (model P w) A (getMethod (.ref x) av pl) Q E s:=by
 obtain⟨b,J,g⟩:=I.look;exact PySem.W.method_fn X J (oU q).1 (oU q).2 hf (ff.mp ht) (by show(PySem.W.lookIn av b).map (·.isSome)=some false;rw[g,hv];rfl) h
def M'(X:K.In s.heap)(I:Eh s.heap x au C mg)
  (hs:PySem.W.findIn K (.ref C) "__setattr__"=some (some (.builtin "object.__setattr__"))) (hp:PySem.W.plainOver K C=true) (q:PySem.W.takerIn K C av=some none) (hh:PySem.W.hasDictIn K C=true)
  (hw:PySem.Within mg ps) (hsz:ps.length<=sizeLine)
  (h:∀h',Eh h' x au C (λy=>if y=av then some af else mg y)->Heap.SameBut au s.heap h'->ae () {s with heap:=h',toks:=s.toks+2}):
  wpAny (model P w) A (setAttr (.ref x) av af) ae E s:=by
 obtain⟨od,J,hl⟩:=I.look;refine PySem.W.set_plain X J hs (PySem.W.osa_open (s:={s with toks:=s.toks+1}) (r:=none) X J hp q λb=>?_);obtain⟨cd,S,MW⟩:=PySem.W.any_some hh;have hx:s.heap.get? x=some ⟨.ref C,some au,.plain,#[]⟩:=I.obj;refine aS (bc (aS (aS (wpAny_loadPart hx (aS (PySem.W.Looks.here (s:={s with toks:=s.toks+1}) (PySem.W.looks_clsIn X S) ?_))))));rw[MW];refine bc (a:=some au) (aS (bc (aS ?_)));refine wpAny_nsSet1 (s:={s with toks:=s.toks+1}) I.ns λh' L M=>?_
 obtain⟨oD,esD,epD,g,l,n⟩:=L.count (PySem.Within.cons av af hw);refine aS (wpAny_lookBehind g (by rw[l];exact pastItsLine_dict (cB n (by rw[dt];omega))) ?_);exact bc (h _ ⟨(M.2 _ (Ne.symm I.ne)).trans I.obj,L,I.ne⟩ M)
theorem JH{kw:List (Str×Value)}(X:K.In s.heap)(hm:PySem.W.makesIn K C=true)
  (hi:PySem.W.findIn K (.ref C) "__init__"=some (some (.ref f))) (hf:PySem.W.typeIn K (.ref f)=some (.type "function"))
  (h:codeAny (model P w) (A.under (.builtin "type.__call__" ⟨.ref C::aq,kw⟩)) (.call (.ref f) ⟨.ref (s.heap.objs.size+1)::aq,kw⟩) (PySem.W.InitBack (s.heap.objs.size+1) aw)
   {s with heap:=(s.heap.push PySem.W.emptyDict).push (PySem.W.instObj C s.heap.objs.size)}):
  codeAny (model P w) A (.call (.ref C) ⟨aq,kw⟩) aw s:=by
 obtain⟨b,g,d,t,os⟩:=s;exact PySem.W.make_core (PySem.W.makes_of X hm) (tm X hi) (λself=>PySem.W.bind_fn X self hf) (.inl rfl) h
end
noncomputable def mM(f:Str)(v:V):List (Str×V)->List (Str×V)
 |[]=>[(f,v)]
 |(g,x)::r=>if g=f then(g,v)::r else(g,x)::mM f v r
theorem vi(f g:Str)(v:V):∀fs:List (Str×V),(mM f v fs).lookup g=if g=f then some v else fs.lookup g
 |[]=>by
  show List.lookup g [(f,v)]=_;by_cases h:g=f
  ·have hb:(g==f)=true:=ff.mpr h;simp only[List.lookup,hb,aV h]
  ·have hb:(g==f)=false:=jh.mpr h;simp only[List.lookup,hb,bb h]
 |(k,x)::r=>by
  have l:=vi f g v r;rw[show mM f v ((k,x)::r)=(if k=f then(k,v)::r else(k,x)::mM f v r)from rfl];by_cases b:k=f
  ·rw[aV b];by_cases h:g=k
   ·have hb:(g==k)=true:=ff.mpr h;simp only[List.lookup,hb,aV (h.trans b)]
   ·have hb:(g==k)=false:=jh.mpr h;simp only[List.lookup,hb,bb (λe:g=f=>h (e.trans b.symm))]
  ·rw[bb b];by_cases h:g=k
   ·have hb:(g==k)=true:=ff.mpr h;simp only[List.lookup,hb,bb (λe:g=f=>b (h.symm.trans e))]
   ·have hb:(g==k)=false:=jh.mpr h;simp only[List.lookup,hb];exact l
theorem uT(f:Str)(v:V):∀fs:List (Str×V),f∈(mM f v fs).map (·.1)/\∀g,g∈fs.map (·.1)->g∈(mM f v fs).map (·.1)
 |[]=>⟨by simp[mM],λg h=>by simp at h⟩
 |(k,x)::r=>by
  obtain⟨i1,i2⟩:=uT f v r;rw[show mM f v ((k,x)::r)=(if k=f then(k,v)::r else(k,x)::mM f v r)from rfl];by_cases b:k=f
  ·rw[aV b];subst b;exact⟨by simp,λg h=>by simpa using h⟩
  ·rw[bb b];refine⟨?_,λg h=>?_⟩
   ·rw[bL];exact ck _ i1
   ·rw[bL]at h⊢;rcases bE.mp h with e|e
    ·exact bE.mpr (.inl e)
    ·exact ck _ (i2 g e)
theorem vj(f:Str)(v:V):∀fs:List (Str×V),(mM f v fs).length<=fs.length+1
 |[]=>by simp[mM]
 |(k,x)::r=>by
  have g:=vj f v r;rw[show mM f v ((k,x)::r)=(if k=f then(k,v)::r else(k,x)::mM f v r)from rfl];by_cases b:k=f
  ·rw[aV b,dt,dt];omega
  ·rw[bb b,dt,dt];omega
def lY.some_of {v:V}{o:Option Value}(r:lY (some v) o):∃u,o=some u/\RelV v u:=by
 cases o with
 |none=>exact fe r
 |some u=>exact⟨u,rfl,r⟩
def lY.none_of {o:Option Value}(r:lY none o):o=none:=by
 cases o with
 |none=>rfl
 |some u=>exact fe r
def Ht{v:V}{u:Value}(r:RelV v u):PySem.W.handedIn u=true:=by
 cases v with
 |cx=>cases(show u=Value.none from r);rfl
 |bl b=>cases(show u=Value.bool b from r);rfl
 |int i=>obtain⟨t,e⟩:=(show∃t,u=Value.int i t from r);cases e;rfl
 |str x=>obtain⟨t,e⟩:=(show∃t,u=Value.str x t from r);cases e;rfl
 |Pq b=>obtain⟨t,e⟩:=(show∃t,u=Value.bytes b t from r);cases e;rfl
 |D3 b=>obtain⟨t,e⟩:=(show∃t,u=Value.float b t from r);cases e;rfl
 |ref a=>cases(show u=Value.ref a from r);rfl
 |ty n=>cases(show u=Value.type n from r);rfl
section
variable {h':Heap}{dx:Addr}{fs fs':List (Str×V)}
def tU(cU:rV P w H aa)(e:H a=some (.ins au dx fs)):∃mA,Eh aa a dx au mA/\(∀f,lY (fs.lookup f) (mA f))/\PySem.Within mA (fs.map (·.1))/\fs.length<=1000/\H dx=some (.own a):=by
 obtain⟨d,z,ne,ob,mA,n,r,q⟩:=(show cV P w H aa a (.ins au dx fs)from cU a _ e);exact⟨mA,⟨ob,n,ne⟩,r,q,z,d⟩
end
structure Ei(K:Frag)(C:Addr):Prop where
 pg:PySem.W.plainGet K C Str.empty=true
 hd:PySem.W.hasDictIn K C=true
 po:PySem.W.plainOver K C=true
 sa:PySem.W.findIn K (.ref C) "__setattr__"=some (some (.builtin "object.__setattr__"))
def Ei.get {C:Addr}(c:Ei K C)(f:Str):PySem.W.plainGet K C f=true:=c.pg
def rW(K:Frag)(C:Addr)(f:Str):Prop:=PySem.W.findIn K (.ref C) f=some none
def rW.Vx {C:Addr}{f:Str}(n:rW K C f):PySem.W.takerIn K C f=some none:=by
 unfold PySem.W.takerIn;rw[show PySem.W.findIn K (.ref C) f=some none from n]
 rfl
structure Meth(K:Frag)(C:Addr)(m:Str)(f:Addr):Prop where
 at_:PySem.W.findIn K (.ref C) m=some (some (.ref f))
 fn:PySem.W.isFn K (.ref f)=true
 kp:PySem.W.keepIn K (.ref f)=true
section
variable {C:Addr}{fs:List (Str×V)}{f:Str}{v:V}
def Ej{b:Bool}(I:Inv X U Z H s)(e:H a=some (.ins C au fs))(c:Ei X.K C)(n:rW X.K C f)(l:fs.lookup f=some v)
  (h:∀u s',Inv X U Z H s'->RelV v u->Q u s'):wpAny (model X.prog X.w) A (getAttr (.ref a) f b) Q E s:=by
 obtain⟨mA,O,r,_,_,_⟩:=tU I.cU e;obtain⟨u,L,g⟩:=lY.some_of (v:=v) (o:=mA f) (by rw[<-l];exact r f);exact get_map I.lZ O (c.get f) c.hd n L (Ht g) (h u _ (I.tok _) g)
def xt{g:Addr}{pl:Sem Bool}{Q:Value×List Value->Shared->Prop}(I:Inv X U Z H s)(e:H a=some (.ins C au fs))(c:Ei X.K C)(k:Meth X.K C x g)(l:fs.lookup x=none)
  (h:Q (.ref g,[.ref a]) s):wpAny (model X.prog X.w) A (getMethod (.ref a) x pl) Q E s:=by
 obtain⟨mA,O,r,_,_,_⟩:=tU I.cU e;have b:mA x=none:=lY.none_of (by rw[<-l];exact r x);exact JG I.lZ O (c.get x) k.at_ k.fn b h
def Ek{y:V}(I:Inv X U Z H s)(e:H a=some (.ins C au fs))(c:Ei X.K C)(n:rW X.K C f)(hl:fs.length<1000)(ry:RelV y af)
  (h:∀s',Inv X U Z (upd H a (.ins C au (mM f y fs))) s'->ae () s'):wpAny (model X.prog X.w) A (setAttr (.ref a) f af) ae E s:=by
 obtain⟨mA,O,r,L,_,M⟩:=tU I.cU e;have hz:(fs.map (·.1)).length<=sizeLine:=by rw[bt,dQ];omega
 refine M' I.lZ O c.sa c.po n.Vx c.hd L hz λh' l S=>h _ ?_
 have hd:∃o,h'.get? au=some o:=let⟨o,_,_,e',_⟩:=l.ns;⟨o,e'⟩
 refine I.write (x:=a) (e:=au) (by rw[e];exact True.intro) (.inr M) (λb q hb z=>(S.2 b hb).trans z) hd ?_
 refine⟨by rw[bh O.ne];exact M,?_,O.ne,l.obj,_,l.ns,λg=>?_,λg hg=>?_⟩
 ·have:=vj f y fs;omega
 ·show lY ((mM f y fs).lookup g) (if g=f then some af else mA g);rw[vi];by_cases q:g=f
  ·rw[aV q,aV q];exact ry
  ·rw[bb q,bb q];exact r g
 ·by_cases q:g=f
  ·rw[q];exact(uT f y fs).1
  ·refine(uT f y fs).2 g (L g λz=>hg ?_);show(if g=f then some af else mA g)=none;rw[bb q];exact z
theorem Inv.made (I:Inv X U Z H s):Inv X U Z (upd (upd H s.heap.objs.size (.own (s.heap.objs.size+1))) (s.heap.objs.size+1) (.ins C s.heap.objs.size []))
  {s with heap:=(s.heap.push PySem.W.emptyDict).push (PySem.W.instObj C s.heap.objs.size)}:=by
 have g:(s.heap.push PySem.W.emptyDict).get? s.heap.objs.size=some PySem.W.emptyDict:=cp s.heap rfl;have l:((s.heap.push PySem.W.emptyDict).push (PySem.W.instObj C s.heap.objs.size)).get? (s.heap.objs.size+1)=some (PySem.W.instObj C s.heap.objs.size):=by
  have:=cp (s.heap.push PySem.W.emptyDict) (o:=PySem.W.instObj C s.heap.objs.size) rfl;rwa[jv]at this
 have n:(s.heap.push PySem.W.emptyDict).Ns s.heap.objs.size (λ_=>none):=⟨PySem.W.emptyDict,#[],_,g,rfl,(λe he=>absurd he (by simp)),λ_=>rfl⟩;have r:=I.laid (a:=s.heap.objs.size) (o:=.own (s.heap.objs.size+1)) (h':=s.heap.push PySem.W.emptyDict) (t':=s.toks) (λb u q=>bP _ q) (bz _) ⟨_,g⟩;refine r.laid (a:=s.heap.objs.size+1) (o:=.ins C s.heap.objs.size []) (t':=s.toks) (λb u q=>bP _ q) (Nat.le_of_eq (jv _ _)) ?_
 have ne:s.heap.objs.size≠s.heap.objs.size+1:=bY (o4 _);refine⟨by rw[bh ne,bK],d5 _,ne,l,λ_=>none,(Heap.Ns1.of_empty n).at λo q=>bP _ q,λ_=>True.intro,λy L=>absurd rfl L⟩
def FJ{env:Env}(hb:attributeBase e f env (eval e env)=eval e env)
  (h:wpAny (model P w) A (eval e env) (λo q=>wpAny (model P w) A (getAttr o f true) Q E q) E s):wpAny (model P w) A (eval (.Attribute e f pos) env) Q E s:=
 Attribute_any_ h (by rw[arm_eval_Attribute,hb])
end
def Z9(K:Frag)(ta:TE)(f:Str):TE:=λZ H Q=>ta Z H λx H1=>∃a C dx fs v,x=.ref a/\H1 a=some (.ins C dx fs)/\Ei K C/\rW K C f/\fs.lookup f=some v/\Q v H1
def Z_(K:Frag)(ta tv:TE)(f:Str):TS:=λD Z H=>tv Z H λy H1=>ta Z H1 λx H2=>∃a C dx fs,x=.ref a/\H2 a=some (.ins C dx fs)/\Ei K C/\rW K C f/\fs.length<1000/\
 D.nx Z (upd H2 a (.ins C dx (mM f y fs)))
section
variable {f:Str}{ta tv:TE}
theorem JI(he:PE X e ta)(hb:attributeBase e f X.env (eval e X.env)=eval e X.env):PE X (.Attribute e f pos) (Z9 X.K ta f):=by
 intro U s Z H Q I h;refine FJ hb (eC (he U s Z H _ I h) λu s1 ⟨x,H1,b,g,a,C,dx,fs,v,ex,r,c,n,l,q⟩=>?_);subst ex;obtain rfl:u=Value.ref a:=g;exact Ej b r c n l λu' s2 L M=>⟨v,H1,L,M,q⟩
theorem Rg(ha:PE X o ta)(hv:PE X tg tv)(hs:swapsWith tg (some (.Attribute o f p)) pos.line X.env=pure false):PS X (.Assign [.Attribute o f p] tg pos) (Z_ X.K ta tv f):=by
 intro U s Z H D I h;refine plainObj_wpAny_Assign_Attribute (eC (hv U s Z H _ I h) λu s1 ⟨y,H1,b,g,q⟩=>eC (ha U s1 Z H1 _ b q) λr s2 ⟨x,H2,L,M,a,C,dx,fs,ex,S,c,n,l,q2⟩=>?_) hs;subst ex;obtain rfl:r=Value.ref a:=M;exact Ek L S c n l g λs3 I3=>⟨Z,_,I3,q2⟩
end
section
variable {b:Bool}
inductive tV(K:Frag)(H:Hp):V->Value->Prop where
 |cx:tV K H .cx (.type "NoneType")
 |bl (x:Bool):tV K H (.bl x) (.type "bool")
 |int (i:Int):tV K H (.int i) (.type "int")
 |str (x:Str):tV K H (.str x) (.type "str")
 |D3 (x:UInt64):tV K H (.D3 x) (.type "float")
 |lst {a:Addr} {xs:List V} (e:H a=some (.lst xs)):tV K H (.ref a) (.type "list")
 |lB {a:Addr} {o:Obj} {xs:List V} (e:H a=some (.lB o (.lst xs))):tV K H (.ref a) (.type "list")
 |tup {a:Addr} {xs:List V} (e:H a=some (.tup xs)):tV K H (.ref a) (.type "tuple")
 |dK {a:Addr} {kvs:List (Key×V)} (e:H a=some (.dK kvs)):tV K H (.ref a) (.type "dict")
 |dT {a:Addr} {kvs:List (List Key×V)} (e:H a=some (.dT kvs)):tV K H (.ref a) (.type "dict")
 |ins {a C dx:Addr} {fs:List (Str×V)} (e:H a=some (.ins C dx fs)) (cl:Ei K C) (ha:PySem.W.findIn K (.ref C) "__class__"=some (some (.builtin "object.__class__")))
   (hn:PySem.W.specialIn K (.builtin "object.__class__") "__get__"=some (some (.builtin "getset_descriptor.__get__"))) (htk:PySem.W.takesIn K (.builtin "object.__class__")=some true)
   (hm:PySem.W.mroIn K C (.type "object")=some true):tV K H (.ref a) (.ref C)
def mO{x:V}{u t:Value}(I:Inv X U Z H s)(rx:RelV x u)(ty:tV X.K H x t)(e:PySem.W.kitOne X.K t af=some b)(h:∀tk,Q (.bool b) {s with toks:=tk}):
  wpAny (model X.prog X.w) A (call (.builtin "isinstance") [u,af]) Q E s:=by
 cases ty with
 |cx=>cases(show u=Value.none from rx);exact fc PySem.W.kitx_none I.lZ True.intro e (λz=>nomatch z) h
 |bl y=>cases(show u=Value.bool y from rx);exact fc PySem.W.kitx_bool I.lZ True.intro e (λz=>nomatch z) h
 |int i=>obtain⟨t,q⟩:=(show∃t,u=Value.int i t from rx);cases q;exact fc PySem.W.kitx_int I.lZ True.intro e (λz=>nomatch z) h
 |str y=>obtain⟨t,q⟩:=(show∃t,u=Value.str y t from rx);cases q;exact fc PySem.W.kitx_str I.lZ True.intro e (λz=>nomatch z) h
 |D3 y=>obtain⟨t,q⟩:=(show∃t,u=Value.float y t from rx);cases q;exact fc PySem.W.kitx_float I.lZ True.intro e (λz=>nomatch z) h
 |@lst a xs g=>
  cases(show u=Value.ref a from rx);obtain⟨_,_,n,_,h1⟩:=(show cV X.prog X.w H s.heap a (.lst xs)from I.cU a _ g);exact fc wU I.lZ ⟨_,h1,rfl⟩ e (λz=>nomatch z) h
 |@lB a r xs g=>
  cases(show u=Value.ref a from rx);obtain⟨_,_,_,n,_,h1⟩:=(show cV X.prog X.w H s.heap a (.lB r (.lst xs))from I.cU a _ g);exact fc wU I.lZ ⟨_,h1,rfl⟩ e (λz=>nomatch z) h
 |@tup a xs g=>
  cases(show u=Value.ref a from rx);obtain⟨_,_,_,p⟩:=(show cV X.prog X.w H s.heap a (.tup xs)from I.cU a _ g);obtain⟨o,h1,h2,_⟩:=p;exact fc PySem.W.kitx_tuple I.lZ ⟨o,h1,h2⟩ e (λz=>nomatch z) h
 |@dK a kvs g=>
  cases(show u=Value.ref a from rx);obtain⟨_,_,vs,_,p⟩:=(show cV X.prog X.w H s.heap a (.dK kvs)from I.cU a _ g);obtain⟨o,es,ep,h1,h2,_⟩:=p;exact fc sQ I.lZ ⟨o,h1,h2.1⟩ e (λz=>nomatch z) h
 |@dT a kvs g=>
  cases(show u=Value.ref a from rx);obtain⟨_,_,xs,_,o,es,ep,h1,h2,_⟩:=(show cV X.prog X.w H s.heap a (.dT kvs)from I.cU a _ g);exact fc sQ I.lZ ⟨o,h1,h2.1⟩ e (λz=>nomatch z) h
 |@ins a C dx fs g cl L M l hm=>
  cases(show u=Value.ref a from rx);obtain⟨mA,O,_⟩:=tU I.cU g;obtain⟨S,J,_⟩:=O.look;exact fc (PySem.W.kitx_own (cl.get _) cl.hd L M l hm) I.lZ J e (λz=>nomatch z) h
end
structure dc(k:Nat)(A:Around):Prop where
 hd:A.handled=none
 dp:A.depth+3*k+5<recursionLimit
 un:A.units+16*k+200<cLine
def dc.mono {j k:Nat}(r:dc k A)(h:j<=k):dc j A:=⟨r.hd,by have:=r.dp;omega,by have:=r.un;omega⟩
theorem dc.deeper {k:Nat}(r:dc (k+1) A)(env:Env):dc k (A.deeper env):=
 ⟨r.hd,by have:=r.dp;show A.depth+1+3*k+5<_;omega,by have:=r.un;show A.units+3+16*k+200<_;omega⟩
theorem dc.in1 {k:Nat}(r:dc (k+1) A):dc k A.in1:=
 ⟨r.hd,by have:=r.dp;show A.depth+3*k+5<_;omega,by have:=r.un;show A.units+1+16*k+200<_;omega⟩
theorem El{kw:List (Str×Value)}:(A.under (.builtin "type.__call__" ⟨.ref a::aq,kw⟩)).depth=A.depth+1:=by
 first|rfl|simp[Around.under,Code.weight,Code.isCreation,Code.isGuard,Code.isCaller,Code.frames,Code.isFrame,guardIds]
theorem Em{kw:List (Str×Value)}:(A.under (.builtin "type.__call__" ⟨.ref a::aq,kw⟩)).units=A.units+1:=by
 first|rfl|simp[Around.under,Code.cUnits,Code.frames,Code.isFrame]
def dc.make {k:Nat}(r:dc (k+1) A)(C:Addr)(us:List Value)(kw:List (Str×Value)):dc k (A.under (.builtin "type.__call__" ⟨.ref C::us,kw⟩)):=
 ⟨r.hd,by have:=r.dp;rw[El];omega,by have:=r.un;rw[Em];omega⟩
theorem dc.depth {k:Nat}(r:dc k A):A.depth<recursionLimit:=by have:=r.dp;omega
theorem dc.units {k:Nat}(r:dc k A):A.units+64<cLine:=by have:=r.un;omega
def Rh:TA:=λ_ H Q=>Q [] H
def Vy(ta:TE)(q:TA):TA:=λZ H Q=>ta Z H λx H1=>q Z H1 λxs H2=>Q (x::xs) H2
section
variable {te:TE}{t:TA}
def rX:PA X [] Rh:=λ_ _ _ _ H Q I h=>o9 ⟨[],H,I,.nil,h⟩
theorem lM(q:PE X e te)(hr:PA X es t)(hs:starEach (e::es) X.env=(false,eval e X.env)::starEach es X.env:=by rfl):PA X (e::es) (Vy te t):=by
 intro pos U s Z H Q I h;rw[hs];show wpAny _ _ (spliced ((false,eval e X.env)::backTo pos (starEach es X.env))) _ _ s;refine kF (eC (q U s Z H _ I h) λu s1 ⟨x,H1,b,r1,g⟩=>?_);exact eC (hr pos U s1 Z H1 _ b g) λus s2 ⟨xs,H2,l,r2,n⟩=>⟨x::xs,H2,l,.cons r1 r2,n⟩
def Z'(t:TA):TE:=λZ H Q=>t Z H λxs H1=>xs.length<=sizeLine/\∀p,H1 p=none->Q (.ref p) (upd H1 p (.tup xs))
def aaa(t:TA):TE:=λZ H Q=>t Z H λxs H1=>xs.length<=sizeLine/\∀p,H1 p=none->Q (.ref p) (upd H1 p (.lst xs))
theorem Ri{x1}(h:PA X es t):PE X (.Tuple es x1 pos) (Z' t):=by
 intro U s Z H Q I l;refine wpAny_Tuple_spliced (eC (h pos U s Z H _ I l) λus s1 ⟨xs,H1,g,r,z,q⟩=>⟨by rw[<-r.length];exact z,?_⟩);have hf:H1 s1.heap.objs.size=none:=g.cU.fresh (bz _);refine⟨.ref s1.heap.objs.size,upd H1 s1.heap.objs.size (.tup xs),g.laid (t':=s1.toks) (λb u e=>bP _ e) (bz _) ?_,rfl,q _ hf⟩;exact⟨z,us,r,⟨_,cp _ rfl,rfl,_,rfl⟩⟩
theorem JJ(h:PA X es t):PE X (.List es pos) (aaa t):=by
 intro U s Z H Q I l;refine wpAny_List_spliced (eC (h pos U s Z H _ I l) λus s1 ⟨xs,H1,g,r,z,q⟩=>⟨by rw[<-r.length];exact z,?_⟩);have hf:H1 s1.heap.objs.size=none:=g.cU.fresh (bz _);refine⟨.ref s1.heap.objs.size,upd H1 s1.heap.objs.size (.lst xs),g.laid (t':=s1.toks) (λb u e=>bP _ e) (bz _) ?_,rfl,q _ hf⟩;exact⟨z,us,0,r,cp _ rfl⟩
end
abbrev Sp:=List V->Hp->VK->XK->Prop
abbrev Ce:=List Env->Hp->Shared->XK->Value->Shared->Prop
structure y9(P:Program)(w:World)(K:Frag)(mg:Str->Option Value)(base:Heap)(A:Around)(outer:List Env)(s:Shared)(H:Hp):Prop where
 frames:A.frames=some outer
 mod:Mod K mg base
 bs:∀b o,base.get? b=some o->s.heap.get? b=some o/\H b=none
 Hk:base.objs.size<=s.heap.objs.size
 rh:s.heap.FunFrames base outer
 Jp:∀b∈jV outer,H b=none
 cU:rV P w H s.heap
 bare:AllBare s.gens
def CE(outer:List Env)(P:Program)(w:World)(H:Hp)(s:Shared)(Q:VK)(u:Value)(s':Shared):Prop:=
 ∃v H',s'.os=s.os/\AllBare s'.gens/\Un (jV outer) [] H H' s.heap s'.heap/\rV P w H' s'.heap/\RelV v u/\Q v H'
def CR(CX:Ce)(outer:List Env)(P:Program)(w:World)(H:Hp)(s:Shared)(Q:VK)(E:XK)(r:Result)(s':Shared):Prop:=
 match r with
 |.ok (.ret u)=>CE outer P w H s Q u s'
 |.ok _=>False
 |.error e=>CX outer H s E e s'
structure d_(P:Program)(w:World)(K:Frag)(mg:Str->Option Value)(base:Heap)(CX:Ce)(k:Nat)(f:Addr)(fd:FuncData)(ps:List Str)(sp:Sp):Prop where
 len:∀vs H Q E,sp vs H Q E->vs.length=ps.length
 run:∀(A:Around) (outer:List Env) (s:Shared) (H:Hp) (args:Args) (us:List Value) (vs:List V) (Q:VK) (E:XK),dc k A->y9 P w K mg base A outer s H->BindsTo s fd args (ps.zip us)->Vals vs us->sp vs H Q E->
  codeAny (model P w) A (.call (.ref f) args) (CR CX outer P w H s Q E) s
theorem d_.mono {base:Heap}{CX:Ce}{j k:Nat}{f:Addr}{fd:FuncData}{sp:Sp}(F:d_ P w K mg base CX j f fd ps sp)(h:j<=k):
  d_ P w K mg base CX k f fd ps sp:=⟨F.len,λA outer s H args us vs Q E b=>F.run A outer s H args us vs Q E (b.mono h)⟩
theorem y9.make {base:Heap}{outer:List Env}(e:y9 P w K mg base A outer s H)(C:Addr)(us:List Value)(kw:List (Str×Value)):
  y9 P w K mg base (A.under (.builtin "type.__call__" ⟨.ref C::us,kw⟩)) outer s H:=⟨by first|exact e.frames|(simpa[Around.under,Code.envs,Code.isFrame,pushEnvs]using e.frames),e.mod,e.bs,e.Hk,e.rh,e.Jp,e.cU,e.bare⟩
theorem y9.in1 {base:Heap}{outer:List Env}(e:y9 P w K mg base A outer s H):
  y9 P w K mg base A.in1 outer s H:=⟨e.frames,e.mod,e.bs,e.Hk,e.rh,e.Jp,e.cU,e.bare⟩
section
variable {s':Shared}
def Inv.Rj (I:Inv X U Z H s):y9 X.prog X.w X.K X.mg X.base X.A X.stack s H:=
 ⟨I.ok.frames,I.ok.mod,I.bs,cB I.ok.Hk I.sz,I.stack,I.v7,I.cU,I.bare⟩
theorem Inv.after {Q:VK}{u:Value}(I:Inv X U Z H s)(h:CE X.stack X.prog X.w H s Q u s'):EP X U Z Q u s':=by
 obtain⟨v,H',os,bare,un,cU,r,q⟩:=h;obtain⟨n,g,d,t,l⟩:=s';obtain rfl:l=s.os:=os;exact⟨v,H',I.call (h':=n) (g':=g) (d':=d) (t':=t) (ch:=[]) un cU bare (λb z=>absurd z (by simp)),r,q⟩
end
def PD(sp:Sp)(q:List V)(E:XK)(t:TA):TE:=λZ H Q=>t Z H λvs H1=>sp (vs++q) H1 Q E
def PH(C:Addr)(m:Str)(sp:Sp)(q:List V)(E:XK)(ta:TE)(t:TA):TE:=λZ H Q=>ta Z H λx H1=>∃a dx fs,x=.ref a/\H1 a=some (.ins C dx fs)/\fs.lookup m=none/\
 t Z H1 λvs H2=>sp (x::(vs++q)) H2 Q E
def PK(C:Addr)(sp:Sp)(q:List V)(E:XK)(t:TA):TE:=λZ H Q=>t Z H λvs H1=>∀x dx,H1 x=none->H1 dx=none->dx≠x->
 sp (.ref x::(vs++q)) (upd (upd H1 dx (.own x)) x (.ins C dx [])) (λv H2=>v=.cx/\Q (.ref x) H2) E
def Binds(K:Frag)(fd:FuncData)(ps:List Str)(ds:List Value):Prop:=
 ∀(s:Shared) (us:List Value),K.In s.heap->(us++ds).length=ps.length->BindsTo s fd ⟨us,[]⟩ (ps.zip (us++ds))
def Binds.all {fd:FuncData}(h:∀us:List Value,us.length=ps.length->bindArgs fd ⟨us,[]⟩=pure (ps.zip us)):Binds K fd ps []:=λs us _ b=>by
 rw[j9]at b⊢;exact .of_eq (h us b)
def Passes(CX:Ce)(X:Cx)(E:XK):Prop:=∀(U:List (Addr×Obj)) (Z:St) (H:Hp) (s:Shared) (e:Value) (s':Shared),Inv X U Z H s->CX X.stack H s E e s'->X.xe e s'
section
variable {CX:Ce}{k:Nat}{f C:Addr}{fd:FuncData}{sp:Sp}{E:XK}{ta:TE}{t:TA}
def En{Q:VK}{us:List Value}{vs:List V}(F:d_ X.prog X.w X.K X.mg X.base CX k f fd ps sp)(q:dc k X.A)(hb:Binds X.K fd ps aq)(hd:Vals ar aq)(hx:Passes CX X E)
  (I:Inv X U Z H s) (r:Vals vs us) (h:sp (vs++ar) H Q E):wpAny (model X.prog X.w) X.A (call (.ref f) us) (EP X U Z Q) X.xe s:=by
 have g:Vals (vs++ar) (us++aq):=r.append hd;have l:(us++aq).length=ps.length:=by rw[<-g.length];exact F.len _ _ _ _ h
 refine pC (iA (F.run X.A X.stack s H ⟨us,[]⟩ (us++aq) (vs++ar) Q E q I.Rj (hb s us I.lZ l) g h) λr s' b=>?_);cases r with
 |error e=>exact hx U Z H s e s' I b
 |ok fl=>
  cases fl with
  |ret u=>exact I.after b
  |_=>exact False.elim b
theorem FK(F:d_ X.prog X.w X.K X.mg X.base CX k f fd ps sp)(hr:dc k X.A)(hg:Gl X x)(hm:X.mg x=some (.ref f))(hk:PySem.W.keepIn X.K (.ref f)=true)(hb:Binds X.K fd ps aq)(hd:Vals ar aq)(hx:Passes CX X E)
  (ha:PA X (e::es) t) (fF:Db x:=by decide) (he:starEach (e::es) X.env=(false,eval e X.env)::starEach es X.env:=by rfl) (oF:(backTo pos (starEach es X.env)).any (·.1)=false:=by rfl):
  PE X (.Call (.Name x p) (e::es) [] pos) (PD sp ar E t):=by
 intro U s Z H Q I h;refine mB (qH I hg hm ?_ fF);refine wN (h₀:=X.base) I.ok.mod.Pu hk (eC (ha pos U s Z H _ I h) λus s1 ⟨vs,H1,b,r,q⟩=>⟨b.lZ,?_⟩) he oF;exact En F hr hb hd hx b r q
theorem FL{pl:Sem Bool}(he:PE X o ta)(c:Ei X.K C)(hm:Meth X.K C av f)(F:d_ X.prog X.w X.K X.mg X.base CX k f fd ps sp)(hr:dc k X.A)(hb:Binds X.K fd ps aq)(hd:Vals ar aq)(hx:Passes CX X E)(ha:PA X (e::es) t)
  (cD:starEach (e::es) X.env=(false,eval e X.env)::starEach es X.env:=by rfl) (oF:(backTo pos (starEach es X.env)).any (·.1)=false:=by rfl)
  (ht:eval (.Call (.Attribute o av b8) (e::es) [] pos) X.env=tK pos b8 o av (e::es) X.env pl:=by rfl):
  PE X (.Call (.Attribute o av b8) (e::es) [] pos) (PH C av sp ar E ta t):=by
 intro U s Z H Q I h;refine PySem.W.methodCall_KW (pl:=pl) (eC (he U s Z H _ I h) λu s1 ⟨x,H1,b,n,a,dx,fs,ex,L,l,q⟩=>?_) ht;subst ex;obtain rfl:u=Value.ref a:=n;refine xt b L c hm l ?_
 refine wN (first:=[.ref a]) (h₀:=X.base) I.ok.mod.Pu hm.kp (eC (ha pos U s1 Z H1 _ b q) λus s2 ⟨vs,H2,g,r,M⟩=>⟨g.lZ,?_⟩) cD oF;exact En (us:=.ref a::us) (vs:=.ref a::vs) F hr hb hd hx g (.cons rfl r) M
theorem Cf{pl:Sem Bool}(he:PE X o ta)(c:Ei X.K C)(hm:Meth X.K C av f)(F:d_ X.prog X.w X.K X.mg X.base CX k f fd ps sp)(hr:dc k X.A)(hb:Binds X.K fd ps aq)(hd:Vals ar aq)(hx:Passes CX X E)
  (ht:eval (.Call (.Attribute o av b8) [] [] pos) X.env=tK pos b8 o av [] X.env pl:=by rfl):
  PE X (.Call (.Attribute o av b8) [] [] pos) (PH C av sp ar E ta Rh):=by
 intro U s Z H Q I h;refine PySem.W.methodCall_KW (pl:=pl) (eC (he U s Z H _ I h) λu s1 ⟨x,H1,b,g,a,dx,fs,ex,n,l,q⟩=>?_) ht;subst ex;obtain rfl:u=Value.ref a:=g;refine xt b n c hm l ?_
 exact PySem.W.callWith_K0 (first:=[.ref a]) b.lZ hm.kp (En (us:=[.ref a]) (vs:=[.ref a]) F hr hb hd hx b (.cons rfl .nil) q)
structure Mk(K:Frag)(C f:Addr):Prop where
 makes:PySem.W.makesIn K C=true
 init:PySem.W.findIn K (.ref C) "__init__"=some (some (.ref f))
 fn:PySem.W.isFn K (.ref f)=true
 kp:PySem.W.keepIn K (.ref C)=true
def Cg{Q:VK}{us:List Value}{vs:List V}(M:Mk X.K C f)(F:d_ X.prog X.w X.K X.mg X.base CX k f fd ps sp)(q:dc (k+1) X.A)(hb:Binds X.K fd ps aq)(hd:Vals ar aq)
  (hx:Passes CX X E) (I:Inv X U Z H s) (r:Vals vs us)
  (h:∀x dx,H x=none->H dx=none->dx≠x->sp (.ref x::(vs++ar)) (upd (upd H dx (.own x)) x (.ins C dx [])) (λv H2=>v=.cx/\Q (.ref x) H2) E):
  wpAny (model X.prog X.w) X.A (call (.ref C) us) (EP X U Z Q) X.xe s:=by
 have l:=h (s.heap.objs.size+1) s.heap.objs.size (I.cU.fresh (pA _)) (I.cU.fresh (bz _)) (bY (o4 _));have b:=Inv.made (C:=C) I;have n:Vals (V.ref (s.heap.objs.size+1)::(vs++ar)) (Value.ref (s.heap.objs.size+1)::(us++aq)):=.cons rfl (r.append hd);have L:(Value.ref (s.heap.objs.size+1)::us++aq).length=ps.length:=by
  have e:=n.length;rw[F.len _ _ _ _ l]at e;exact e.symm
 refine pC (JH (f:=f) I.lZ M.makes M.init (ff.mp M.fn) (iA (F.run _ X.stack _ _ ⟨Value.ref (s.heap.objs.size+1)::us,[]⟩ (Value.ref (s.heap.objs.size+1)::(us++aq)) _ _ E (q.make C us [])
  (b.Rj.make C us []) (hb _ (Value.ref (s.heap.objs.size+1)::us) b.lZ L) n l) λr s' g=>?_))
 cases r with
 |error e=>exact hx U Z _ _ e s' b g
 |ok fl=>
  cases fl with
  |ret u=>
   obtain⟨v,H',S,rv,ev,q3⟩:=b.after g;subst ev;exact⟨rv,⟨V.ref (s.heap.objs.size+1),H',S,rfl,q3⟩⟩
  |_=>exact False.elim g
theorem Na(M:Mk X.K C f)(F:d_ X.prog X.w X.K X.mg X.base CX k f fd ps sp)(hr:dc (k+1) X.A)(hg:Gl X x)(hm:X.mg x=some (.ref C))(hb:Binds X.K fd ps aq)(hd:Vals ar aq)(hx:Passes CX X E)
  (ha:PA X (e::es) t) (fF:Db x:=by decide) (he:starEach (e::es) X.env=(false,eval e X.env)::starEach es X.env:=by rfl) (oF:(backTo pos (starEach es X.env)).any (·.1)=false:=by rfl):
  PE X (.Call (.Name x p) (e::es) [] pos) (PK C sp ar E t):=by
 intro U s Z H Q I h;refine mB (qH I hg hm ?_ fF);refine wN (h₀:=X.base) I.ok.mod.Pu M.kp (eC (ha pos U s Z H _ I h) λus s1 ⟨vs,H1,b,r,q⟩=>⟨b.lZ,?_⟩) he oF;exact Cg M F hr hb hd hx b r q
theorem JK(M:Mk X.K C f)(F:d_ X.prog X.w X.K X.mg X.base CX k f fd ps sp)(q:dc (k+1) X.A)(hg:Gl X x)(hm:X.mg x=some (.ref C))(hb:Binds X.K fd ps aq)(hd:Vals ar aq)(hx:Passes CX X E)
  (fF:Db x:=by decide):PE X (.Call (.Name x p) [] [] pos) (PK C sp ar E Rh):=by
 intro U s Z H Q I h;refine mB (qH I hg hm ?_ fF);exact PySem.W.callWith_K0 I.lZ M.kp (Cg (us:=[]) M F q hb hd hx I .nil h)
end
structure g6(N P:List Str)(sc:Scope):Prop where
 kind:sc.kind=.function
 co:sc.isCoroutine=false
 gen:sc.isGenerator=false
 nd:N.Nodup
 pre:N.take P.length=P
 par:∀x∈P,sc.names.lookup x=some .local\/sc.names.lookup x=some .cell
 Rk:∀y∈sc.names,y.2≠ .free
theorem zz{kindOf:Str->Option NameKind}:∀{binds:List (Str×Value)} {m:Str->Option Value},(∀v,(x,v)∉binds)->bindL kindOf binds m x=m x
 |[],_,_=>rfl
 |(n,v)::r,m,h=>by
  unfold bindL;rw[zz λw hw=>h w (ck _ hw)];split
  ·have:x≠n:=by rintro rfl;exact h v cz
   simp[this]
  ·rfl
theorem zA{kindOf:Str->Option NameKind}:∀{binds:List (Str×Value)} {m:Str->Option Value},(∀v,(x,v)∉binds)->bindC kindOf binds m x=m x
 |[],_,_=>rfl
 |(n,v)::r,m,h=>by
  unfold bindC;rw[zA λw hw=>h w (ck _ hw)];split
  ·rfl
  ·have:x≠n:=by rintro rfl;exact h v cz
   simp[this]
theorem zB{kindOf:Str->Option NameKind}{v:Value}:∀{P:List Str} {vs:List Value} {i:Nat} {m:Str->Option Value},P.Nodup->P[i]?=some x->vs[i]?=some v->kindOf x=some .local->
  bindL kindOf (P.zip vs) m x=some v
 |[],_,_,_,_,h,_,_=>by simp at h
 |_::_,[],_,_,_,_,h,_=>by simp at h
 |p::P,w::vs,0,m,nd,h1,h2,b=>by
  simp at h1 h2;subst h1;subst h2;show bindL kindOf ((p,w)::P.zip vs) m p=_;unfold bindL;rw[zz λv g=>(gY.mp nd).1 (sU g).1,aV b];simp
 |p::P,w::vs,i+1,m,nd,h1,h2,b=>by
  show bindL kindOf ((p,w)::P.zip vs) m x=_;unfold bindL;exact zB (i:=i) (gY.mp nd).2 (by simpa using h1) (by simpa using h2) b
theorem zC{kindOf:Str->Option NameKind}{v:Value}:∀{P:List Str} {vs:List Value} {i:Nat} {m:Str->Option Value},P.Nodup->P[i]?=some x->vs[i]?=some v->kindOf x≠some .local->
  bindC kindOf (P.zip vs) m x=some v
 |[],_,_,_,_,h,_,_=>by simp at h
 |_::_,[],_,_,_,_,h,_=>by simp at h
 |p::P,w::vs,0,m,nd,h1,h2,b=>by
  simp at h1 h2;subst h1;subst h2;show bindC kindOf ((p,w)::P.zip vs) m p=_;unfold bindC;rw[zA λv g=>(gY.mp nd).1 (sU g).1,bb b];simp
 |p::P,w::vs,i+1,m,nd,h1,h2,b=>by
  show bindC kindOf ((p,w)::P.zip vs) m x=_;unfold bindC;exact zC (i:=i) (gY.mp nd).2 (by simpa using h1) (by simpa using h2) b
noncomputable def start(N:List Str)(vs:List V):St:=vs.map some++List.replicate (N.length - vs.length) none
noncomputable def oG(CX:Ce)(P:Program)(w:World)(K:Frag)(mg:Str->Option Value)(base:Heap)(N:List Str)(qual:Str)(scope:Scope)(f:Addr)(cd:Value)(A:Around)(outer:List Env)(s:Shared)(H:Hp)(E:XK):Cx where
 prog:=P
 w:=w
 K:=K
 mg:=mg
 base:=base
 A:=A.deeper (envOfC qual scope s.heap.objs.size f cd)
 N:=N
 gj:=s
 Ca:=H
 env:=envOfC qual scope s.heap.objs.size f cd
 outer:=outer
 stack:=envOfC qual scope s.heap.objs.size f cd::outer
 ex:=[]
 calm:=true
 fn:=λ_=>true
 pn:=[]
 xe:=λe s'=>wpAny (model P w) (A.deeper (envOfC qual scope s.heap.objs.size f cd)) (leaving (envOfC qual scope s.heap.objs.size f cd) e) (λ_ b=>CX outer H s E e b) (λg b=>CX outer H s E g b) s'
def Ci{n:Nat}(h:ax.names.lookup x=some .cell):∃c,(cellsFrom n ax.names []).lookup x=some c:=by
 have q:=PySem.W.cellsFrom_some ax.names n [] (.inl h);exact sE.mp q
theorem Hv{CX:Ce}{N:List Str}{outer:List Env}{s1:Shared}{E:XK}
  (S:g6 N ps ax) (hd:A.handled=none) (e0:y9 P w K mg aa A outer s H) (hl:ar.length=ps.length) (r:Vals ar aq)
  (x:InCallC s s.heap.objs.size (bindL (envOfC av ax s.heap.objs.size au af).kindOf (ps.zip aq) λ_=>none) (cellsFrom (s.heap.objs.size+1) ax.names []) (bindC (envOfC av ax s.heap.objs.size au af).kindOf (ps.zip aq) λ_=>none) s1):
  Inv (oG CX P w K mg aa N av ax au af A outer s H E) [] (start N ar) H s1:=by
 have oF:ps.length<=N.length:=by have:=cT List.length S.pre;rw[List.length_take]at this;omega
 obtain⟨I,tk,rfl,M⟩:=x.done;have L:∀b:Addr,b∉(oG CX P w K mg aa N av ax au af A outer s H E).ex:=λb z=>absurd (show b∈([]:List Addr)from z) (by simp);refine⟨⟨e0.mod,S.kind,rfl,rfl,bz _,λy z c I h2=>?_,λy g=>?_,λy c _ h=>?_,λ_=>hd,Around.frames_deeper e0.frames,.inr ⟨rfl,rfl⟩,λb z=>absurd z (L b),e0.bs,e0.Hk,λb _ _=>L b,λb z=>absurd z (L b),e0.rh,e0.Jp⟩,
  rfl,e0.bare,Un.kept M,⟨_,x.toInCall.ns,λi y v I h2 h3=>?_⟩,λy c h=>⟨_,x.cell y c h⟩,e0.cU.fresh (bz _),λy c h=>?_,λp hp=>absurd (show p∈([]:List (Addr×Obj))from hp) (by simp),e0.cU.kept M,?_⟩
 ·exact name_of_addr x.apart (lH I) (lH h2)
 ·have g:ax.names.lookup y=some .cell\/ax.names.lookup y=some .free:=g;rcases g with g|g
  ·exact Ci g
  ·exact absurd rfl (S.Rk _ (lH g))
 ·exact dB (x.above y c (lH h))
 ·have hi:i<ar.length:=by
   unfold start at h2;by_cases hi:i<ar.length
   ·exact hi
   ·rw[wD (by simpa using hi)]at h2;rw[sG]at h2;split at h2<;>cases h2
  have ha:ar[i]?=some v:=by
   unfold start at h2;rw[oM (by simpa using hi),b_]at h2;cases e:ar[i]? with
   |none=>rw[e]at h2;cases h2
   |some a=>rw[e]at h2;cases h2;rfl
  obtain⟨u,hu,rv⟩:=r.get ha;have hp:ps[i]?=some y:=by
   rw[<-S.pre,List.getElem?_take_of_lt (by omega)];exact I
  have l:ps.Nodup:=by rw[<-S.pre];exact S.nd.sublist (List.take_sublist _ _)
  refine⟨u,rv,?_⟩;rcases S.par y (dZ hp)with k|k
  ·exact .inl ⟨k,zB l hp hu k⟩
  ·obtain⟨c,e⟩:=Ci (n:=s.heap.objs.size+1) k;refine .inr ⟨.inl k,c,e,?_⟩;have q:=x.cell y c e;rw[zC l hp hu (by show ax.names.lookup y≠_;rw[k];decide)]at q;exact q
 ·exact e0.cU.fresh (dB (x.above y c (lH h)))
 ·unfold start;show _=N.length;rw[eO,bt,wL];omega
theorem PL{CX:Ce}{qual:Str}{params:Arguments}{kV doc pm fO ct oc:Value}{an od:Option Addr}
  {JL:Array (Option Value)} {N:List Str} {sp:Sp} (lk:K.lookup a=some ⟨oc,od,.func (PySem.W.fnOf av qual params ah ax af kV doc pm an fO ct),JL⟩) (D_:PySem.W.codeIn K fO qual=true) (S:g6 N ps ax)
  (len:∀vs H Q E,sp vs H Q E->vs.length=ps.length)
  (kQ:∀(A:Around) (outer:List Env) (s:Shared) (H:Hp) (vs:List V) (Q:VK) (E:XK),dc i (A.deeper (envOfC qual ax s.heap.objs.size a fO))->sp vs H Q E->
   ∃t,oK (oG CX P w K mg aa N qual ax a fO A outer s H E) ah t/\t {nx:=λ_ H'=>Q .cx H',rt:=Q} (start N vs) H):
  d_ P w K mg aa CX (i+1) a (PySem.W.fnOf av qual params ah ax af kV doc pm an fO ct) ps sp:=by
 refine⟨len,λA outer s H args us vs Q E l g hb r L=>?_⟩;have hl:=len _ _ _ _ L;have M:K.In s.heap:=g.mod.Pu.keeps λb o e=>(g.bs b o e).1;have lim:s.heap.NoLimit:=g.mod.nolimit.keeps λb o e=>(g.bs b o e).1;have VC:∀y∈ps.zip us,ax.names.lookup y.1=some .local\/(ax.names.lookup y.1=some .cell/\((cellsFrom (s.heap.objs.size+1) ax.names []).lookup y.1).isSome=true):=λ⟨n,v⟩ hy=>by
  rcases S.par n (sU hy).1 with q|q
  ·exact .inl q
  ·exact .inr ⟨q,PySem.W.cellsFrom_some _ _ _ (.inl q)⟩
 refine codeAny_call_function l.depth (M _ _ lk) rfl S.co S.gen rfl (PySem.W.codeRec_of M D_) (hb _ _ _ _ ?_);refine wpAny_newFunctionEnv_cells S.kind VC λenv he s1 x=>?_
 subst he;refine⟨lim.keeps x.toInCall.keep,codeAny_func ?_⟩;obtain⟨t,ht,hq⟩:=kQ A outer s H vs Q E (l.deeper _) L;have I:Inv (oG CX P w K mg aa N qual ax a fO A outer s H E) [] (start N vs) H s1:=Hv S l.hd g hl r x;refine d6 (ht [] s1 (start N vs) H _ I hq) (λfl s' hs=>?_) λe s' hs=>hs;have fin:∀{du:St} {H':Hp} {v:V} {u:Value},Inv (oG CX P w K mg aa N qual ax a fO A outer s H E) [] du H' s'->RelV v u->Q v H'->CE outer P w H s Q u s':=
  λ{du H' v u} J rv q=>⟨v,H',J.os,J.bare,J.base,J.cU,rv,q⟩
 cases fl with
 |ret u=>
  obtain⟨v,du,H',J,rv,q⟩:=hs;exact fin J rv q
 |next=>
  obtain⟨du,H',J,q⟩:=hs;exact fin (v:=V.cx) (u:=Value.none) J rfl q
 |brk=>
  obtain⟨_,_,_,q⟩:=hs;exact False.elim q
 |cont=>
  obtain⟨_,_,_,q⟩:=hs;exact False.elim q
section
variable {t:TA}{T:String}{r:List V->Hp->VK->Prop}
def tCB(r:List V->Hp->VK->Prop)(t:TA):TE:=λZ H Q=>t Z H λvs H1=>r vs H1 Q
theorem pF(q:gC X (.builtin ay) r)(hg:Gl X x)(hm:X.mg x=none)(hv:bootBuiltins x=some (.builtin ay))(ha:PA X (e::es) t)(hn:x≠"__name__":=by decide) (fF:Db x:=by decide)
  (he:starEach (e::es) X.env=(false,eval e X.env)::starEach es X.env:=by rfl) (oF:(backTo pos (starEach es X.env)).any (·.1)=false:=by rfl):PE X (.Call (.Name x p) (e::es) [] pos) (tCB r t):=by
 intro U s Z H Q I h;refine mB (uQ I hg hm hv ?_ hn fF);exact PyProof.Rows.callWith_builtin1 (eC (ha pos U s Z H _ I h) λus s1 ⟨vs,H1,b,r1,g⟩=>q U s1 Z H1 vs us Q b r1 g) he oF
theorem uU(q:gC X (.type T) r)(hg:Gl X x)(hm:X.mg x=none)(hv:bootBuiltins x=some (.type T))(ha:PA X (e::es) t)(hn:x≠"__name__":=by decide) (fF:Db x:=by decide)
  (he:starEach (e::es) X.env=(false,eval e X.env)::starEach es X.env:=by rfl) (oF:(backTo pos (starEach es X.env)).any (·.1)=false:=by rfl):PE X (.Call (.Name x p) (e::es) [] pos) (tCB r t):=by
 intro U s Z H Q I h;refine mB (uQ I hg hm hv ?_ hn fF);exact wC (eC (ha pos U s Z H _ I h) λus s1 ⟨vs,H1,b,r1,g⟩=>q U s1 Z H1 vs us Q b r1 g) he oF
end
abbrev TO:=St->Hp->(Option Int->Hp->Prop)->Prop
def PO(X:Cx)(e:Option Expr)(t:TO):Prop:=
 ∀(U:List (Addr×Obj)) (s:Shared) (Z:St) (H:Hp) (Q:Option Int->Hp->Prop),Inv X U Z H s->t Z H Q->
  wpAny (model X.prog X.w) X.A (evalPart e X.env) (λu s'=>∃o H',Inv X U Z H' s'/\IsPart u o/\Q o H') X.xe s
def Nb:TO:=λ_ H Q=>Q none H
def VD(t:TE):TO:=λZ H Q=>t Z H λx H1=>∃i,x=.int i/\Q (some i) H1
section
variable {te:TE}{lo hi:Option Expr}{tl th:TO}{p2:Pos}
theorem Nc:PO X none Nb:=by
 intro U s Z H Q I h;rw[evalPart_none];exact bc ⟨none,H,I,.none,h⟩
theorem Nd(h:PE X e te):PO X (some e) (VD te):=by
 intro U s Z H Q I hw;rw[evalPart_some];refine eC (h U s Z H _ I hw) λu s1 ⟨x,H1,b,r1,g⟩=>?_
 obtain⟨i,rfl,q⟩:=g;obtain⟨t,rfl⟩:=r1;exact⟨some i,H1,b,.int i t,q⟩
def UJ(X:Cx)(r:V->Option Int->Option Int->Hp->VK->Prop):Prop:=
 ∀(U:List (Addr×Obj)) (s:Shared) (Z:St) (H:Hp) (x:V) (v b g:Value) (lo hi:Option Int) (sl:Addr) (Q:VK),Inv X U Z H s->RelV x v->s.heap.IsSliceOf sl b g .none->IsPart b lo->IsPart g hi->r x lo hi H Q->
  ∃T id,typeLookup (.type T) "__getitem__"=pure (some (.builtin id))/\s.TypeIs v T/\wpAny (model X.prog X.w) X.A (getItem v (.ref sl)) (EP X U Z Q) X.xe s
def tSl(r:V->Option Int->Option Int->Hp->VK->Prop)(te:TE)(tl th:TO):TE:=λZ H Q=>te Z H λx H1=>tl Z H1 λl H2=>th Z H2 λu b=>r x l u b Q
theorem JN{r:V->Option Int->Option Int->Hp->VK->Prop}(hr:UJ X r)(he:PE X e te)(hl:PO X lo tl)(hu:PO X hi th):PE X (.Subscript e (.Slice lo hi none p2) pos) (tSl r te tl th):=by
 intro U s Z H Q I h;refine Subscript_ (eC (he U s Z H _ I h) λv s1 ⟨x,H1,M,r1,S⟩=>?_);refine wpAny_Slice (eC (hl U s1 Z H1 _ M S) λg s2 ⟨l,H2,I2,pl,q2⟩=>eC (hu U s2 Z H2 _ I2 q2) λn s3 ⟨u,L,I3,pu,q3⟩=>?_);rw[evalPart_none];refine bc ?_
 have I4:Inv X U Z L {s3 with heap:=s3.heap.push {cls:=.type "slice",data:=.fields #[g,n,.none]}}:=I3.kept (t':=s3.toks) λb ob q=>bP _ q;obtain⟨T,id,hT,ht,hg⟩:=hr U {s3 with heap:=s3.heap.push {cls:=.type "slice",data:=.fields #[g,n,.none]}} Z L x v g n l u s3.heap.objs.size Q I4 r1 (Heap.IsSliceOf.new ..) pl pu q3;show wpAny (model X.prog X.w) X.A (subscriptTail e (.Slice lo hi none p2) v (.ref s3.heap.objs.size)) (EP X U Z Q) X.xe {s3 with heap:=s3.heap.push {cls:=.type "slice",data:=.fields #[g,n,.none]}};exact tail_any (ops:=[.ref s3.heap.objs.size,v]) ht hT hg (by with_unfolding_all rfl)
def Cj(xs:List V)(lo hi:Option Int):List V:=(xs.drop (HT.ir xs.length 0 lo)).take (HT.ir xs.length xs.length hi - HT.ir xs.length 0 lo)
def vk(xs:List V)(lo hi:Option Int):(Cj xs lo hi).length<=xs.length:=by
 unfold Cj;rw[List.length_take,List.length_drop];omega
def aac(K:Frag):V->Option Int->Option Int->Hp->VK->Prop:=λx lo hi H Q=>∃a xs,x=.ref a/\jl K H a xs/\
 ¬(HT.ir xs.length 0 lo=0/\HT.ir xs.length xs.length hi=xs.length)/\∀p,H p=none->Q (.ref p) (upd H p (.tup (Cj xs lo hi)))
theorem Rn:UJ X (aac X.K):=by
 intro U s Z H x v M S lo hi sl Q I n hs pl pu h;obtain⟨a,xs,rfl,L,hw,q⟩:=h;cases n;obtain⟨cn,r,l,hz⟩:=I.tuple L;have g:cn.toArray.size=xs.length:=by rw[cS];exact r.length.symm
 refine⟨"tuple",_,wF.lookup,l.typeIs,?_⟩;refine HT.tH l hs pl pu (by rw[g];exact hw) ?_ (by rw[g];exact hz)
 rw[g];refine⟨.ref s.heap.objs.size,_,I.laid (t':=s.toks) (o:=.tup (Cj xs lo hi)) (λb ob q=>bP _ q) (bz _) ?_,rfl,q _ (I.cU.fresh (bz _))⟩;exact⟨cB (vk xs lo hi) hz,_,(r.drop (HT.ir xs.length 0 lo)).take (HT.ir xs.length xs.length hi - HT.ir xs.length 0 lo),IsTup.new _ _⟩
def VE(K:Frag):R2:=λx y H Q=>∃a b xs ys,x=.ref a/\y=.ref b/\jl K H a xs/\jl K H b ys/\xs≠[]/\xs.length+ys.length<=sizeLine/\
 (ys=[]->Q (.ref a) H)/\(ys≠[]->∀p,H p=none->Q (.ref p) (upd H p (.tup (xs++ys))))
def Vals.AH {xs:List V}{us:List Value}(r:Vals xs us):us=[]↔xs=[]:=by
 cases r with
 |_=>simp
theorem Nf:uR X (binaryOp .Add) (VE X.K):=by
 intro U s Z H x y v u Q I g l h;obtain⟨a,b,xs,ys,rfl,rfl,ha,hb,n,hz,r,L⟩:=h;cases g;cases l;obtain⟨cn,r1,p1,_⟩:=I.tuple ha;obtain⟨M,r2,p2,_⟩:=I.tuple hb;refine HT.MR p1 p2 (λz=>n (r1.AH.mp z)) (λz=>⟨.ref a,H,I,rfl,r (r2.AH.mp z)⟩) (λz=>?_) (by rw[<-r1.length,<-r2.length];exact hz);refine⟨.ref s.heap.objs.size,_,I.laid (t':=s.toks) (o:=.tup (xs++ys)) (λb S q=>bP _ q) (bz _) ?_,rfl,L (λw=>z (r2.AH.mpr w)) _ (I.cU.fresh (bz _))⟩;exact⟨by rw[eO];exact hz,_,r1.append r2,IsTup.new _ _⟩
end
noncomputable def MK(n:Nat)(i:Int):Option Nat:=if 0<=i then(if i<n then some i.toNat else none)else if-(n:Int)<=i then some (i+n).toNat else none
def uV{α:Type}(xs:List α)(i:Int):Option α:=(MK xs.length i).bind λj=>xs[j]?
theorem Ng{n:Nat}{i:Int}{j:Nat}(h:MK n i=some j):seqIndex? i n=some j/\j<n/\-(n:Int)<=i/\i<n:=by
 unfold MK at h;by_cases h0:0<=i
 ·rw[aV h0]at h;by_cases h1:i<n
  ·rw[aV h1]at h;have e:i.toNat=j:=Option.some.inj h;exact⟨by rw[seqIndex_of h0 h1,e],by omega,by omega,h1⟩
  ·rw[bb h1]at h;cases h
 ·rw[bb h0]at h;by_cases h1:-(n:Int)<=i
  ·rw[aV h1]at h;have e:(i+n).toNat=j:=Option.some.inj h;exact⟨by rw[seqIndex_neg (by omega) h1,e],by omega,h1,by omega⟩
  ·rw[bb h1]at h;cases h
def AI{xs:List ag}{i:Int}{v:ag}(h:uV xs i=some v):∃j,seqIndex? i xs.length=some j/\xs[j]?=some v/\j<xs.length/\-(xs.length:Int)<=i/\i<xs.length:=by
 unfold uV at h;cases e:MK xs.length i with
 |none=>rw[e]at h;cases h
 |some j=>
  rw[e]at h;obtain⟨h1,h2,b,g⟩:=Ng e;exact⟨j,h1,h,h2,b,g⟩
def AJ{xs:List ag}{j:Nat}{v:ag}(h:xs[j]?=some v):uV xs (j:Int)=some v:=by
 have b:j<xs.length:=(gb.mp h).1;have e:MK xs.length (j:Int)=some j:=by
  unfold MK;rw[aV (by omega),aV (by omega)];simp
 unfold uV;rw[e];exact h
def tW(b:Expr):Prop:=∀o i,subscripted b false o i=operate [o,i] (getItem o i)
def VF(X:Cx)(r:R2):Prop:=
 ∀(value slice:Expr) (U:List (Addr×Obj)) (s:Shared) (Z:St) (H:Hp) (x y:V) (v u:Value) (Q:VK),Inv X U Z H s->RelV x v->RelV y u->r x y H Q->
  subscripted slice false v u=operate [v,u] (getItem v u)->wpAny (model X.prog X.w) X.A (subscriptTail value slice v u) (EP X U Z Q) X.xe s
def Ro(X:Cx)(id:String)(r:V->List V->Hp->VK->Prop):Prop:=
 ∀(U:List (Addr×Obj)) (s:Shared) (Z:St) (H:Hp) (x:V) (xs:List V) (v:Value) (us:List Value) (Q:VK),Inv X U Z H s->RelV x v->Vals xs us->r x xs H Q->
  wpAny (model X.prog X.w) X.A (call (.builtin id) (v::us)) (EP X U Z Q) X.xe s
section
variable {ta tb:TE}
theorem PM{r:R2}(hr:VF X r)(ha:PE X tg ta)(hb:PE X am tb)(hs:tW am):PE X (.Subscript tg am pos) (Q6 r ta tb):=by
 intro U s Z H Q I h;exact Subscript_ (Q8 ha hb I h λv u s2 x y H2 b g l q=>hr tg am U s2 Z H2 x y v u Q b g l q (hs _ _))
def aad(K:Frag):R2:=λx y H Q=>∃p xs i v,x=.ref p/\y=.int i/\lL K H p xs/\uV xs i=some v/\Q v H
def aae(K:Frag):R2:=λx y H Q=>∃p xs i v,x=.ref p/\y=.int i/\jl K H p xs/\uV xs i=some v/\Q v H
def aaf:R2:=λx y H Q=>∃z i c,x=.str z/\y=.int i/\z.length<=sizeLine/\uV z.cps.toList i=some c/\Q (.str ⟨#[c]⟩) H
theorem FN:VF X (aad X.K):=by
 intro value slice U s Z H x y v u Q I l n h hs;obtain⟨p,xs,i,z,rfl,rfl,L,he,q⟩:=h;cases l;obtain⟨t,rfl⟩:=n;obtain⟨cn,r,pl,hz⟩:=I.list L;obtain⟨j,h1,h2,h3,M,S⟩:=AI he;obtain⟨w,g,pG⟩:=r.get h2;have hl:=r.length;have hn:=xr;have fin:EP X U Z Q w s:=⟨z,H,I,pG,q⟩;by_cases h0:0<=i
 ·have b:i.toNat=j:=by
   rw[seqIndex_of h0 S]at h1;exact Option.some.inj h1
  exact item_listR pl.isList h0 (by omega) (by rw[b];simpa using g) fin hs
 ·have b:(i+(cn.toArray.size:Int)).toNat=j:=by
   rw[seqIndex_neg (by omega) M]at h1;rw[cS,<-hl];exact Option.some.inj h1
  exact subscriptTail_builtinR (x:=w) pl.isList.typeIs slot_list_getitem.lookup
   (wpAny_getItem_list_neg (Q:=λr s'=>r=w/\EP X U Z Q r s') pl.isList (by omega) (by rw[cS]<;>omega) (by omega) (by rw[b];simpa using g) ⟨rfl,fin⟩) hs
theorem Rp:VF X (aae X.K):=by
 intro value slice U s Z H x y v u Q I b g h hs;obtain⟨p,xs,i,z,rfl,rfl,l,he,q⟩:=h;cases b;obtain⟨t,rfl⟩:=g;obtain⟨cn,r,pl,hz⟩:=I.tuple l;obtain⟨j,h1,h2,S,h4,h5⟩:=AI he;obtain⟨w,n,L⟩:=r.get h2;have M:=r.length;have hn:=xr;have fin:EP X U Z Q w s:=⟨z,H,I,L,q⟩;exact subscriptTail_builtinR (x:=w) pl.typeIs wF.lookup
  (getItem_tuple (j:=j) (Q:=λr s'=>r=w/\EP X U Z Q r s') pl (by omega) (by omega) (by rw[cS,<-M];exact h1) (by simpa using n) ⟨rfl,fin⟩) hs
theorem Rq:VF X aaf:=by
 intro value slice U s Z H x y v u Q I b g h hs;obtain⟨z,i,c,rfl,rfl,hz,he,q⟩:=h;obtain⟨t,rfl⟩:=b;obtain⟨t',rfl⟩:=g;obtain⟨j,h1,h2,S,l,n⟩:=AI he;have r:z.cps.toList.length=z.length:=by simp[Str.length]
 rw[r]at h1 l n;have hn:=xr;exact tail_any (typeIs_str s z t) slot_str_getitem.lookup (getItem_str (c:=c) (by
  have L:decide (i< -(2 ^63:Int))=false:=fu (by omega);have M:decide (i>=2 ^63)=false:=fu (by omega);rw[L,M,pv]) (by rw[h1];simpa using h2) ⟨.str ⟨#[c]⟩,H,I.tok _,⟨_,rfl⟩,q⟩) hs
def PN(v:Int)(n d:Nat):max 0 (min (if v<0 then v+n else v) (n:Int))=((HT.ir n d (some v):Nat):Int):=by
 rw[<-HT.Ax];by_cases b:v<0
 ·rw[aV b,aV b];omega
 ·rw[bb b,bb b];omega
def AK(lo hi:Option Int)(n:Nat):(sliceBounds lo hi none n).1=((HT.ir n 0 lo:Nat):Int)/\(sliceBounds lo hi none n).2.1=((HT.ir n n hi:Nat):Int)/\(sliceBounds lo hi none n).2.2=1:=by
 refine⟨?_,?_,rfl⟩
 ·cases lo with
  |none=>rfl
  |some i=>exact(PN i n 0)
 ·cases hi with
  |none=>rfl
  |some i=>exact(PN i n n)
def y_(cn:List Value)(lo hi:Option Int):slicePick cn.toArray lo hi none=((cn.drop (HT.ir cn.length 0 lo)).take (HT.ir cn.length cn.length hi - HT.ir cn.length 0 lo)).toArray:=by
 obtain⟨b,h2,g⟩:=AK lo hi cn.toArray.size;unfold slicePick;rw[b,h2,g];simp only[sliceRange_one,pick_run,cS]<;>rfl
def aag(K:Frag):V->Option Int->Option Int->Hp->VK->Prop:=λx lo hi H Q=>∃tg xs,x=.ref tg/\lL K H tg xs/\∀p,H p=none->Q (.ref p) (upd H p (.lst (Cj xs lo hi)))
theorem Nh:UJ X (aag X.K):=by
 intro U s Z H x v L M lo hi sl Q I g hs pl pu h;obtain⟨tg,xs,rfl,l,q⟩:=h;cases g;obtain⟨cn,r,b,hz⟩:=I.list l;have n:=r.length;refine⟨"list",_,slot_list_getitem.lookup,b.isList.typeIs,?_⟩;refine wpAny_getItem_list_slice b.isList hs pl pu .none (by simp) ?_ (by rw[cS]<;>omega)
 rw[y_,<-n];refine⟨.ref s.heap.objs.size,_,I.laid (t':=s.toks) (o:=.lst (Cj xs lo hi)) (λam S q=>bP _ q) (bz _) ?_,rfl,q _ (I.cU.fresh (bz _))⟩;exact⟨cB (vk xs lo hi) hz,_,0,(r.drop (HT.ir xs.length 0 lo)).take (HT.ir xs.length xs.length hi - HT.ir xs.length 0 lo),cp _ rfl⟩
def PQ:V->Bool
 |.cx=>true
 |.bl _=>true
 |.int _=>true
 |.str _=>true
 |_=>false
theorem tX:gC X (.type "list") (λxs H Q=>∃p ys,xs=[.ref p]/\(lL X.K H p ys\/jl X.K H p ys)/\∀l,H l=none->Q (.ref l) (upd H l (.lst ys))):=by
 intro U s Z H xs us Q I r h;obtain⟨p,ys,rfl,L,q⟩:=h;obtain⟨u,rfl,rx⟩:=vals1 r;cases rx;have fin:∀(cn:List Value),Vals ys cn->ys.length<=sizeLine->∀(h':Heap) (b:Nat),(∀am o',s.heap.get? am=some o'->h'.get? am=some o')->
   h'.get? s.heap.objs.size=some {cls:=.type "list",dict:=none,data:=.seq cn.toArray b,slots:=#[]}->EP X U Z Q (.ref s.heap.objs.size) {s with heap:=h'}:=λcn g hz h' b kp e=>
  ⟨.ref s.heap.objs.size,_,I.laid (t':=s.toks) kp (bz _) (show cV X.prog X.w _ h' _ (.lst ys)from⟨hz,cn,b,g,e⟩),rfl,q _ (I.cU.fresh (bz _))⟩
 rcases L with L|L
 ·obtain⟨cn,g,pl,hz⟩:=I.list L;have b9:=g.length;obtain⟨o,M,S,n,hd⟩:=pl.isList;exact call_list_seq p (.inl rfl) M S hd (λh' b kp e=>fin cn g hz h' b kp e) (by simp only[cS]<;>omega)
 ·obtain⟨cn,g,pl,hz⟩:=I.tuple L;have b9:=g.length;obtain⟨o,M,S,n,hd⟩:=pl;exact call_list_seq p (.inr rfl) M S hd (λh' b kp e=>fin cn g hz h' b kp e) (by simp only[cS]<;>omega)
theorem rn:gC X (.type "tuple") (λxs H Q=>∃p ys,xs=[.ref p]/\((lL X.K H p ys/\∀l,H l=none->Q (.ref l) (upd H l (.tup ys)))\/(jl X.K H p ys/\Q (.ref p) H))):=by
 intro U s Z H xs us Q I r h;obtain⟨p,ys,rfl,h⟩:=h;obtain⟨u,rfl,L⟩:=vals1 r;cases L;rcases h with⟨b,q⟩|⟨b,q⟩
 ·obtain⟨cn,g,pl,hz⟩:=I.list b;have S:=g.length;refine call_tuple_list pl.isList (λh' kp=>?_) (by simp only[cS]<;>omega);have n:Inv X U Z H {s with heap:=h'}:=I.kept (t':=s.toks) kp;have M:Inv X U Z (upd H h'.objs.size (.tup ys)) {s with heap:=h'.push {cls:=.type "tuple",data:=.seq cn.toArray}}:=
   n.laid (t':=s.toks) (λam o e=>bP _ e) (bz _) (show cV X.prog X.w _ _ _ (.tup ys)from⟨hz,cn,g,IsTup.new _ _⟩)
  exact⟨.ref h'.objs.size,_,M,rfl,q _ (n.cU.fresh (bz _))⟩
 ·obtain⟨cn,g,pl,hz⟩:=I.tuple b;exact call_tuple_same pl ⟨.ref p,H,I,rfl,q⟩
def tyV(K:Frag)(T:String)(x:V)(H:Hp):Prop:=match x with
 |.str _=>T="str"
 |.int _=>T="int"
 |.ref p=>(T="list"/\∃xs,lL K H p xs)\/(T="tuple"/\∃o,K.lookup p=some o/\o.cls=.type "tuple"/\o.dict=none)\/
   (T="dict"/\((∃kvs,H p=some (.dK kvs))\/∃kvs,H p=some (.dT kvs)))\/(T="set"/\∃S n,H p=some (.set S n))
 |_=>False
theorem Rr{x:V}(I:Inv X U Z H s)(r:RelV x af)(ty:tyV X.K ay x H):
  s.TypeIs af ay/\∀tg,af=.ref tg->∃q,s.heap.get? tg=some q/\q.dict=none:=by
 cases x with
 |str z=>
  obtain⟨t,rfl⟩:=r;cases(show ay="str"from ty);exact⟨typeIs_str s z t,λ_ e=>nomatch e⟩
 |int i=>
  obtain⟨t,rfl⟩:=r;cases(show ay="int"from ty);exact⟨typeIs_int s i t,λ_ e=>nomatch e⟩
 |ref p=>
  cases r;rcases ty with⟨rfl,xs,l⟩|⟨rfl,o,b,L,hd⟩|⟨rfl,b⟩|⟨rfl,S,n,b⟩
  ·obtain⟨cn,_,pl,_⟩:=I.list l;refine⟨pl.isList.typeIs,λtg e=>?_⟩;cases e;obtain⟨o,n,e,c,hd,_⟩:=pl;exact⟨o,e,hd⟩
  ·refine⟨⟨o,I.lZ p o b,L⟩,λtg e=>?_⟩;cases e;exact⟨o,I.lZ _ o b,hd⟩
  ·have z:∃o,s.heap.get? p=some o/\o.ExactDict:=by
    rcases b with⟨kvs,b⟩|⟨kvs,b⟩
    ·obtain⟨_,_,_,_,o,_,_,e,ex,_⟩:=I.cU p _ b;exact⟨o,e,ex⟩
    ·obtain⟨_,_,_,_,o,_,_,e,ex,_⟩:=I.cU p _ b;exact⟨o,e,ex⟩
   obtain⟨o,e,ex⟩:=z;refine⟨⟨o,e,ex.1⟩,λtg g=>?_⟩;cases g;exact⟨o,e,ex.2.1⟩
  ·obtain⟨o,_,_,_,e,ex,_⟩:=I.cU p _ b;refine⟨⟨o,e,ex.1⟩,λtg g=>?_⟩;cases g;exact⟨o,e,ex.2.1⟩
 |_=>exact False.elim ty
def tBM(K:Frag)(T:String)(r:V->List V->Hp->VK->Prop)(to:TE)(t:TA):TE:=λZ H Q=>to Z H λx H1=>tyV K T x H1/\t Z H1 λxs H2=>r x xs H2 Q
variable {to:TE}{t:TA}{name:Str}{dD:Pos}{T id:String}{r:V->List V->Hp->VK->Prop}
theorem FO(pa:PlainAttrs T)(slot:Slot T name id)(Ni:typeOf (.builtin id)=pure (.type "method_descriptor"))(hm:Ro X id r)(ho:PE X o to)(ha:PA X (e::es) t)
  (pH:attributeBase o name X.env (eval o X.env)=eval o X.env:=by rfl)
  (q:((backTo dD (starEach (e::es) X.env)).all (λx=>!x.1)&&(backToKw dD (keywordEach [] X.env)).all (λx=>x.1.isSome)
   &&decide ((e::es).length+([]:List Keyword).length+(if([]:List Keyword).isEmpty then 0 else 1)<30))=true:=by rfl)
  (fQ:(b8.endLine==dD.line)=true:=by rfl) (hs:starEach (e::es) X.env=(false,eval e X.env)::starEach es X.env:=by rfl) (Rt:(backTo dD (starEach es X.env)).any (·.1)=false:=by rfl):
  PE X (.Call (.Attribute o name b8) (e::es) [] dD) (tBM X.K T r to t):=by
 intro U s Z H Q I h;refine wpAny_Call_method_late pH q fQ rfl (eC (ho U s Z H _ I h) λv s1 ⟨x,H1,b,r1,ty,l⟩=>?_);obtain⟨h1,h2⟩:=Rr b r1 ty;refine⟨T,id,pa,slot,Ni,h1,h2,?_⟩;have g:=ha dD U s1 Z H1 _ b l;rw[hs]at g⊢;refine nv (by show(false||(backTo dD (starEach es X.env)).any (·.1))=false;rw[Rt]<;>rfl) (nA ?_);exact eC g λus s2 ⟨vs,H2,n,r2,L⟩=>hm U s2 Z H2 x vs v us Q n r1 r2 L
end
def MtM(X:Cx)(id:String)(r:V->List V->Hp->VK->Prop):Prop:=
 ∀(U:List (Addr×Obj)) (s:Shared) (Z:St) (H:Hp) (x:V) (xs:List V) (v:Value) (us:List Value) (Q:VK),Inv X U Z H s->RelV x v->Vals xs us->r x xs H Q->
  wpAny (model X.prog X.w) X.A (call (.builtin id) (v::us)) (EP X U Z Q) X.xe s
theorem Vals.one:∀{x:V} {us:List Value},Vals [x] us->∃u,us=[u]/\RelV x u
 |_,_,.cons r .nil=>⟨_,rfl,r⟩
theorem Vals.dropLast {xs:List V}{us:List Value}(h:Vals xs us):Vals xs.dropLast us.dropLast:=by
 induction h with
 |nil=>exact .nil
 |cons r t b=>
  cases t with
  |nil=>exact .nil
  |cons q t'=>exact .cons r b
theorem Vals.rep {xs:List V}{us:List Value}(h:Vals xs us):∀k:Nat,Vals (List.replicate k xs).flatten (List.replicate k us).flatten
 |0=>.nil
 |k+1=>by
  rw[nC,nC,my,my];exact Vals.append h (Vals.rep h k)
theorem foldl_rep(cn:List Value):∀(k:Nat) (acc:List Value),
  List.foldl (λq x2=>q++x2) acc.toArray (List.replicate k cn.toArray)=(acc++(List.replicate k cn).flatten).toArray
 |0,acc=>by simp
 |k+1,acc=>by
  have e:acc.toArray++cn.toArray=(acc++cn).toArray:=by simp
  have b:(acc++cn)++(List.replicate k cn).flatten=acc++(List.replicate (k+1) cn).flatten:=by
   rw[nC,my,wV]
  rw[<-b,<-foldl_rep cn k (acc++cn),<-e,nC,List.foldl_cons]
section
variable {l:Addr}{ys zs:List V}
def Inv.Nj {cn tM:List Value}{n:Nat}{f:Array Value->Array Value}{t':Nat}(I:Inv X U Z H s)(hH:H l=some (.lst ar))
  (e:s.heap.get? l=some {cls:=.type "list",data:=.seq cn.toArray n}) (hf:f cn.toArray=tM.toArray) (hv:Vals ys tM) (hz:ys.length<=sizeLine):
  Inv X U Z (upd H l (.lst ys)) {s with heap:=s.heap.update l (Obj.mapSeq f),toks:=t'}:=by
 have q:=PySem.IsL.update e f;rw[hf]at q;refine I.write (x:=l) (e:=l) (by rw[hH];exact trivial) (.inl rfl) (λg u hb b=>(ny s.heap (Obj.mapSeq f) (Ne.symm hb)).trans b) ⟨_,q⟩ ?_
 exact⟨hz,tM,_,hv,q⟩
def Inv.Nk {cn:List Value}{t':Nat}(I:Inv X U Z H s)(hv:Vals ys cn)(hz:ys.length<=sizeLine):
  Inv X U Z (upd H s.heap.objs.size (.lst ys)) {s with heap:=s.heap.push {cls:=.type "list",data:=.seq cn.toArray},toks:=t'}:=
 I.laid (λ_ _ q=>bP _ q) (bz _) ⟨hz,cn,0,hv,cp _ rfl⟩
theorem Inv.fresh (I:Inv X U Z H s):H s.heap.objs.size=none:=I.cU.fresh (bz _)
def Inv.y' (I:Inv X U Z H s)(q:H l=some (.lst ar)):ar.length<=sizeLine/\∃(cn:List Value) (n:Nat),Vals ar cn/\ar.length=cn.length/\s.heap.get? l=some {cls:=.type "list",data:=.seq cn.toArray n}:=by
 obtain⟨z,cn,n,r,e⟩:=I.cU l _ q;exact⟨z,cn,n,r,r.length,e⟩
def JO(h:i<=sizeLine):Builtin.List.listTooLong i=false:=by
 unfold Builtin.List.listTooLong;exact fu (by omega)
end
def FP:V->List V->Hp->VK->Prop:=λx vs H Q=>∃l xs y,x=.ref l/\vs=[y]/\H l=some (.lst xs)/\xs.length<sizeLine/\Q .cx (upd H l (.lst (xs++[y])))
theorem iX:MtM X "list.append" FP:=by
 intro U s Z H x vs v us Q I g L h;obtain⟨l,xs,y,rfl,rfl,b,hz,q⟩:=h;cases g;obtain⟨u,rfl,M⟩:=L.one;obtain⟨z,cn,n,r,S,e⟩:=I.y' b;refine kO nr ⟨_,e,rfl⟩ F.entry_list_append (F.args_list_append_2 _ _) (PySem.list_append l cn.toArray n u (by rw[cS];omega)) ⟨e,?_⟩;refine⟨.cx,_,I.Nj (tM:=cn++[u]) b e (by simp) (r.append (.cons M .nil)) ?_,rfl,q⟩;rw[eO,List.length_singleton];omega
def aai:R2:=λx y H Q=>∃l b xs zs,x=.ref l/\y=.ref b/\H l=some (.lst xs)/\H b=some (.lst zs)/\xs.length+zs.length<=sizeLine/\∀p,H p=none->Q (.ref p) (upd H p (.lst (xs++zs)))
theorem JP:uR X (binaryOp .Add) aai:=by
 intro U s Z H x y v u Q I L M h;obtain⟨l,b,xs,zs,rfl,rfl,S,hB,hz,q⟩:=h;cases L;cases M;obtain⟨z,cn,n,r,hl,e⟩:=I.y' S;obtain⟨z2,g,n2,r2,MT,e2⟩:=I.y' hB;refine PySem.P.add_list e e2 ?_ (by rw[cS,cS];omega)
 have ea:cn.toArray++g.toArray=(cn++g).toArray:=by simp
 rw[ea];exact⟨.ref _,_,I.Nk (t':=s.toks) (r.append r2) (by rw[eO];omega),rfl,q _ I.fresh⟩
def aaj:R2:=λx y H Q=>∃l k xs,x=.ref l/\y=.int k/\H l=some (.lst xs)/\-(2 ^63)<=k/\k<2 ^63/\xs.length*k.toNat<=sizeLine/\
 ∀p,H p=none->Q (.ref p) (upd H p (.lst (List.replicate k.toNat xs).flatten))
def len_rep(xs:List ag)(k:Nat):(List.replicate k xs).flatten.length=k*xs.length:=by
 induction k with
 |zero=>simp
 |succ k b=>rw[nC,my,eO,b,Nat.succ_mul,Nat.add_comm]
theorem Ru:uR X (binaryOp .Mult) aaj:=by
 intro U s Z H x y v u Q I S ry h;obtain⟨l,k,xs,rfl,rfl,hH,h1,h2,hz,q⟩:=h;cases S;obtain⟨t,rfl⟩:=ry;obtain⟨z,cn,n,r,hl,e⟩:=I.y' hH;have b9:cn.toArray.size*k.toNat<=sizeLine:=by rw[cS,<-hl];exact hz
 have b:¬cn.toArray.size*k.toNat>(2 ^63 - 1)/8:=by
  have:(sizeLine:Nat)<=(2 ^63 - 1)/8:=by decide
  omega
 have g:¬(!Builtin.List.listFitsIndex k)=true:=by
  rw[fitsIndex_both h1 h2];exact fK
 have VG:¬Builtin.List.listTooLong (cn.toArray.size*k.toNat)=true:=by
  rw[JO b9];exact fK
 have JR:List.foldl (λL M=>L++M) #[] (List.replicate (if cn.toArray.isEmpty=true then 0 else k.toNat) cn.toArray)=(List.replicate k.toNat cn).flatten.toArray:=by
  have f0:∀m:Nat,List.foldl (λL M=>L++M) #[] (List.replicate m cn.toArray)=(List.replicate m cn).flatten.toArray:=λm=>by
   have:=foldl_rep cn m [];rw[List.nil_append]at this;exact this
  rw[f0];cases cn with
  |nil=>simp
  |cons a r'=>rw[bb (by simp)]
 refine wpAny_binaryOp_repeat_ref (T:="list") (U:="int") (by decide) ⟨_,e,rfl⟩ (λs'=>typeIs_int s' k t) noFill_list_mul F.fills_int_mul F.slot_int_rmul repeat_list F.slot_int_index.lookup
  (kO F.slot_int_rmul (typeIs_int s k t) F.entry_int_rmul (F.args_int_rmul_2 _ _) (int___rmul___int_list k t l cn.toArray n)
   ⟨e,rfl,⟨_,e,rfl⟩,kO F.slot_list_mul ⟨_,e,rfl⟩ F.entry_list_mul (F.args_list_mul_2 _ _) (AutoListH.list___mul___list_int_3 l cn.toArray n k t g b VG) ⟨e,?_⟩⟩)
 rw[JR];exact⟨.ref _,_,I.Nk (t':=s.toks) (r.rep k.toNat) (by rw[len_rep,Nat.mul_comm];exact hz),rfl,q _ I.fresh⟩
section
variable [DecidableEq ag]
noncomputable def mP(kvs:List (ag×V))(k:ag):Option V:=(kvs.find? λb=>decide (b.1=k)).map (·.2)
noncomputable def putK(kvs:List (ag×V))(k:ag)(v:V):List (ag×V):=
 if(kvs.any λb=>decide (b.1=k))=true then kvs.map (λb=>if b.1=k then(b.1,v)else b)else kvs++[(k,v)]
noncomputable def rq(kvs:List (ag×V))(k:ag):List (ag×V):=kvs.filter λb=>decide (b.1≠k)
def tY{p:ag×V}{r:List (ag×V)}{k:ag}(e:p.1=k):mP (p::r) k=some p.2:=by simp[mP,j_,e]
def t7{p:ag×V}{r:List (ag×V)}{k:ag}(e:¬p.1=k):mP (p::r) k=mP r k:=by simp[mP,j_,e]
theorem Ck(k:ag):∀kvs:List (ag×V),(kvs.any λq=>decide (q.1=k))=(mP kvs k).isSome
 |[]=>rfl
 |p::r=>by
  rw[jk];by_cases e:p.1=k
  ·simp only[tY e,jj e,tq,nD]
  ·rw[t7 e,fu e,kL];exact Ck k r
def pI(kvs:List (ag×V))(k:ag)(v:V):(putK kvs k v).length<=kvs.length+1:=by
 unfold putK;split
 ·rw[bt];omega
 ·rw[eO,dt,w6];omega
def lY.mQ {o:Option V}{u:Option Value}(r:lY o u):o.isSome=u.isSome:=by
 cases o with
 |none=>cases u with
  |none=>rfl
  |some _=>exact fe r
 |some _=>cases u with
  |none=>exact fe r
  |some _=>rfl
theorem lY.getD {o:Option V}{u:Option Value}{d:V}{d':Value}(r:lY o u)(q:RelV d d'):RelV (o.getD d) (u.getD d'):=by
 cases o with
 |none=>cases u with
  |none=>exact q
  |some _=>exact fe r
 |some _=>cases u with
  |none=>exact fe r
  |some _=>exact r
def KV.val {kvs:List (ag×V)}{vs:List (ag×Value)}(r:KV kvs vs)(k:ag):lY (mP kvs k) (valueAt vs k):=by
 unfold KV at r
 induction r with
 |nil=>exact True.intro
 |@cons p q ps g h t I=>
  obtain⟨n,h2⟩:=h;by_cases e:p.1=k
  ·have l:q.1=k:=n.symm.trans e;have b:valueAt (q::g) k=some q.2:=by simp[valueAt,j_,l]
   rw[tY e,b];exact h2
  ·have l:¬q.1=k:=λz=>e (n.trans z);have b:valueAt (q::g) k=valueAt g k:=by simp[valueAt,j_,l]
   rw[t7 e,b];exact I
theorem KV.any {kvs:List (ag×V)}{vs:List (ag×Value)}(r:KV kvs vs)(k:ag):(kvs.any λq=>decide (q.1=k))=vs.any λq=>decide (q.1=k):=by
 unfold KV at r
 induction r with
 |nil=>rfl
 |cons h t b=>rw[jk,jk,b,h.1]
def KV.Rv {kvs:List (ag×V)}{vs:List (ag×Value)}(r:KV kvs vs)(k:ag){y:V}{u:Value}(ry:RelV y u):
  KV (kvs.map λkv=>if kv.1=k then(kv.1,y)else kv) (vs.map λkv=>if kv.1=k then(kv.1,u)else kv):=by
 unfold KV at r⊢
 induction r with
 |nil=>exact .nil
 |@cons p q ps l h t g=>
  rw[bL,bL];refine .cons ?_ g
  obtain⟨b,h2⟩:=h;by_cases e:p.1=k
  ·rw[aV e,aV (b.symm.trans e)];exact⟨b,ry⟩
  ·rw[bb e,bb (λz=>e (b.trans z))];exact⟨b,h2⟩
def KV.put {kvs:List (ag×V)}{vs:List (ag×Value)}(r:KV kvs vs)(k:ag){y:V}{u:Value}(q:RelV y u):KV (putK kvs k y) (stored vs k u):=by
 unfold putK stored;rw[r.any k];by_cases e:(vs.any λb=>decide (b.1=k))=true
 ·rw[aV e,aV e];exact r.Rv k q
 ·rw[bb e,bb e];exact Paired.snoc r ⟨rfl,q⟩
def KV.drop {kvs:List (ag×V)}{vs:List (ag×Value)}(r:KV kvs vs)(k:ag):KV (rq kvs k) (without vs k):=by
 unfold KV at r⊢;unfold rq without
 induction r with
 |nil=>exact .nil
 |@cons p q ps I h t l=>
  obtain⟨g,h2⟩:=h;rw[o5,o5];by_cases e:p.1=k
  ·have a:¬decide (p.1≠k)=true:=by simp[e]
   have b:¬decide (q.1≠k)=true:=by simp[g.symm.trans e]
   rw[bb a,bb b];exact l
  ·have n:¬q.1=k:=λz=>e (g.trans z);have a:decide (p.1≠k)=true:=by simp[e]
   have b:decide (q.1≠k)=true:=by simp[n]
   rw[aV a,aV b];exact .cons ⟨g,h2⟩ l
def KV.keys {kvs:List (ag×V)}{vs:List (ag×Value)}(r:KV kvs vs):kvs.map (·.1)=vs.map (·.1):=by
 unfold KV at r
 induction r with
 |nil=>rfl
 |cons h t b=>rw[bL,bL,b,h.1]
theorem KV.length {kvs:List (ag×V)}{vs:List (ag×Value)}(r:KV kvs vs):kvs.length=vs.length:=Paired.length r
def JS(kvs:List (ag×V))(k:ag):(rq kvs k).length<=kvs.length:=oR _ _
end
theorem pJ{P:Program}{w:World}{k:Key}(r:RelV (kV k) af):(cj P w).is k af=true:=by
 cases k with
 |inl i=>obtain⟨t,e⟩:=(show∃t,af=Value.int i t from r);subst e;exact B9 P w i t
 |inr x=>obtain⟨t,e⟩:=(show∃t,af=Value.str x t from r);subst e;exact B_ P w x t
theorem zD:∀{ks:List Key} {us:List Value},Vals (ks.map kV) us->ItemsAre (cj P w) ks us
 |[],_,r=>by rw[mG]at r;cases r;exact .nil
 |k::ks,_,r=>by
  rw[bL]at r;cases r with
  |cons h t=>exact .cons (pJ h) (zD t)
abbrev KT(H:Hp):List (List Key×V)->List (List Key×Addr×Value)->Prop:=Paired fun p q=>p.1=q.1/\H q.2.1=some (.tup (p.1.map kV))/\RelV p.2 q.2.2
def KT.val {kvs:List (List Key×V)}{xs:List (List Key×Addr×Value)}(r:KT H kvs xs)(k:List Key):lY (mP kvs k) ((atKey xs k).map (·.2)):=by
 induction r with
 |nil=>exact True.intro
 |@cons p q ps g h t I=>
  obtain⟨n,_,h2⟩:=h;by_cases e:p.1=k
  ·have l:q.1=k:=n.symm.trans e;have b:atKey (q::g) k=some q.2:=by simp[atKey,j_,l]
   rw[tY e,b];exact h2
  ·have l:¬q.1=k:=λz=>e (n.trans z);have b:atKey (q::g) k=atKey g k:=by simp[atKey,j_,l]
   rw[t7 e,b];exact I
def KT.Rv {kvs:List (List Key×V)}{xs:List (List Key×Addr×Value)}(r:KT H kvs xs)(k:List Key){y:V}{u:Value}(ry:RelV y u):
  KT H (kvs.map λkv=>if kv.1=k then(kv.1,y)else kv) (xs.map (putAt k u)):=by
 induction r with
 |nil=>exact .nil
 |@cons p q ps n h t g=>
  rw[bL,bL];refine .cons ?_ g
  obtain⟨b,h2,l⟩:=h;unfold putAt;by_cases e:p.1=k
  ·rw[aV e,aV (b.symm.trans e)];exact⟨b,h2,ry⟩
  ·rw[bb e,bb (λz=>e (b.trans z))];exact⟨b,h2,l⟩
def KT.put {kvs:List (List Key×V)}{xs:List (List Key×Addr×Value)}(r:KT H kvs xs)(k:List Key){b:Addr}{y:V}{u:Value}(hb:H b=some (.tup (k.map kV)))(ry:RelV y u):
  KT H (putK kvs k y) (storedH xs k b u):=by
 have e:(kvs.any λg=>decide (g.1=k))=(atKey xs k).isSome:=by
  rw[Ck,(r.val k).mQ,j8]
 unfold putK storedH;rw[e];by_cases q:(atKey xs k).isSome=true
 ·rw[aV q,aV q];exact r.Rv k ry
 ·rw[bb q,bb q];exact Paired.snoc r ⟨rfl,hb,ry⟩
def KT.keeps {H':Hp}{kvs:List (List Key×V)}{xs:List (List Key×Addr×Value)}(r:KT H kvs xs)(q:∀b ys,H b=some (.tup ys)->H' b=some (.tup ys)):KT H' kvs xs:=
 Paired.QV r λ_ _ z=>⟨z.1,q _ _ z.2.1,z.2.2⟩
def PR{u:HO}(ok:rV P w H aa)(e:Rd H a u):cV P w H aa a u:=e.ok ok
def t8(ok:rV P w H aa)(e:Rd H a (.dK kvs)):kvs.length<=sizeLine/\(a==sysModules)=false/\∃vs,KV kvs vs/\aa.DictOf (cj P w) a vs:=
 show cV P w H aa a (.dK kvs)from PR ok e
def FQ(ok:rV P w H aa)(e:H a=some (.dK kvs)):kvs.length<=sizeLine/\(a==sysModules)=false/\∃vs,KV kvs vs/\aa.DictOf (cj P w) a vs:=t8 ok (.inl e)
def rY{ks:List Key}(ok:rV P w H aa)(e:H a=some (.tup (ks.map kV))):(tupleKind (cj P w)).is aa ks a:=by
 obtain⟨_,cn,r,o,h1,h2,n,b⟩:=(show cV P w H aa a (.tup (ks.map kV))from ok a _ e);exact⟨o,cn.toArray,n,h1,h2,b,by simpa using zD r⟩
theorem vm{kvs:List (List Key×V)}(ok:rV P w H aa)(e:Rd H a (.dT kvs)):kvs.length<=sizeLine/\(a==sysModules)=false/\
  ∃xs,KT H kvs xs/\aa.DictOfH (tupleKind (cj P w)) a xs:=by
 obtain⟨z,y,xs,r,o,es,ep,h1,h2,n,I,L⟩:=(show cV P w H aa a (.dT kvs)from PR ok e);refine⟨z,y,xs,r,o,es,ep,h1,h2,n,I,λx b=>?_,L⟩;have all:∀{l:List (List Key×V)} {m:List (List Key×Addr×Value)},KT H l m->∀x∈m,(tupleKind (cj P w)).is aa x.1 x.2.1:=by
  intro l m q
  induction q with
  |nil=>intro x b;exact nomatch b
  |@cons p q ps S g t M=>
   intro x b;rcases bE.mp b with e|b
   ·subst e;exact rY ok (by rw[<-g.1];exact g.2.1)
   ·exact M x b
 exact all r x b
def VH{kvs:List (List Key×V)}(ok:rV P w H aa)(e:H a=some (.dT kvs)):kvs.length<=sizeLine/\(a==sysModules)=false/\
  ∃xs,KT H kvs xs/\aa.DictOfH (tupleKind (cj P w)) a xs:=vm ok (.inl e)
def pK(H:Hp)(a:Addr)(y:V)(r:Option V):Prop:=
 (∃kvs k,Rd H a (.dK kvs)/\y=kV k/\r=mP kvs k)\/∃kvs k b,Rd H a (.dT kvs)/\y=.ref b/\H b=some (.tup (k.map kV))/\r=mP kvs k
def Eo(H:Hp)(a:Addr)(y v:V)(H':Hp):Prop:=
 (∃kvs k,H a=some (.dK kvs)/\y=kV k/\kvs.length<sizeLine/\H'=upd H a (.dK (putK kvs k v)))\/
 ∃kvs k b,H a=some (.dT kvs)/\y=.ref b/\H b=some (.tup (k.map kV))/\kvs.length<sizeLine/\H'=upd H a (.dT (putK kvs k v))
theorem pK.k {H:Hp}{k:Key}(e:H a=some (.dK kvs)):pK H a (kV k) (mP kvs k):=.inl ⟨kvs,k,.inl e,rfl,rfl⟩
def pK.t {H:Hp}{b:Addr}{kvs:List (List Key×V)}{k:List Key}(e:H a=some (.dT kvs))(q:H b=some (.tup (k.map kV))):pK H a (.ref b) (mP kvs k):=.inr ⟨kvs,k,b,.inl e,rfl,q,rfl⟩
theorem Eo.k {H:Hp}{k:Key}{v:V}(e:H a=some (.dK kvs))(q:kvs.length<sizeLine):Eo H a (kV k) v (upd H a (.dK (putK kvs k v))):=.inl ⟨kvs,k,e,rfl,q,rfl⟩
def Eo.t {H:Hp}{b:Addr}{kvs:List (List Key×V)}{k:List Key}{v:V}(e:H a=some (.dT kvs))(q:H b=some (.tup (k.map kV)))(hl:kvs.length<sizeLine):
  Eo H a (.ref b) v (upd H a (.dT (putK kvs k v))):=.inr ⟨kvs,k,b,e,rfl,q,hl,rfl⟩
section
variable {y v:V}{r:Value}{o:Option V}
theorem Inv.big (I:Inv X U Z H s):sysModules<s.heap.objs.size:=by
 have h:mainGlobals<s.heap.objs.size:=(I.mod.glob.keeps I.bk).lt;exact Nat.lt_trans (by decide) h
theorem Hw(hu:A.units+1<cLine)(I:Inv X U Z H s)(g:pK H a y (some v))(ry:RelV y af)(h:∀q s',Inv X U Z H s'->RelV v q->Q q s'):
  wpAny (model X.prog X.w) A (getItem (.ref a) af) Q E s:=by
 rcases g with⟨kvs,k,e,n,l⟩|⟨kvs,k,b,e,n,L,l⟩
 ·subst n;obtain⟨z,hd,vs,rel,dd⟩:=t8 I.cU e;obtain⟨q,hw,r⟩:=lY.some_of (v:=v) (o:=valueAt vs k) (by rw[l];exact rel.val k);exact wpAny_getItem_of (pJ ry) dd.mapOf hw (h q _ (I.tok _) r)
 ·subst n;cases(show af=Value.ref b from ry);obtain⟨z,hd,xs,rel,dd⟩:=vm I.cU e;obtain⟨q,hw,r⟩:=lY.some_of (v:=v) (o:=(atKey xs k).map (·.2)) (by rw[l];exact rel.val k);obtain⟨p,hp,M⟩:=Option.map_eq_some_iff.mp hw;refine wpAny_getItem_heap (mC hu) (rY I.cU L) dd hp ?_
  rw[M];exact h q _ (I.tok _) r
theorem aam(hu:A.units+1<cLine)(I:Inv X U Z H s)(g:pK H a y o)(ry:RelV y af)(h:∀s',Inv X U Z H s'->Q (.bool o.isSome) s'):
  wpAny (model X.prog X.w) A (compareOp .In af (.ref a)) Q E s:=by
 rcases g with⟨kvs,k,e,n,l⟩|⟨kvs,k,b,e,n,r,l⟩
 ·subst n;obtain⟨z,hd,vs,rel,dd⟩:=t8 I.cU e;refine wpAny_in_of (pJ ry) hd dd.mapOf ?_
  rw[<-(rel.val k).mQ,<-l];exact h _ (I.tok _)
 ·subst n;cases(show af=Value.ref b from ry);obtain⟨z,hd,xs,rel,dd⟩:=vm I.cU e;refine wpAny_in_heap (mC hu) (rY I.cU r) hd dd ?_
  have q:=(rel.val k).mQ;rw[j8]at q;rw[<-q,<-l];exact h _ (I.tok _)
theorem Nm(hu:A.units+1<cLine)(I:Inv X U Z H s)(g:pK H a y o)(ry:RelV y af)(h:∀s',Inv X U Z H s'->Q (.bool (!o.isSome)) s'):
  wpAny (model X.prog X.w) A (compareOp .NotIn af (.ref a)) Q E s:=by
 rcases g with⟨kvs,k,e,n,l⟩|⟨kvs,k,b,e,n,r,l⟩
 ·subst n;obtain⟨z,hd,vs,rel,dd⟩:=t8 I.cU e;refine wpAny_notIn_of (pJ ry) hd dd.mapOf ?_
  rw[<-(rel.val k).mQ,<-l];exact h _ (I.tok _)
 ·subst n;cases(show af=Value.ref b from ry);obtain⟨z,hd,xs,rel,dd⟩:=vm I.cU e;refine wpAny_notIn_heap (mC hu) (rY I.cU r) hd dd ?_
  have q:=(rel.val k).mQ;rw[j8]at q;rw[<-q,<-l];exact h _ (I.tok _)
def t9{ob:HO}(I:Inv X U Z H s)(mu:Vb (H a))(hs:Heap.SameBut a s.heap aa)(he:∃q,aa.get? a=some q)(new:cV X.prog X.w (upd H a ob) aa a ob):
  Inv X U Z (upd H a ob) {s with heap:=aa,toks:=i}:=
 I.write (x:=a) (e:=a) mu (.inl rfl) (λb q hb z=>(hs.2 b hb).trans z) he new
def xw{vs:List (Key×Value)}(z:kvs.length<=sizeLine)(hd:(a==sysModules)=false)(rel:KV kvs vs)(dd:aa.DictOf (cj P w) a vs):
  cV P w H aa a (.dK kvs):=⟨z,hd,vs,rel,dd⟩
theorem Hx(hu:A.units+1<cLine)(I:Inv X U Z H s)(g:Eo H a y v ac)(ry:RelV y af)(rv:RelV v r)(h:∀s',Inv X U Z ac s'->ae () s'):
  wpAny (model X.prog X.w) A (setItem (.ref a) af r) ae E s:=by
 rcases g with⟨kvs,k,e,M,l,S⟩|⟨kvs,k,b,e,M,eb,l,S⟩
 ·subst M S;obtain⟨z,hd,vs,rel,dd⟩:=FQ I.cU e;have hz:vs.length<=sizeLine:=by rw[<-rel.length];exact z
  have hl:(putK kvs k v).length<=sizeLine:=by have:=pI kvs k v;omega
  refine wpAny_setItem_pairs (hsz:=hz) (pJ ry) dd λh' n hs=>h _ ?_
  have he:∃q,h'.get? a=some q:=let⟨q,_,_,L,_⟩:=n;⟨q,L⟩
  exact t9 I (by rw[e];exact True.intro) hs he (xw hl hd (rel.put k rv) n)
 ·subst M S;cases(show af=Value.ref b from ry);obtain⟨z,hd,xs,rel,dd⟩:=VH I.cU e;have hz:xs.length<=sizeLine:=by rw[<-Paired.length rel];exact z
  have hl:(putK kvs k v).length<=sizeLine:=by have:=pI kvs k v;omega
  refine wpAny_setItem_heap (hsz:=hz) (mC hu) (rY I.cU eb) dd λh' n hs=>h _ ?_
  obtain⟨q,es,ep,L,h2,h3,h4,_,h5⟩:=n;refine t9 I (by rw[e];exact True.intro) hs ⟨q,L⟩ ⟨hl,hd,_,(rel.put k eb rv).keeps λc ys ec=>?_,q,es,ep,L,h2,h3,h4,h5⟩;rw[bh (U' ec e (λz=>nomatch z))];exact ec
end
section
variable {k:Key}
theorem PU{v:V}(I:Inv X U Z H s)(e:H a=some (.dK kvs))(ry:RelV (kV k) af)(l:mP kvs k=some v)(hm:aq=[]\/∃x,aq=[x])
  (h:∀w' s',Inv X U Z (upd H a (.dK (rq kvs k))) s'->RelV v w'->Q w' s'):wpAny (model X.prog X.w) A (call (.builtin "dict.pop") (.ref a::af::aq)) Q E s:=by
 obtain⟨z,hd,vs,rel,dd⟩:=FQ I.cU e;obtain⟨w',hw,g⟩:=lY.some_of (v:=v) (o:=valueAt vs k) (by rw[<-l];exact rel.val k);have hp:(keyPart af).isSome=true:=by
  cases k with
  |inl i=>obtain⟨t,q⟩:=(show∃t,af=Value.int i t from ry);subst q;rfl
  |inr x=>obtain⟨t,q⟩:=(show∃t,af=Value.str x t from ry);subst q;rfl
 have n:argsOk "dict.pop" ⟨.ref a::af::aq,[]⟩:=by
  rcases hm with q|⟨x,q⟩
  ·subst q;exact PySem.F.args_dict_pop_2 _ _
  ·subst q;exact PySem.F.args_dict_pop_3 _ _ _
 refine jw sL dd.typeIs PySem.F.entry_dict_pop n (meets_dict_pop_there (cj X.prog X.w) a (pJ ry) aq hm hp)
  ⟨vs,w',dd,by rw[<-rel.length];exact z,hw,λh' b hs=>h w' _ ?_ g⟩
 have he:∃q,h'.get? a=some q:=let⟨q,_,_,r,_⟩:=b;⟨q,r⟩
 exact t9 I (by rw[e];exact True.intro) hs he (xw (cB (JS kvs k) z) hd (rel.drop k) b)
def Rw{r:Value}(I:Inv X U Z H s)(e:H a=some (.dK kvs))(ry:RelV (kV k) af)(l:mP kvs k=none)(h:∀s',Inv X U Z H s'->Q r s'):
  wpAny (model X.prog X.w) A (call (.builtin "dict.pop") [.ref a,af,r]) Q E s:=by
 obtain⟨z,hd,vs,rel,dd⟩:=FQ I.cU e;have hn:valueAt vs k=none:=lY.none_of (by rw[<-l];exact rel.val k);have hp:(keyPart af).isSome=true:=by
  cases k with
  |inl i=>obtain⟨t,q⟩:=(show∃t,af=Value.int i t from ry);subst q;rfl
  |inr x=>obtain⟨t,q⟩:=(show∃t,af=Value.str x t from ry);subst q;rfl
 exact jw sL dd.typeIs PySem.F.entry_dict_pop (PySem.F.args_dict_pop_3 _ _ _) (meets_dict_pop_default (cj X.prog X.w) a (pJ ry) hd hp r) ⟨vs,dd,hn,h _ (I.tok _)⟩
def VI(I:Inv X U Z H s)(e:Rd H a (.dK kvs))(h:∀t s',Inv X U Z H s'->Q (.int kvs.length t) s'):wpAny (model X.prog X.w) A (call (.builtin "len") [.ref a]) Q E s:=by
 obtain⟨z,hd,vs,rel,dd⟩:=t8 I.cU e;refine call_len_dict hd dd (by rw[<-rel.length];rw[dQ]at z;omega) ?_
 rw[<-rel.length];exact h _ _ (I.tok _)
end
def Nn(i:Expr):Prop:=∀b iv,subscripted i false b iv=operate [b,iv] (getItem b iv)
def Np{env:Env}{id:String}
  (hl:typeLookup (.type ay) "__getitem__"=pure (some (.builtin id))) (hs:Nn tg)
  (h:wpAny (model P w) A (eval e env) (λo q=>wpAny (model P w) A (eval tg env) (λi tR=>tR.TypeIs o ay/\wpAny (model P w) A (getItem o i) Q E tR) E q) E s):
  wpAny (model P w) A (eval (.Subscript e tg pos) env) Q E s:=by
 refine Subscript_ (d6 h (λo q n=>d6 n (λi tR b=>?_) λ_ _ x=>x) λ_ _ x=>x);obtain⟨g,b⟩:=b;unfold subscriptTail;refine aS ?_
 rw[getitemInPython_of_ne g.not_modules];refine aS (wpAny_specialOf g hl ?_);have fin:wpAny (model P w) A (subscripted tg false o i) (λr l=>wpAny (model P w) A (letTemporaryGo e o r>>=λ_=>pure r) Q E l) E tR:=by
  rw[hs o i];exact wpAny_operating (d6 b (λr l I=>aS (wpAny_letTemporaryGo (bc I))) λ_ _ x=>x)
 first
  |exact bc (aS fin)
  |exact aS (bc (aS fin))
  |exact aS fin
def Cn{y:V}{o:Option V}(I:Inv X U Z H s)(g:pK H a y o):s.TypeIs (.ref a) "dict":=by
 rcases g with⟨kvs,k,e,_,_⟩|⟨kvs,k,b,e,_,_,_⟩
 ·obtain⟨_,_,vs,_,dd⟩:=t8 I.cU e;exact dd.typeIs
 ·obtain⟨_,_,xs,_,dd⟩:=vm I.cU e;exact dd.typeIs
def VJ(td ty tv:TE):TS:=λD Z H=>tv Z H λv H1=>td Z H1 λx H2=>ty Z H2 λy g=>∃a b,x=.ref a/\Eo g a y v b/\D.nx Z b
section
variable {td ty tv:TE}
theorem Nq(q:X.A.units+1<cLine)(ho:PE X o td)(hi:PE X e ty)(hv:PE X tg tv)(hs:swapsWith tg (some (.Subscript o e p)) pos.line X.env=pure false):
  PS X (.Assign [.Subscript o e p] tg pos) (VJ td ty tv):=by
 intro U s Z H D I h;refine wpAny_Assign_Subscript (eC (hv U s Z H _ I h) λr s1 ⟨v,H1,b,rv,l⟩=>eC (ho U s1 Z H1 _ b l) λu s2 ⟨x,H2,n,L,M⟩=>eC (hi U s2 Z H2 _ n M) λiv s3 ⟨y,H3,S,ry,a,H4,ex,g,q3⟩=>?_) hs;subst ex;obtain rfl:u=Value.ref a:=L;exact Hx q S g ry rv λs4 I4=>⟨Z,H4,I4,q3⟩
end
def Co(h:Heap)(hb:sysModules<h.objs.size):cV P w H (h.push {cls:=.type "dict",data:=.dict #[]}) h.objs.size (.dK []):=
 ⟨d5 _,jh.mpr (Ne.symm (bY hb)),[],.nil,Heap.DictOf.new h⟩
def Rx:TE:=λ_ H Q=>∀p,H p=none->Q (.ref p) (upd H p (.dK []))
theorem JT:PE X (.Dict [] [] pos) Rx:=λU s Z H Q I h=>
 wpAny_Dict_empty ⟨.ref s.heap.objs.size,_,I.laid (a:=s.heap.objs.size) (o:=.dK []) (t':=s.toks) (λ_ _ q=>bP _ q) (bz _) (Co s.heap I.big),rfl,h _ (I.cU.fresh (bz _))⟩
def xx:List (TE×TE)->St->Hp->(List (V×V)->Hp->Prop)->Prop
 |[],_,H,Q=>Q [] H
 |(b,tv)::r,Z,H,Q=>b Z H λx H1=>tv Z H1 λy H2=>xx r Z H2 λps g=>Q ((x,y)::ps) g
abbrev VV:List (V×V)->List (Value×Value)->Prop:=Paired fun p q=>RelV p.1 q.1/\RelV p.2 q.2
def UK(X:Cx)(pos:Pos)(keys:List (Option Expr))(values:List Expr)(q:List (TE×TE)):Prop:=
 ∀(U:List (Addr×Obj)) (s:Shared) (Z:St) (H:Hp) (Q:List (V×V)->Hp->Prop),Inv X U Z H s->xx q Z H Q->
  wpAny (model X.prog X.w) X.A (evalPairs (pairTrees keys values X.env pos)) (λvs s'=>∃ps H',Inv X U Z H' s'/\VV ps vs/\Q ps H') X.xe s
theorem FT:UK X pos [] [] []:=λU s Z H Q I h=>pairTrees_nil_walk ⟨[],H,I,.nil,h⟩
theorem Cp{ks:List (Option Expr)}{tk tv:TE}{AL:List (TE×TE)}(q:PE X e tk)(hv:PE X o tv)(hr:UK X pos ks es AL):
  UK X pos (some e::ks) (o::es) ((tk,tv)::AL):=λU s Z H Q I h=>
 pairTrees_cons_walk (eC (q U s Z H _ I h) λu s1 ⟨x,H1,b,g,l⟩=>eC (hv U s1 Z H1 _ b l) λw2 s2 ⟨y,H2,n,r,L⟩=>
  eC (hr U s2 Z H2 _ n L) λws s3 ⟨ps,M,S,rel,q3⟩=>⟨(x,y)::ps,M,S,.cons ⟨g,r⟩ rel,q3⟩)
def iY(kvs more:List (Key×V)):List (Key×V):=more.foldl (λacc b=>putK acc b.1 b.2) kvs
def KV.merge:∀{more:List (Key×V)} {rs:List (Key×Value)} {kvs:List (Key×V)} {vs:List (Key×Value)},KV more rs->KV kvs vs->KV (iY kvs more) (merged vs rs):=by
 intro more rs kvs vs r;unfold KV at r
 induction r generalizing kvs vs with
 |nil=>intro q;exact q
 |@cons p q ps l h t b=>
  intro g;have e:KV (putK kvs p.1 p.2) (stored vs q.1 q.2):=by
   have:=g.put p.1 h.2;rw[<-h.1];exact this
  exact b e
theorem jm:∀(more kvs:List (Key×V)),(iY kvs more).length<=kvs.length+more.length
 |[],kvs=>by show kvs.length<=kvs.length+0;omega
 |p::r,kvs=>by
  have b:=jm r (putK kvs p.1 p.2);have h2:=pI kvs p.1 p.2;show(iY (putK kvs p.1 p.2) r).length<=_;rw[dt];omega
theorem xy{P:Program}{w:World}:∀{kvs:List (Key×V)} {ws:List (Value×Value)},VV (kvs.map λkv=>(kV kv.1,kv.2)) ws->∃rs,Carries (cj P w) ws rs/\KV kvs rs
 |[],_,r=>by rw[mG]at r;cases r;exact⟨[],True.intro,.nil⟩
 |p::kvs,_,r=>by
  rw[bL]at r;cases r with
  |@cons a b as bs h t=>
   obtain⟨rs,c,q⟩:=xy (P:=P) (w:=w) t;obtain⟨g,b2⟩:=b;exact⟨(p.1,b2)::rs,⟨pJ h.1,rfl,c⟩,.cons ⟨rfl,h.2⟩ q⟩
def VL(q:List (TE×TE)):TE:=λZ H Q=>∀p,H p=none->xx q Z (upd H p (.dK [])) λps H2=>H2 p=some (.dK [])/\∃kvs:List (Key×V),ps=kvs.map (λb=>(kV b.1,b.2))/\kvs.length<=15/\Q (.ref p) (upd H2 p (.dK (iY [] kvs)))
theorem FU{keys:List (Option Expr)}{AL:List (TE×TE)}(h:UK X pos keys es AL)(uP:keys.all (·.isSome)=true)(hl:keys.length=es.length)(h0:keys≠[])
  (Nr:keys.length<=15):PE X (.Dict keys es pos) (VL AL):=by
 intro U s Z H Q I q;have l:=I.cU.fresh (bz s.heap.objs.size);have n:=I.laid (a:=s.heap.objs.size) (o:=.dK []) (h':=s.heap.push {cls:=.type "dict",data:=.dict #[]}) (t':=s.toks) (λ_ _ q=>bP _ q) (bz _) (Co s.heap I.big);refine wpAny_Dict_walk (knd:=cj X.prog X.w) uP hl h0 Nr (eC (h U _ Z _ _ n (q _ l)) λws s2 ⟨ps,H2,b,rel,e,kvs,ep,lk,r⟩=>?_);subst ep;obtain⟨rs,c,rk⟩:=xy (P:=X.prog) (w:=X.w) rel;obtain⟨z,hd,L,M,dd⟩:=FQ b.cU e;cases M;refine⟨rs,c,dd,λh' g hs=>⟨.ref s.heap.objs.size,_,?_,rfl,r⟩⟩;have hz:(iY [] kvs).length<=sizeLine:=by
  have S:=jm kvs [];rw[w6]at S;rw[dQ];omega
 have he:∃q,h'.get? s.heap.objs.size=some q:=let⟨q,_,_,hq,_⟩:=g;⟨q,hq⟩
 exact t9 b (by rw[e];exact True.intro) hs he (xw hz hd (rk.merge .nil) g)
structure M1(X:Cx)(o:Expr)(m:Str)(b8:Pos)(e:Expr)(dD:Pos):Prop where
 base:attributeBase o m X.env (eval o X.env)=eval o X.env
 VM:((backTo dD (starEach [e] X.env)).all (fun x=>!x.1)&&(backToKw dD (keywordEach [] X.env)).all (fun x=>x.1.isSome)
  &&decide (([e]:List Expr).length+([]:List Keyword).length+(if([]:List Keyword).isEmpty then 0 else 1)<30))=true
 line:(b8.endLine==dD.line)=true
 trees:backTo dD (starEach [e] X.env)=[(false,eval e X.env)]
structure M2(X:Cx)(o:Expr)(m:Str)(b8:Pos)(e f:Expr)(dD:Pos):Prop where
 base:attributeBase o m X.env (eval o X.env)=eval o X.env
 VM:((backTo dD (starEach [e,f] X.env)).all (fun x=>!x.1)&&(backToKw dD (keywordEach [] X.env)).all (fun x=>x.1.isSome)
  &&decide (([e,f]:List Expr).length+([]:List Keyword).length+(if([]:List Keyword).isEmpty then 0 else 1)<30))=true
 line:(b8.endLine==dD.line)=true
 trees:backTo dD (starEach [e,f] X.env)=[(false,eval e X.env),(false,eval f X.env)]
def VN(H:Hp)(a:Addr):Prop:=(∃kvs,Rd H a (.dK kvs))\/∃kvs,Rd H a (.dT kvs)
def AM(I:Inv X U Z H s)(d:VN H a):
  s.TypeIs (.ref a) "dict"/\(∀b,Value.ref a=.ref b->∃ob,s.heap.get? b=some ob/\ob.dict=none)/\(a==sysModules)=false:=by
 rcases d with⟨kvs,e⟩|⟨kvs,e⟩
 ·obtain⟨_,hd,vs,_,dd⟩:=t8 I.cU e;refine⟨dd.typeIs,λb q=>?_,hd⟩;cases q;obtain⟨ob,_,_,h1,h2,_⟩:=dd;exact⟨ob,h1,h2.2.1⟩
 ·obtain⟨_,hd,xs,_,dd⟩:=vm I.cU e;refine⟨dd.typeIs,λb q=>?_,hd⟩;cases q;obtain⟨ob,_,_,h1,h2,_⟩:=dd;exact⟨ob,h1,h2.2.1⟩
section
variable {y d:V}{r:Value}{o:Option V}
theorem Ry(hu:A.units+1<cLine)(I:Inv X U Z H s)(g:pK H a y o)(q:RelV y af)(h:∀w' s',Inv X U Z H s'->RelV (o.getD .cx) w'->Q w' s'):
  wpAny (model X.prog X.w) A (call (.builtin "dict.get") [.ref a,af]) Q E s:=by
 rcases g with⟨kvs,k,e,n,l⟩|⟨kvs,k,b,e,n,r,l⟩
 ·subst n;obtain⟨z,hd,vs,rel,dd⟩:=t8 I.cU e;refine jw qG dd.typeIs sJ (PySem.F.args_dict_get_2 _ _) (meets_dict_get (cj X.prog X.w) a (pJ q) hd) ⟨_,dd.mapOf,h _ _ (I.tok _) ?_⟩;rw[l];exact(rel.val k).getD rfl
 ·subst n;cases(show af=Value.ref b from q);obtain⟨z,hd,xs,rel,dd⟩:=vm I.cU e;refine jw qG dd.typeIs sJ (PySem.F.args_dict_get_2 _ _) (meetsH_dict_get (tupleKind (cj X.prog X.w)) a b hd) ⟨mC hu,k,xs,rY I.cU r,dd,h _ _ (I.tok _) ?_⟩;rw[l];exact(rel.val k).getD rfl
theorem RB(hu:A.units+1<cLine)(I:Inv X U Z H s)(g:pK H a y o)(q:RelV y af)(rd:RelV d r)(h:∀w' s',Inv X U Z H s'->RelV (o.getD d) w'->Q w' s'):
  wpAny (model X.prog X.w) A (call (.builtin "dict.get") [.ref a,af,r]) Q E s:=by
 rcases g with⟨kvs,k,e,n,l⟩|⟨kvs,k,b,e,n,L,l⟩
 ·subst n;obtain⟨z,hd,vs,rel,dd⟩:=t8 I.cU e;refine jw qG dd.typeIs sJ (PySem.F.args_dict_get_3 _ _ _) (meets_dict_get_default (cj X.prog X.w) a (pJ q) hd r) ⟨_,dd.mapOf,h _ _ (I.tok _) ?_⟩;rw[l];exact(rel.val k).getD rd
 ·subst n;cases(show af=Value.ref b from q);obtain⟨z,hd,xs,rel,dd⟩:=vm I.cU e;refine jw qG dd.typeIs sJ (PySem.F.args_dict_get_3 _ _ _) (meetsH_dict_get_default (tupleKind (cj X.prog X.w)) a b hd r) ⟨mC hu,k,xs,rY I.cU L,dd,h _ _ (I.tok _) ?_⟩;rw[l];exact(rel.val k).getD rd
end
def RC(td ty:TE):TE:=λZ H Q=>td Z H λx H1=>∃a,x=.ref a/\VN H1 a/\ty Z H1 λy H2=>∃o,pK H2 a y o/\Q (o.getD .cx) H2
def RD(td ty tx:TE):TE:=λZ H Q=>td Z H λx H1=>∃a,x=.ref a/\VN H1 a/\ty Z H1 λy H2=>tx Z H2 λz b=>∃o,pK b a y o/\Q (o.getD z) b
def RE(td ty:TE):TE:=λZ H Q=>td Z H λx H1=>∃a,x=.ref a/\VN H1 a/\ty Z H1 λy H2=>∃kvs k v,H2 a=some (.dK kvs)/\y=kV k/\mP kvs k=some v/\Q v (upd H2 a (.dK (rq kvs k)))
def RF(td ty tx:TE):TE:=λZ H Q=>td Z H λx H1=>∃a,x=.ref a/\VN H1 a/\ty Z H1 λy H2=>tx Z H2 λz b=>∃kvs k,b a=some (.dK kvs)/\y=kV k/\
 (∀v,mP kvs k=some v->Q v (upd b a (.dK (rq kvs k))))/\(mP kvs k=none->Q z b)
section
variable {td ty tx:TE}
theorem JU(q:X.A.units+1<cLine)(ho:PE X o td)(he:PE X e ty)(m:M1 X o "get" b8 e p):PE X (.Call (.Attribute o "get" b8) [e] [] p) (RC td ty):=by
 intro U s Z H Q I h;refine sV m.base m.VM m.line qE qG PySem.F.type_dict_get (eC (ho U s Z H _ I h) λu s1 ⟨x,H1,b,l,a,ex,d,n⟩=>?_);subst ex;obtain rfl:u=Value.ref a:=l;obtain⟨t1,r,_⟩:=AM b d;refine⟨t1,r,?_⟩;rw[m.trees];refine nv rfl (nA (kF (eC (he U s1 Z H1 _ b n) λiv s2 ⟨y,H2,L,M,ov,g,S⟩=>o9 ?_)));exact Ry q L g M λw' s3 I3 pG=>⟨_,H2,I3,pG,S⟩
theorem JV(q:X.A.units+1<cLine)(ho:PE X o td)(he:PE X e ty)(hf:PE X tg tx)(m:M2 X o "get" b8 e tg p):PE X (.Call (.Attribute o "get" b8) [e,tg] [] p) (RD td ty tx):=by
 intro U s Z H Q I h;refine sV m.base m.VM m.line qE qG PySem.F.type_dict_get (eC (ho U s Z H _ I h) λu s1 ⟨x,H1,b,l,a,ex,d,n⟩=>?_);subst ex;obtain rfl:u=Value.ref a:=l;obtain⟨t1,r,_⟩:=AM b d;refine⟨t1,r,?_⟩;rw[m.trees];refine nv rfl (nA (kF (eC (he U s1 Z H1 _ b n) λiv s2 ⟨y,H2,L,M,S⟩=>
  kF (eC (hf U s2 Z H2 _ L S) λfv s3 ⟨z,H3,I3,rz,ov,g,q3⟩=>o9 ?_))))
 exact RB q I3 g M rz λw' s4 I4 pG=>⟨_,H3,I4,pG,q3⟩
theorem JW(q:PE X o td)(he:PE X e ty)(m:M1 X o "pop" b8 e p):PE X (.Call (.Attribute o "pop" b8) [e] [] p) (RE td ty):=by
 intro U s Z H Q I h;refine sV m.base m.VM m.line qE sL PySem.F.type_dict_pop (eC (q U s Z H _ I h) λu s1 ⟨x,H1,b,g,a,ex,d,n⟩=>?_);subst ex;obtain rfl:u=Value.ref a:=g;obtain⟨t1,r,_⟩:=AM b d;refine⟨t1,r,?_⟩;rw[m.trees];refine nv rfl (nA (kF (eC (he U s1 Z H1 _ b n) λiv s2 ⟨y,H2,L,M,kvs,k,v,S,ey,l,q2⟩=>o9 ?_)));subst ey;exact PU L S M l (.inl rfl) λw' s3 I3 pG=>⟨v,_,I3,pG,q2⟩
theorem JX(q:PE X o td)(he:PE X e ty)(hf:PE X tg tx)(m:M2 X o "pop" b8 e tg p):PE X (.Call (.Attribute o "pop" b8) [e,tg] [] p) (RF td ty tx):=by
 intro U s Z H Q I h;refine sV m.base m.VM m.line qE sL PySem.F.type_dict_pop (eC (q U s Z H _ I h) λu s1 ⟨x,H1,g,M,a,ex,d,S⟩=>?_);subst ex;obtain rfl:u=Value.ref a:=M;obtain⟨t1,t2,_⟩:=AM g d;refine⟨t1,t2,?_⟩;rw[m.trees];refine nv rfl (nA (kF (eC (he U s1 Z H1 _ g S) λiv s2 ⟨y,H2,I2,n,q2⟩=>
  kF (eC (hf U s2 Z H2 _ I2 q2) λfv s3 ⟨z,H3,r,rz,kvs,k,L,ey,q3,q4⟩=>o9 ?_))))
 subst ey;cases l:mP kvs k with
 |some v=>exact PU r L n l (.inr ⟨fv,rfl⟩) λw' s4 b pG=>⟨v,_,b,pG,q3 v l⟩
 |none=>exact Rw r L n l λs4 b=>⟨z,H3,b,rz,q4 l⟩
end
theorem zE:∀{vs:List Value} {ns:List Int},IntsAre vs ns->Vals (ns.map V.int) vs
 |_,_,.nil=>.nil
 |_,_,.cons n t h=>.cons ⟨t,rfl⟩ (zE h)
def RG(H:Hp):Prop:=∀b,H b=none\/∃o xs,H b=some (.lB o (.lst xs))
theorem JY{mb:Str->Option Value}{CX:Ce}{fd:FuncData}{sp:Sp}{dg:Shared}{ns:List Int}
  (KX:K.In dg.heap) (RH:dg.heap.Ns mainGlobals mg) (hb:dg.heap.Ns builtinsNs mb) (hbb:∀x:Str,x≠"__name__"->mb x=bootBuiltins x) (aan:dg.heap.NoLimit) (hg:dg.gens=#[])
  (ha:dg.heap.get? a=some {cls:=.type "list",data:=.seq aq.toArray}) (hi:IntsAre aq ns) (hl:ns.length<=sizeLine) (hr:dc i callerA)
  (F:∀base:Heap,K.In base->base.Ns mainGlobals mg->d_ P w K mg base CX i au fd [x] sp) (VO:∀(s:Shared) (u:Value),BindsTo s fd ⟨[u],[]⟩ [(x,u)])
  (JM:∀H:Hp,RG H->lL K H a (ns.map V.int)->sp [.ref a] H (λv _=>v=.bl true) λ_ _ _=>False)
  (hCX:∀H e s',CX [] H dg (λ_ _ _=>False) e s'->False):
  codeAny (model P w) callerA (.call (.ref au) ⟨[.ref a],[]⟩) (λr s'=>r=.ok (.ret (.bool true))/\OldK dg.heap s'.heap/\s'.os=dg.os/\AllBare s'.gens) dg:=by
 have rv:=zE hi;have L:=hi.length;have core:∀H:Hp,RG H->lL K H a (ns.map V.int)->rV P w H dg.heap->(∀b,H b≠none->b=a)->(H a≠none->K.lookup a=none)->
   codeAny (model P w) callerA (.call (.ref au) ⟨[.ref a],[]⟩) (λr s'=>r=.ok (.ret (.bool true))/\OldK dg.heap s'.heap/\s'.os=dg.os/\AllBare s'.gens) dg:=by
  intro H hO hS cU hA hK;have FV:∀{b:Addr} {o:Obj},dg.heap.get? b=some o->H b=none->(Az dg.heap H).get? b=some o:=λe n=>Jo e n;have VB:∀{b:Addr} {o:Obj} {es:Array DictEntry} {ep:Nat},dg.heap.get? b=some o->o.data=.dict es ep->H b=none:=λ{b o es ep} e d=>by
   cases q:H b with
   |none=>rfl
   |some u=>
    have M:b=a:=hA b (by rw[q];simp);subst M;rw[ha]at e;cases e;have d':Data.seq aq.toArray _=Data.dict es ep:=d;cases d'
  have I:∀{b:Addr} {m:Str->Option Value},dg.heap.Ns b m->(Az dg.heap H).Ns b m:=λ{b m} ⟨o,es,ep,e,d,r⟩=>⟨o,es,ep,FV e (VB e d),d,r⟩;have g:K.In (Az dg.heap H):=λb o e=>FV (KX b o e) (by
   cases q:H b with
   |none=>rfl
   |some u=>
    have M:b=a:=hA b (by rw[q];simp);subst M;rw[hK (by rw[q];simp)]at e;cases e)
  have hM:Mod K mg (Az dg.heap H):=⟨g,I RH,⟨mb,I hb,hbb⟩,let⟨mc,h1,h2⟩:=aan;⟨mc,I h1,h2⟩⟩;have e0:y9 P w K mg (Az dg.heap H) callerA [] dg H:=⟨rfl,hM,λb o e=>MU e,Nat.le_of_eq (Hj _ _),trivial,λb hb=>absurd (show b∈([]:List Addr)from hb) (by simp),cU,.of_eq hg⟩;refine iA ((F _ g (I RH)).run callerA [] dg H ⟨[.ref a],[]⟩ [.ref a] [.ref a] _ _ hr e0 (VO dg (.ref a)) (.cons rfl .nil) (JM H hO hS)) λr s' h=>?_
  cases r with
  |error e=>exact(hCX H e s' h).elim
  |ok fl=>
   cases fl with
   |next=>exact False.elim h
   |brk=>exact False.elim h
   |cont=>exact False.elim h
   |ret u=>
    obtain⟨v,H',os,bare,un,S,r',q⟩:=h;have q':v=.bl true:=q;subst q';obtain rfl:u=Value.bool true:=r';refine⟨rfl,OldK.of_keep λb o e=>?_,os,bare⟩;cases q:H b with
    |none=>exact un.keep b o e q (by intro z;exact absurd (show b∈([]:List Addr)from z) (by simp)) (by simp)
    |some u=>
     rcases hO b with z|⟨ob,xs,z⟩
     ·rw[q]at z;cases z
     ·have z2:=un.lC b ob _ z;obtain⟨e1,_⟩:=cU b _ z;obtain⟨e2,_⟩:=S b _ z2;rw[e]at e1;cases e1;exact e2
 cases hk:K.lookup a with
 |some o=>
  have e:=KX a o hk;rw[ha]at e;cases e;refine core (λ_=>none) (λ_=>.inl rfl) (.inr ⟨_,aq.toArray,_,hk,rfl,rfl,rfl,by rw[cS,L];exact hl,by simpa using rv⟩) (λb u z=>by have l:(none:Option HO)=some u:=z;cases l) (λb z=>absurd rfl z) λz=>absurd rfl z
 |none=>
  refine core (λb=>if b=a then some (.lB {cls:=.type "list",data:=.seq aq.toArray} (.lst (ns.map V.int)))else none) (λb=>?_) (.inl (.inr ⟨{cls:=.type "list",data:=.seq aq.toArray},aV rfl⟩)) (λb u z=>?_) (λb z=>?_) λ_=>hk
  ·by_cases hb:b=a
   ·exact .inr ⟨_,_,aV hb⟩
   ·exact .inl (bb hb)
  ·by_cases hb:b=a
   ·have l:=(aV hb).symm.trans z;cases l;subst hb;exact⟨ha,by rw[bt];exact hl,aq,_,rv,ha⟩
   ·have l:=(bb hb).symm.trans z;cases l
  ·by_cases hb:b=a
   ·exact hb
   ·exact absurd (bb hb) z
def Nt{l:PySem.W.OpenLaw}{n k:Nat}{XP:(Str->Option Value)->Heap->Prop}{YP:World->Heap->Prop}{d:DefRec}{K:Params->Frag}{CX:World->Ce}{sp:World->Sp}{x:Str}
  (hn:l.most=some n) (Rf:n<=sizeLine) (U7:d.params.defaults=[]) (hr:dc k callerA)
  (hY:∀(w:World) (h:Heap),YP w h->(K w.params).In h)
  (F:∀(w:World) (mg:Str->Option Value) (fa:Addr) (h:Heap),(K w.params).In h->h.Ns mainGlobals mg->mg d.name=some (.ref fa)->
   ∃fd:FuncData,(∀(s:Shared) (u:Value),BindsTo s fd ⟨[u],[]⟩ [(x,u)])/\
    ∀base:Heap,(K w.params).In base->base.Ns mainGlobals mg->d_ l.prog w (K w.params) mg base (CX w) k fa fd [x] (sp w))
  (JM:∀(w:World) (H:Hp) (a:Addr) (ns:List Int),ns.length<=n->RG H->lL (K w.params) H a (ns.map V.int)->sp w [.ref a] H (λv _=>v=.bl true) λ_ _ _=>False)
  (q:∀(w:World) (H:Hp) (s:Shared) (e:Value) (s':Shared),CX w [] H s (λ_ _ _=>False) e s'->False):
  PySem.W.WalkO P ps XP YP l.row.toRowW d [] (λf vs=>PySem.call f vs):=by
 refine Att.B8 hn U7 λw gj L mg mb fa o pm cd doc a vs ns G M ho hd D_ S QL hints r hg=>?_
 have I:=hY w _ M;obtain⟨fd,hb,hF⟩:=F w mg fa _ I G.T.g S;exact JY I G.T.g G.T.b G.T.builtins G.T.nolimit hg QL hints (cB r Rf) hr hF hb (λH hO hS=>JM w H a ns r hO hS) λH e s'=>q w H L e s'
noncomputable def v9(s:Stmt):Arguments:=match s with
 |.FunctionDef _ a _ _ _ _ _ _ _ _=>a
 |_=>{posonlyargs:=[],args:=[],vararg:=none,kwonlyargs:=[],kw_defaults:=[],kwarg:=none,defaults:=[]}
noncomputable def fM(s:Stmt):List Stmt:=match s with
 |.FunctionDef _ _ b _ _ _ _ _ _ _=>b
 |_=>[]
noncomputable def bF(s:Stmt):Scope:=match s with
 |.FunctionDef _ _ _ _ _ _ sc _ _ _=>sc
 |_=>{kind:=.function,names:=[],isGenerator:=false,isCoroutine:=false}
abbrev mq:Ce:=fun _ _ _ _ _ _=>False
abbrev E0:XK:=fun _ _ _=>False
def JZ:Passes mq X E0:=λ_ _ _ _ _ _ _ h=>h.elim
structure y4(K:Frag)(x qual:Str)(st:Stmt)(f:Addr)(fd:FuncData):Prop where
 ex:∃(oc:Value) (od:Option Addr) (kV doc pm:Value) (an:Option Addr) (fO ct:Value) (JL:Array (Option Value)),
  fd=PySem.W.fnOf x qual (v9 st) (fM st) (bF st) .none kV doc pm an fO ct/\K.lookup f=some ⟨oc,od,.func fd,JL⟩/\PySem.W.codeIn K fO qual=true
 kp:PySem.W.keepIn K (.ref f)=true
def y4.ok {qual:Str}{st:Stmt}{f:Addr}{fd:FuncData}{N:List Str}{k:Nat}{sp:Sp}(F:y4 K x qual st f fd)(S:g6 N ps (bF st))(len:∀vs H Q E,sp vs H Q E->vs.length=ps.length)
  (kQ:∀(fO:Value) (A:Around) (outer:List Env) (s:Shared) (H:Hp) (vs:List V) (Q:VK) (E:XK),dc k (A.deeper (envOfC qual (bF st) s.heap.objs.size f fO))->sp vs H Q E->
   ∃t,oK (oG mq P w K mg aa N qual (bF st) f fO A outer s H E).Jf (fM st) t/\t {nx:=λ_ H'=>Q .cx H',rt:=Q} (start N vs) H):d_ P w K mg aa mq (k+1) f fd ps sp:=by
 obtain⟨n,od,kV,doc,pm,an,fO,ct,JL,rfl,lk,b⟩:=F.ex;refine PL lk b S len λA outer s H vs Q E g l=>?_
 obtain⟨t,h,q⟩:=kQ fO A outer s H vs Q E g l;exact⟨t,h.Jf,q⟩
def y4.binds {qual:Str}{st:Stmt}{f:Addr}{fd:FuncData}(F:y4 K x qual st f fd)
  (h:∀(kV doc pm:Value) (an:Option Addr) (fO ct:Value) (us:List Value),us.length=ps.length->bindArgs (PySem.W.fnOf x qual (v9 st) (fM st) (bF st) .none kV doc pm an fO ct) ⟨us,[]⟩=pure (ps.zip us)):Binds K fd ps []:=by
 obtain⟨b,od,kV,doc,pm,an,fO,ct,JL,rfl,lk,g⟩:=F.ex;exact .all (h kV doc pm an fO ct)
theorem a_(q:dc i A):A.units+1<cLine:=sP (Nat.add_le_add_left (by decide:1<=64) _) q.units
def RI{A B:Prop}(h:B):if false=true then A else B:=by
 rw[bb fK];exact h
def RJ{A B:Prop}(h:A):if true=true then A else B:=by
 rw[aV rfl];exact h
def bf(H H':Hp):Prop:=∀b o,H b=some o->H' b=some o
def bf.refl (H:Hp):bf H H:=λ_ _ h=>h
def bf.trans {H1 H2:Hp}(a:bf H H1)(b:bf H1 H2):bf H H2:=λc o h=>b c o (a c o h)
def bf.free {H':Hp}(e:bf H H'){l:Addr}(h:H' l=Option.none):H l=Option.none:=by
 cases q:H l with
 |none=>rfl
 |some o=>
  rw[e l o q]at h;cases h
def bf.seq {H':Hp}{xs:List V}(e:bf H H')(h:lL K H a xs):lL K H' a xs:=by
 rcases h with(h|⟨o,h⟩)|h
 ·exact .inl (.inl (e _ _ h))
 ·exact .inl (.inr ⟨o,e _ _ h⟩)
 ·exact .inr h
theorem xA{α β:Type}{f:α->β->Sem (ForInStep β)}{g:β->α->β}:∀(l:List α) (c:β),(∀x∈l,∀c,f x c=pure (.yield (g c x)))->forIn l c f=(pure (l.foldl g c):Sem β)
 |[],c,_=>rfl
 |x::l,c,h=>by
  rw[o_,h x cz,pure_bind];exact xA l _ λy b=>h y (ck _ b)
noncomputable def l0(env:Env)(cs:List (Str×Addr))(x:Str×NameKind):List (Str×Addr):=if x.2== .free then(x.1,(env.cells.lookup x.1).getD 0)::cs else cs
def Ep(scope:Scope)(env:Env):List (Str×Addr):=scope.names.foldl (l0 env) []
def t_{env:Env}(h:∀x∈ax.names,x.2=.free->∃c,env.cells.lookup x.1=some c):closureFor ax env=pure (Ep ax env):=by
 simp only[closureFor];rw[xA (g:=l0 env) ax.names [] (λx l c=>by
  obtain⟨n,k⟩:=x;by_cases b:k=.free
  ·subst b;obtain⟨a,ha⟩:=h _ l rfl;have r:env.cells.lookup n=some a:=ha;simp[cellOf,r,l0]
  ·have e:(k==NameKind.free)=false:=by simpa using b
   simp[e,l0])]
 rfl
theorem xB{env:Env}:∀(names:List (Str×NameKind)) (acc:List (Str×Addr)),(∀x∈names,x.2=.free->∃c,env.cells.lookup x.1=some c)->(∀x c,acc.lookup x=some c->env.cells.lookup x=some c)->
  ∀x c,(names.foldl (l0 env) acc).lookup x=some c->env.cells.lookup x=some c
 |[],_,_,ha,x,c,e=>ha x c e
 |(n,k)::r,acc,hf,ha,x,c,e=>by
  refine xB r (l0 env acc (n,k)) (λy g=>hf y (ck _ g)) (λy d b=>?_) x c e;unfold l0 at b;by_cases l:k=.free
  ·subst l;obtain⟨a,hn⟩:=hf (n,.free) cz rfl;have I:env.cells.lookup n=some a:=hn;simp only[bX,cC,I,o6,cK]at b;split at b
   ·rename_i g;have:y=n:=by simpa using g
    subst this;rw[I];exact b
   ·exact ha y d b
  ·have e:(k==NameKind.free)=false:=by simpa using l
   simp only[e,cR,cq]at b;exact ha y d b
theorem xC{env:Env}:∀(names:List (Str×NameKind)) (acc:List (Str×Addr)) (x:Str),((acc.lookup x).isSome=true\/(x,NameKind.free)∈names)->((names.foldl (l0 env) acc).lookup x).isSome=true
 |[],_,_,h=>h.elim (λz=>z) λz=>absurd z (by simp)
 |(n,k)::r,acc,x,h=>by
  refine xC r (l0 env acc (n,k)) x ?_
  unfold l0;rcases h with h|h
  ·left;split
   ·rw[cK];split<;>simp_all
   ·exact h
  ·rcases bE.mp h with h|h
   ·left;cases h;simp[cK]
   ·exact .inr h
theorem rZ{env:Env}:∀{names:List (Str×NameKind)} {x:Str} {k:NameKind},(names.map λ(n,k)=>if(k==NameKind.free&&env.scope.kind== .function&&env.kindOf n==some .cell)then(n,NameKind.cell)else(n,k)).lookup x=some k->
  names.lookup x=some k\/names.lookup x=some .free
 |[],_,_,h=>by simp at h
 |(n,j)::r,x,k,h=>by
  simp only[bL]at h;by_cases g:x=n
  ·subst g;by_cases b:(j==NameKind.free&&env.scope.kind== .function&&env.kindOf x==some .cell)=true
   ·rw[aV b]at h;simp only[bU,ff]at b;right;rw[cK,bX,b.1.1]
   ·rw[bb b]at h;left;rw[cK,bX]at h⊢;exact h
  ·have e:(x==n)=false:=by simpa using g
   have h':(r.map λ(n,k)=>if(k==NameKind.free&&env.scope.kind== .function&&env.kindOf n==some .cell)then(n,NameKind.cell)else(n,k)).lookup x=some k:=by
    split at h<;>(rw[cK,e]at h;exact h)
   rcases rZ h' with z|z
   ·left;rw[cK,e];exact z
   ·right;rw[cK,e];exact z
theorem ua{env:Env}:∀{names:List (Str×NameKind)} {x:Str},names.lookup x=some .free->
  (names.map λ(n,k)=>if(k==NameKind.free&&env.scope.kind== .function&&env.kindOf n==some .cell)then(n,NameKind.cell)else(n,k)).lookup x=some .cell\/
  (names.map λ(n,k)=>if(k==NameKind.free&&env.scope.kind== .function&&env.kindOf n==some .cell)then(n,NameKind.cell)else(n,k)).lookup x=some .free
 |[],_,h=>by simp at h
 |(n,j)::r,x,h=>by
  simp only[bL];by_cases b:x=n
  ·subst b;rw[cK,bX]at h;have l:j=.free:=Option.some.inj h;by_cases g:(j==NameKind.free&&env.scope.kind== .function&&env.kindOf x==some .cell)=true
   ·left;rw[aV g,cK,bX]
   ·right;rw[bb g,cK,bX,l]
  ·have e:(x==n)=false:=by simpa using b
   rw[cK,e]at h;rcases ua (env:=env) h with z|z
   ·left;split<;>(rw[cK,e];exact z)
   ·right;split<;>(rw[cK,e];exact z)
def ub(X:Cx)(scope:Scope)(N:List Str)(s:Shared)(H:Hp)(ex:List Addr):Cx where
 prog:=X.prog
 w:=X.w
 K:=X.K
 mg:=X.mg
 base:=X.base
 A:=X.A
 N:=N
 gj:=s
 Ca:=H
 env:=compEnvC scope (Ep scope X.env) s.heap.objs.size X.env
 outer:=X.stack
 stack:=X.stack
 ex:=ex
 fn:=λ_=>false
 calm:=X.calm
 pn:=[]
 xe:=λ_ _=>False
noncomputable def VP(N N':List Str)(ix:List (Option Nat))(sc scope:Scope):Bool:=
 decide (N'.length=ix.length)&&(N'.zip ix).all (λp=>match p.2 with
  |none=>true
  |some j=>decide (N[j]?=some p.1)&&decide (scope.names.lookup p.1=some .free))&&
 scope.names.all (λy=>y.2 != .cell&&(y.2 != .free||decide (sc.names.lookup y.1=some .cell))&&(y.2 != .local||decide (scope.names.lookup y.1=some .local)))&&(scope.kind== .function)
structure gL(X:Cx)(N':List Str)(ix:List (Option Nat))(scope:Scope):Prop where
 len:N'.length=ix.length
 free:∀(i:Nat) (x:Str) (j:Nat),N'[i]?=some x->ix[i]?=some (some j)->X.N[j]?=some x/\scope.names.lookup x=some .free
 J0:∀y∈scope.names,y.2≠ .cell
 cell:∀y∈scope.names,y.2=.free->X.env.scope.names.lookup y.1=some .cell
 loc:∀y∈scope.names,y.2=.local->scope.names.lookup y.1=some .local
 kind:scope.kind=.function
def gL.of {N N':List Str}{ix:List (Option Nat)}{sc scope:Scope}(hN:X.N=N)(hs:X.env.scope=sc)(h:VP N N' ix sc scope=true):gL X N' ix scope:=by
 unfold VP at h;simp only[bU,iy,dz]at h;obtain⟨⟨⟨l,h2⟩,g⟩,n⟩:=h;refine⟨l,λi x j r I=>?_,λy b z=>?_,λy b z=>?_,λy b z=>?_,by simpa using n⟩
 ·have m:(x,some j)∈N'.zip ix:=dZ (i:=i) (by rw[List.getElem?_zip_eq_some];exact⟨r,I⟩);have q:=h2 _ m;simp only[bU,iy]at q;rw[hN];exact q
 ·have q:=(g y b).1.1;rw[z]at q;simp at q
 ·have q:=(g y b).1.2;rw[z]at q;simp only[sR,kL,iy]at q;rw[hs];exact q
 ·have q:=(g y b).2;rw[z]at q;simp only[sR,kL,iy]at q;exact q
noncomputable def jn(ix:List (Option Nat))(Z:St):St:=ix.map λo=>o.bind λj=>(Z[j]?).join
theorem Er{ix:List (Option Nat)}{fp:List Addr}(L:gL X ps ix ax)(I:Inv X U Z H s)
  (RH:aa.Ns s.heap.objs.size (λ_=>none)) (Nu:∀b o,s.heap.get? b=some o->aa.get? b=some o)
  (hf:∀b∈fp,kP X U H b) (hfo:∀b∈fp,b<s.heap.objs.size):Inv (ub X ax ps s H fp) [] (jn ix Z) H {s with heap:=aa,toks:=az}:=by
 have xD:∀y∈ax.names,y.2=.free->∃c,X.env.cells.lookup y.1=some c:=λy hy z=>I.ok.has y.1 (.inl (L.cell y hy z));have sub:∀x c,(Ep ax X.env).lookup x=some c->X.env.cells.lookup x=some c:=xB ax.names [] xD (λx c e=>by simp at e);have has:∀x,ax.names.lookup x=some .free->∃c,(Ep ax X.env).lookup x=some c:=λx e=>
  sE.mp (xC ax.names [] x (.inr (lH e)))
 have MJ:∀b∈fp,b∉jV X.stack:=λb hb z=>by
  obtain⟨_,f1,f2,_⟩:=hf b hb;rcases bE.mp (I.xl b z)with q|q
  ·exact f1 q
  ·exact f2 q
 refine⟨⟨I.ok.mod,L.kind,I.ok.glob,I.ok.blt,bz _,λx y c M g=>I.ok.inj x y c (sub x c M) (sub y c g),λx S=>?_,λx c z=>absurd (show false=true from z) fK,I.ok.hd,I.ok.frames,.inl rfl,
   λb hb=>⟨bY (hfo b hb),λx c e=>(hf b hb).2.2.2.2.1 x c (sub x c e)⟩,I.bs,cB I.ok.Hk I.sz,λb o e hb=>?_,MJ,I.stack,I.v7⟩,
  rfl,I.bare,Un.kept Nu,⟨_,RH,λi x v M g e3=>?_⟩,λx c e=>?_,I.fresh,λx c e=>I.fP x c (sub x c e),λp hp=>absurd (show p∈([]:List (Addr×Obj))from hp) (by simp),I.cU.kept Nu,?_⟩
 ·have S:(relabel ax X.env).names.lookup x=some .cell\/(relabel ax X.env).names.lookup x=some .free:=S;have FC:ax.names.lookup x=some .free:=by
   rcases S with z|z
   ·rcases rZ z with q|q
    ·exact absurd rfl (L.J0 _ (lH q))
    ·exact q
   ·rcases rZ z with q|q
    ·exact q
    ·exact q
  exact has x FC
 ·obtain⟨_,_,_,q,_⟩:=hf b hb;rcases q with q|q
  ·exact I.ok.AA b o e q
  ·exact absurd (c_ (bu (I.ok.bs b o e).1) q) (eP _)
 ·
  unfold jn at g;rw[b_]at g;cases eo:ix[i]? with
  |none=>rw[eo]at g;cases g
  |some o=>
   rw[eo]at g;cases o with
   |none=>exact absurd (show(some none:Option (Option V))=some (some v)from g) (by simp)
   |some j=>
    obtain⟨n1,n2⟩:=L.free i x j M eo;have n:(Z[j]?).join=some v:=Option.some.inj (show some ((Z[j]?).join)=some (some v)from g);have e4:Z[j]?=some (some v):=by
     cases q:Z[j]? with
     |none=>rw[q]at n;cases n
     |some z=>
      rw[q]at n;have:z=some v:=n;rw[this]
    have FW:X.env.scope.names.lookup x=some .cell:=L.cell _ (lH n2) rfl;obtain⟨m,hn,hl⟩:=I.loc;obtain⟨u,r,l⟩:=hl j x v n1 e4 (.inr (.inl FW));refine⟨u,r,?_⟩;rcases l with⟨k,_⟩|⟨k,c,ec,z⟩
    ·have k':X.env.scope.names.lookup x=some .local:=k;rw[FW]at k';cases k'
    ·obtain⟨c',Vg⟩:=has x n2;have ecc:c'=c:=by
      have q:=sub x c' Vg;rw[ec]at q;exact(Option.some.inj q).symm
     subst ecc;refine .inr ⟨?_,c',Vg,?_⟩
     ·exact ua n2
     ·obtain⟨o',MV,MW⟩:=z;exact⟨o',Nu _ _ MV,MW⟩
 ·obtain⟨v,o,ho,hd⟩:=I.cell x c (sub x c e);exact⟨v,o,Nu _ _ ho,hd⟩
 ·show(jn ix Z).length=ps.length;unfold jn;rw[bt];exact L.len.symm
noncomputable abbrev FX(ifs:List Expr)(env:Env):Sem Bool:=forIn ifs true fun c r=>if r=true then do let ok<-isTrue c env (eval c env);pure (ForInStep.yield ok)else pure (ForInStep.yield r)
theorem Nv{acc:Value}{env:Env}(I:Nat->Shared->Prop)
  (turn:∀n s,I n s->wpAny (model P w) A (pyNext af) (λr q=>match r with
   |none=>aw (.ok .next) q
   |some v=>wpAny (model P w) A (letOwnedTupleGo o af v) (λ_ PV=>wpAny (model P w) A (assign o env v) (λ_ tR=>
     wpAny (model P w) A (FX es env) (λok Cm=>
      if ok=true then wpAny (model P w) A (eval e env) (λx Nw=>
       wpAny (model P w) A (call (.builtin "list.append") [acc,x]) (λ_ VQ=>∃m,m<n/\I m VQ) (λ_ _=>False) Nw) (λ_ _=>False) Cm
      else∃m,m<n/\I m Cm) (λ_ _=>False) tR) (λ_ _=>False) PV) (λ_ _=>False) q) (λ_ _=>False) s)
  (n:Nat) (h:I n s):codeAny (model P w) A (.compLoop (.ListComp e [⟨o,tg,es,0⟩] ax pos) 0 af acc env) aw s:=by
 refine codeAny_loop rfl I (λn s l=>?_) n h;show wpAny _ A ((compTurn (.ListComp e [⟨o,tg,es,0⟩] ax pos) 0 af acc env).onRaise (λx=>do noteFrame x env;theTreesLotGoes x)) _ _ s;refine wpAny_noted ?_
 rw[compTurn_list];refine aS (wpAny_standAt (aS (d6 (turn n s l) (λr q b=>?_) λ_ _ f=>f.elim)));cases r with
 |none=>exact bc b
 |some v=>
  refine aS (d6 b (λ_ PV L=>?_) λ_ _ f=>f.elim);refine aS (d6 L (λ_ tR M=>aS (d6 M (λok Cm g=>?_) λ_ _ f=>f.elim)) λ_ _ f=>f.elim);cases ok with
  |false=>exact bc ⟨rfl,g⟩
  |true=>exact aS (aS (d6 g (λx Nw S=>aS (d6 S (λ_ VQ ri=>bc (bc ⟨rfl,ri⟩)) λ_ _ f=>f.elim)) λ_ _ f=>f.elim))
def PF(X:Cx)(ifs:List Expr)(t:TT):Prop:=
 ∀(U:List (Addr×Obj)) (s:Shared) (Z:St) (H:Hp) (Q:Bool->Hp->Prop),Inv X U Z H s->t Z H Q->wpAny (model X.prog X.w) X.A (FX ifs X.env) (TP X U Z Q) X.xe s
def RL:PF X [] (λ_ H Q=>Q true H):=λ_ _ _ H _ I h=>wpAny_tests_nil ⟨H,I,h⟩
theorem RM{t:TT}(h:PT X e t):PF X [e] t:=λU s Z H Q I q=>wpAny_tests_one (h U s Z H Q I q)
def LcW(J:It)(D:Addr)(q:St)(H0:Hp)(g:TG)(tc:TT)(te:TE)(Q:Hp->Prop):Prop:=
 ∃W:Nat->Nat->St->Hp->Prop,(∃m,W 0 m q H0)/\∀i m Z H,W i m Z H->(J.stop i H/\Q H)\/
  (J.go i H/\∃N:St->Hp->Prop,(∀n H',N n H'->∃r,r<m/\W (i+1) r n H')/\∀x H',J.FI i H x H'->g x Z H' λl H2=>tc l H2 λb I=>
    if b=true then te l I λy L=>∃ys,L D=some (.lst ys)/\ys.length<sizeLine/\N l (upd L D (.lst (ys++[y])))else N l I)
def UM(q:TI)(ix:List (Option Nat))(g:TG)(tc:TT)(te:TE):TE:=λZ H Q=>q Z H λJ H1=>∀D,H1 D=none->LcW J D (jn ix Z) (upd H1 D (.lst [])) g tc te λH'=>Q (.ref D) H'
section
variable {scope:Scope}{ix:List (Option Nat)}{elt:Expr}{g:TG}{tc:TT}{te:TE}
theorem FY{use:Option (Value->Sem Unit)}{QD:Addr->Hp->Prop}{s2:Shared}{fp:List Addr}{tn:Nat->Heap->Prop}{J:It}
  (L:gL X ps ix scope) (hc:X.calm=true) (lD:∀s H ex,PG (ub X scope ps s H ex) tg g/\PF (ub X scope ps s H ex) aA tc/\PE (ub X scope ps s H ex) elt te)
  (I2:Inv X U Z ac s2) (T:Turn X.prog X.w X.K tg J fp a tn) (M5:tn 0 s2.heap) (f2:∀b∈fp,kP X U ac b)
  (hw:∀D,ac D=none->LcW J D (jn ix Z) (upd ac D (.lst [])) g tc te (QD D))
  (aaq:∀D C H' s' m,Inv X U Z H' s'->kP X U H' C->s'.heap.Ns C m->QD D H'->compPost (model X.prog X.w) X.A X.xe use E (.ref D) C (.ok .next) s'):
  wpAny (model X.prog X.w) X.A (newList []) (λacc Cm=>wpAny (model X.prog X.w) X.A (newFunctionEnv scope X.env.globals (Ep scope X.env) [] X.env.qual none .none (some X.env)) (λVS Nw=>
   codeAny (model X.prog X.w) X.A (.compStart (.ListComp elt [⟨tg,am,aA,0⟩] scope pos) 0 (.ref a) acc {VS with scope:=relabel scope X.env}) (compPost (model X.prog X.w) X.A X.xe use E acc VS.locals) Nw) X.xe Cm) X.xe s2:=by
 refine kG (wpAny_newFunctionEnv L.J0 (by intro y hy;simp at hy) (λfR Es Et=>?_) L.kind);dsimp only at Es Et⊢;have hD:ac s2.heap.objs.size=none:=I2.fresh;have I3:Inv X U Z (upd ac s2.heap.objs.size (.lst [])) {s2 with heap:=s2.heap.push {cls:=.type "list",data:=.seq ([]:List Value).toArray},toks:=s2.toks}:=I2.Nk (cn:=[]) .nil (d5 _);generalize hs3:({s2 with heap:=s2.heap.push {cls:=.type "list",data:=.seq ([]:List Value).toArray},toks:=s2.toks}:Shared)=s3 at I3;have e3:({s2 with heap:=s2.heap.push {cls:=.type "list",dict:=none,data:=.seq ([]:List Value).toArray}}:Shared)=s3:=hs3;have eh:s2.heap.push {cls:=.type "list",dict:=none,data:=.seq ([]:List Value).toArray}=s3.heap:=cT Shared.heap e3;have eos:s3.os=s2.os:=by rw[<-e3]
 have ek:∀b o,s2.heap.get? b=some o->s3.heap.get? b=some o:=λb o e=>by rw[<-eh];exact bP _ e
 have RN:s2.heap.objs.size<=s3.heap.objs.size:=by rw[<-eh,jv];exact pA _
 rw[eh]at Es Et⊢;have f3:∀b∈fp,kP X U (upd ac s2.heap.objs.size (.lst [])) b:=λb hb=>by
  obtain⟨o,eo,_⟩:=T.obj _ _ M5 b hb;refine⟨?_,(f2 b hb).2⟩;rw[bh (bY (bu eo))];exact(f2 b hb).1
 have D3:∀b∈fp,b<s3.heap.objs.size:=λb hb=>by
  obtain⟨o,eo,_⟩:=T.obj _ _ M5 b hb;exact c_ (bu eo) RN
 have k4:∀b o,s3.heap.get? b=some o->fR.get? b=some o:=λb o e=>Et.extBut b o (bY (bu e)) (bP _ e);have st4:tn 0 fR:=T.keep _ _ _ M5 λb _ o e=>k4 b o (ek b o e);obtain⟨W,⟨m0,w0⟩,turn⟩:=hw s2.heap.objs.size hD;have I4:∀l,Inv (ub X scope ps s3 (upd ac s2.heap.objs.size (.lst [])) fp) [] (jn ix Z) (upd ac s2.heap.objs.size (.lst [])) {s3 with heap:=fR,toks:=l}:=λl=>
  Er L I3 Es k4 f3 D3
 obtain⟨hg,hf,he⟩:=lD s3 (upd ac s2.heap.objs.size (.lst [])) fp;have Ee:∀{H':Hp},(∀b∈fp,H' b=none)->∀b∈fp,kP (ub X scope ps s3 (upd ac s2.heap.objs.size (.lst [])) fp) [] H' b:=λ{H'} hn b hb=>by
  have ok:=(I4 0).ok;obtain⟨x1,x2⟩:=ok.UH b hb;exact⟨hn b hb,x1,ok.Cb b hb,.inl hb,x2,λp hp=>absurd (show p∈([]:List (Addr×Obj))from hp) (by simp)⟩
 have loop:∀l,codeAny (model X.prog X.w) X.A (.compLoop (.ListComp elt [⟨tg,am,aA,0⟩] scope pos) 0 (.ref a) (.ref s2.heap.objs.size) (compEnvC scope (Ep scope X.env) s3.heap.objs.size X.env))
   (compPost (model X.prog X.w) X.A X.xe use E (.ref s2.heap.objs.size) s3.heap.objs.size) {s3 with heap:=fR,toks:=l}:=λl=>by
  refine Nv (λn s'=>∃i du H',Inv (ub X scope ps s3 (upd ac s2.heap.objs.size (.lst [])) fp) [] du H' s'/\tn i s'.heap/\(∀b∈fp,H' b=none)/\W i n du H') ?_ m0
   ⟨0,_,_,I4 l,st4,λb hb=>(f3 b hb).1,w0⟩
  rintro n s5 ⟨i,Zf,S,I5,UI,Zc,w5⟩
  rcases turn i n Zf S w5 with⟨stop,qn⟩|⟨go,N,hN,step⟩
  ·refine eC (T.done (ub X scope ps s3 (upd ac s2.heap.objs.size (.lst [])) fp) rfl rfl rfl hc i [] s5 Zf S _ I5 (Ee Zc) UI stop) λr s6 ⟨hr,q⟩=>?_
   subst hr;have u:Un (jV X.stack) fp ac S s2.heap s6.heap:=(Un.laid (o:=.lst []) ek (bz _) hD).trans q.base;have J6:Inv X U Z S s6:=I2.Vh (ch:=fp) (q.os.trans eos) u q.cU q.bare λb hb=>by
    obtain⟨_,x1,_,x3,x4,x5⟩:=f2 b hb;exact⟨x3,x1,x4,x5⟩
   obtain⟨m,hm,_⟩:=q.loc;exact aaq _ _ S s6 m J6 (I2.xn RN q.free) hm qn
  ·refine eC (T.item (ub X scope ps s3 (upd ac s2.heap.objs.size (.lst [])) fp) rfl rfl rfl hc i [] s5 Zf S _ I5 (Ee Zc) UI go) λr s6 ⟨v,hr,h6⟩=>?_
   subst hr;refine eC h6 λ_ s7 ⟨x,H7,I7,r7,y7,I,fr7⟩=>?_
   have I7':=I7.pinned (Ee fr7) (T.obj _ _ I);refine eC (hg _ s7 Zf H7 x v _ I7' r7 (step x H7 y7)) λ_ s8 ⟨Zg,H8,I8,q8⟩=>?_
   have again:∀{VT:St} {M:Hp} {s9:Shared},Inv (ub X scope ps s3 (upd ac s2.heap.objs.size (.lst [])) fp) ([]++xp fp s7.heap) VT M s9->N VT M->
     ∃m,m<n/\∃i du H',Inv (ub X scope ps s3 (upd ac s2.heap.objs.size (.lst [])) fp) [] du H' s9/\tn i s9.heap/\(∀b∈fp,H' b=none)/\W i m du H':=λ{VT M s9} I9 n9=>by
    obtain⟨m',hm,w9⟩:=hN VT M n9;refine⟨m',hm,i+1,VT,M,I9.tN,T.keep _ _ _ I λb hb o e=>(I9.pin (b,o) (dw _ (dw _ (nF hb e)))).1,λb hb=>?_,w9⟩;obtain⟨o,e,d⟩:=T.obj _ _ I b hb;exact(I9.pin (b,o) (dw _ (dw _ (nF hb e)))).2.1
   refine eC (hf _ s8 Zg H8 _ I8 q8) λok s9 ⟨M,I9,q9⟩=>?_
   cases ok with
   |false=>exact again I9 q9
   |true=>
    refine eC (he _ s9 Zg M _ I9 q9) λy s10 ⟨v10,H10,I10,r10,ys,hy,hz,n10⟩=>?_
    refine eC (iX _ s10 Zg H10 (.ref s2.heap.objs.size) [v10] (.ref s2.heap.objs.size) [y] (λ_ H'=>N Zg H') I10 rfl (.cons r10 .nil) ⟨_,ys,v10,rfl,rfl,hy,hz,n10⟩) λ_ s11 ⟨_,H11,I11,_,q11⟩=>?_
    exact again I11 q11
 have es:∀l,({s2 with heap:=fR,toks:=l}:Shared)={s3 with heap:=fR,toks:=l}:=λl=>by rw[<-e3]
 have PX:∀l,codeAny (model X.prog X.w) X.A (.compLoop (.ListComp elt [⟨tg,am,aA,0⟩] scope pos) 0 (.ref a) (.ref s2.heap.objs.size) (compEnvC scope (Ep scope X.env) s3.heap.objs.size X.env))
   (compPost (model X.prog X.w) X.A X.xe use E (.ref s2.heap.objs.size) s3.heap.objs.size) {s2 with heap:=fR,toks:=l}:=λl=>by
  rw[es l];exact loop l
 exact codeAny_compStart_list (PX _) (T.self _ 0 _ _ _ st4 (PX _))
theorem J4{wi:TI}(L:gL X ps ix scope)(hc:X.calm=true)(hi:PI X tg am wi)(lD:∀s H ex,PG (ub X scope ps s H ex) tg g/\PF (ub X scope ps s H ex) aA tc/\PE (ub X scope ps s H ex) elt te)
  (hs:∀x,foldedSetIterable am X.env x=pure x:=by intro _;rfl):PE X (.ListComp elt [⟨tg,am,aA,0⟩] scope pos) (UM wi ix g tc te):=by
 intro U s Z H Q I h;have l:∀y∈scope.names,y.2=.free->∃c,X.env.cells.lookup y.1=some c:=λy n z=>I.ok.has y.1 (.inl (L.cell y n z));rw[eval_ListComp];refine wpAny_comprehension_free (use:=none) rfl hs (t_ l) L.kind L.loc (eC (hi U s Z H _ I h) λv s1 r=>eC r λZa s2 h2=>?_);obtain⟨it,fp,tn,J,H2,e,M,T,S,f2,hw⟩:=h2;subst e;refine FY (QD:=λD H'=>Q (.ref D) H') L hc lD M T S f2 hw λD C H' s' m I' fC hm q=>⟨m,hm,λh' Nu=>?_⟩;obtain⟨x0,x1,x2,x3,x4,x5⟩:=fC;exact⟨.ref D,H',I'.turned (t':=s'.toks) (λb o hb e=>(Nu.2 b hb).trans e) x0 x1 x3 x4 x5,rfl,q⟩
def xE{wi:TI}(L:gL X ps ix scope)(hc:X.calm=true)(hN:X.N.Nodup)(hi:X.N[i]?=some x)(hx:Loc X.env.scope x)(hit:PI X tg am wi)
  (lD:∀s H ex,PG (ub X scope ps s H ex) tg g/\PF (ub X scope ps s H ex) aA tc/\PE (ub X scope ps s H ex) elt te)
  (Hy:swapsWith (.ListComp elt [⟨tg,am,aA,0⟩] scope pos) (some (.Name x p)) b8.line X.env=pure true:=by rfl)
  (hs:∀x,foldedSetIterable am X.env x=pure x:=by intro _;rfl) (hf:y3 X x:=by first|exact .inl rfl|exact .inr rfl|assumption):
  PS X (.Assign [.Name x p] (.ListComp elt [⟨tg,am,aA,0⟩] scope pos) b8) (λD Z H=>UM wi ix g tc te Z H λv H'=>D.nx (Z.set i (some v)) H'):=by
 intro U s Z H D I h;have xD:∀y∈scope.names,y.2=.free->∃c,X.env.cells.lookup y.1=some c:=λy hy z=>I.ok.has y.1 (.inl (L.cell y hy z));rw[exec_Assign_Name_used _ _ _ _ Hy];refine aS (wpAny_standAt (aS ?_));show wpAny _ X.A (do let _<-comprehension (.ListComp elt [⟨tg,am,aA,0⟩] scope pos) scope X.env _ (newList []) false (eval am X.env) (some (assign (.Name x p) X.env))) _ _ s;refine aS (d6 (wpAny_comprehension_free (use:=some (assign (.Name x p) X.env)) (Q:=λ_ s'=>SP X U D .next s') rfl hs (t_ xD) L.kind L.loc
  (eC (hit U s Z H _ I h) λv s1 h1=>eC h1 λZa s2 h2=>?_)) (λ_ s' hq=>bc (bc hq)) λ_ _ e=>e)
 obtain⟨it,fp,tn,J,H2,e,I2,T,M5,f2,hw⟩:=h2;subst e;refine FY (QD:=λl H'=>D.nx (Z.set i (some (.ref l))) H') L hc lD I2 T M5 f2 hw λl C H' s' m I' fC hm q=>?_
 obtain⟨x0,S,x2,x3,x4,x5⟩:=fC;show wpAny _ X.A (assign (.Name x p) X.env (.ref l)) _ _ _;refine wpAny_assign_Name (zv I' hN hi hx (v:=.ref l) rfl (λRm n zu=>?_) hf);obtain⟨a,Nu,ha⟩:=zu;have r:C≠a:=by
  rcases ha with ha|ha
  ·rw[ha];exact S
  ·exact λz=>x4 _ _ ha z.symm
 refine⟨m,hm.sameBut Nu r,λh' M=>?_⟩;exact⟨_,H',n.turned (t':=Rm.toks) (λb o hb e=>(M.2 b hb).trans e) x0 S x3 x4 x5,q⟩
end
def Zh(z:Str):It:=⟨λi _=>i<z.cps.size,λi H x H'=>H'=H/\∃c,z.cps[i]?=some c/\x=.str ⟨#[c]⟩,λi _=>i=z.cps.size⟩
theorem Cq{t:Tok}{it:Addr}{n:String}(hn:["enumerate","zip","dict_itemiterator","dict_reverseitemiterator","odict_iterator","itertools.zip_longest","itertools.pairwise"].contains n=false)
  (W:∀A':Around,A'.handled=none->Walks P w A' it [it] [it] x.cps.size (SignAt x) (λi h=>h.IsStrIter it n x t i))
  (self:∀(A:Around) (i:Nat) (s:Shared) (Q:Value->Shared->Prop) (E:Value->Shared->Prop),s.heap.IsStrIter it n x t i->Q (.ref it) s->wpAny (model P w) A (pyIter (.ref it)) Q E s):
  Turn P w K tg (Zh x) [it] it (λi h=>h.IsStrIter it n x t i) where
 mem:=by simp
 obj:=λi h st b hb=>by
  have e:b=it:=by simpa using hb
  subst e;obtain⟨o,e,c,d⟩:=st;exact⟨o,e,λv q=>by rw[d]at q;cases q⟩
 keep:=λi h h' st k=>by
  obtain⟨o,e,c,d⟩:=st;exact⟨o,k it (by simp) o e,c,d⟩
 item:=by
  intro X g hw l r i U s Z H E I hf st L;subst g hw l;obtain⟨f0,f1,f2,M,f4,S⟩:=hf it (by simp);refine(W X.A (I.ok.hd r)).item i s _ _ L st λv h' tk hv xo kk=>?_
  obtain⟨c,u,hcu,rfl⟩:=hv;have I1:Inv X U Z H {s with heap:=h',toks:=tk}:=I.turned (λb o hb e=>kk b o (by simpa using hb) e) f0 f1 M f4 S;obtain⟨o,e,cl,d⟩:=id xo;exact⟨_,rfl,zw (s:={s with heap:=h',toks:=tk}) e cl d hn ⟨.str ⟨#[c]⟩,H,I1,⟨u,rfl⟩,⟨rfl,c,hcu,rfl⟩,xo,λb hb=>(hf b hb).1⟩⟩
 done:=by
  intro X g hw l r i U s Z H E I hf st L;subst g hw l;obtain⟨f0,f1,f2,M,f4,S⟩:=hf it (by simp);have e:i=x.cps.size:=L;subst e;exact(W X.A (I.ok.hd r)).done s _ _ st λh' tk kk=>⟨rfl,I.turned (λb o hb e=>kk b o (by simpa using hb) e) f0 f1 M f4 S⟩
 self:=self
theorem lL.upd {xs:List V}{o:HO}(q:H au=none)(h:lL K H a xs):lL K (upd H au o) a xs:=by
 rcases h with(h|⟨b,h⟩)|h
 ·exact .inl (.inl (by rw[bh (bR h q)];exact h))
 ·exact .inl (.inr ⟨b,by rw[bh (bR h q)];exact h⟩)
 ·exact .inr h
theorem jl.upd {xs:List V}{o:HO}(q:H au=none)(h:jl K H a xs):jl K (upd H au o) a xs:=by
 rcases h with(h|⟨b,h⟩)|h
 ·exact .inl (.inl (by rw[bh (bR h q)];exact h))
 ·exact .inl (.inr ⟨b,by rw[bh (bR h q)];exact h⟩)
 ·exact .inr h
theorem Hz:uR X (compareOp .LtE) (λx y H Q=>∃i j,x=.str i/\y=.str j/\Q (.bl (!(decide (j.cps.toList<i.cps.toList)))) H):=by
 intro U s Z H x y v u Q I b g h;obtain⟨i,j,rfl,rfl,q⟩:=h;obtain⟨t,rfl⟩:=b;obtain⟨t',rfl⟩:=g;exact PySem.P.le_str (uS I q rfl)
theorem RO:uR X (compareOp .Is) (λx y H Q=>∃c d,x=.bl c/\y=.bl d/\Q (.bl (c==d)) H):=by
 intro U s Z H x y v u Q I b g h;obtain⟨c,d,rfl,rfl,q⟩:=h;cases b;cases g;exact is_bool (uS I q rfl)
theorem Nx:uR X (binaryOp .Mult) (λx y H Q=>∃z n,x=.str z/\y=.int n/\MulOk z n/\Q (.str (Txt.mul z n)) H):=by
 intro U s Z H x y v u Q I b g h;obtain⟨z,n,rfl,rfl,cU,q⟩:=h;obtain⟨t,rfl⟩:=b;obtain⟨t',rfl⟩:=g;exact SB.mul cU λt' k=>⟨.str _,H,I.tok _,⟨_,rfl⟩,q⟩
theorem J5(hc:X.calm=true):gC X (.builtin "all") (λxs H Q=>∃(p:Addr) (bs:List Bool),xs=[.ref p]/\lL X.K H p (bs.map V.bl)/\Q (.bl (bs.all id)) H):=by
 intro U s Z H xs us Q I r h;obtain⟨p,bs,rfl,L,q⟩:=h;obtain⟨u,rfl,S⟩:=vals1 r;cases(show u=Value.ref p from S);obtain⟨cn,rv,pl,hz⟩:=I.list L;have hb:cn=bs.map Value.bool:=by
  clear hz pl L q I
  induction bs generalizing cn with
  |nil=>cases rv;rfl
  |cons b r ih=>
   cases rv with
   |cons r1 r2=>
    rw[bL,<-ih _ (by exact r2)];cases(show _=Value.bool b from r1)
    rfl
 subst hb;have gm:p<s.heap.objs.size:=by obtain⟨o,n,e,_⟩:=pl;exact bu e
 refine call_all_walk (kH pl.isList ?_);refine⟨s.heap.objs.size,[s.heap.objs.size,p],[s.heap.objs.size],(bs.map Value.bool).toArray.size,_,_,λi=>(bs[i]?).getD true,rfl,Walks.list (A:=X.A.in1) (I.ok.hd hc) _ p (bY gm) _,
  ⟨⟨_,cp _ rfl,rfl,rfl⟩,pl.isList.push _⟩,λi v s' Q' E' hP M=>?_,λh' tk hk=>?_⟩
 ·have g:(bs.map Value.bool)[i]?=some v:=by simpa using hP
  rw[b_]at g;cases l:bs[i]? with
  |none=>rw[l]at g;cases g
  |some b=>
   rw[l]at g;cases g;simp only[l,o6]at M;exact o8 M
 ·have e:((List.range (bs.map Value.bool).toArray.size).all λi=>(bs[i]?).getD true)=bs.all id:=by
   rw[cS,bt];exact LSm.range_all bs
  rw[e];exact⟨.bl _,H,I.kept (LSm.kept_iter hk),rfl,q⟩
def bf.tup {H':Hp}{xs:List V}(e:bf H H')(h:jl K H a xs):jl K H' a xs:=by
 rcases h with(h|⟨o,h⟩)|h
 ·exact .inl (.inl (e _ _ h))
 ·exact .inl (.inr ⟨o,e _ _ h⟩)
 ·exact .inr h
theorem bf.upd {o:HO}(q:H a=none):bf H (upd H a o):=λb u e=>by rw[bh (bR e q)];exact e
def bf.AN {H':Hp}{D:Addr}{o:HO}(s:bf H H')(q:H D=none):bf H (L2.upd H' D o):=λb u e=>by rw[bh (bR e q)];exact s b u e
structure zF(K:Frag)(mg:Str->Option Value)(x:Str)(st:Stmt)(ps:List Str)(f:Addr)(fd:FuncData):Prop where
 fn:y4 K x x st f fd
 bd:Binds K fd ps []
 mg:mg x=some (.ref f)
def RP{fd:FuncData}{sp:Sp}{t:TA}(D:zF X.K X.mg x ai ps a fd)(G:d_ X.prog X.w X.K X.mg X.base mq i a fd ps sp)(hr:dc i X.A)
  (ha:PA X (e::es) t) (hg:Gl X x:=by rfl) (fF:Db x:=by decide) (he:starEach (e::es) X.env=(false,eval e X.env)::starEach es X.env:=by rfl)
  (oF:(backTo pos (starEach es X.env)).any (·.1)=false:=by rfl):PE X (.Call (.Name x p) (e::es) [] pos) (PD sp [] E0 t):=by
 have q:=FK (p:=p) (pos:=pos) G hr hg D.mg D.fn.kp D.bd .nil JZ ha (fF:=fF) (he:=he) (oF:=oF);exact q
def aas:V->Option Int->Option Int->Hp->VK->Prop:=λx lo hi H Q=>∃z,x=.str z/\z.length<=sizeLine/\Q (.str (Txt.slice z lo hi)) H
theorem RQ:UJ X aas:=by
 intro U s Z H x v S vu lo hi sl Q I n hs pl pu h;obtain⟨z,rfl,hz,q⟩:=h;obtain⟨t,rfl⟩:=n;refine⟨"str",_,F.slot_str_getitem.lookup,typeIs_str _ _ _,?_⟩;have go:∀(l u:Option (Int×Tok)),s.heap.IsSlice sl l u none->lo=l.map (·.1)->hi=u.map (·.1)->wpAny (model X.prog X.w) X.A (getItem (.str z t) (.ref sl)) (EP X U Z Q) X.xe s:=λl u r L M=>by
  subst L M;exact wpAny_getItem_str_slice r rfl (post_val_or_str ⟨cB (Txt.slice_le z _ _) hz,λt' k=>⟨.str _,H,I.tok _,⟨_,rfl⟩,q⟩⟩)
 cases pl with
 |none=>
  cases pu with
  |none=>exact go none none hs rfl rfl
  |int j b=>exact go none (some (j,b)) hs rfl rfl
 |int i g=>
  cases pu with
  |none=>exact go (some (i,g)) none hs rfl rfl
  |int j b=>exact go (some (i,g)) (some (j,b)) hs rfl rfl
theorem Cr:∀{cs:List String} {us:List Value},Vals (cs.map V.ty) us->us=cs.map Value.type
 |[],_,.nil=>rfl
 |c::cs,_,.cons r t=>by
  rw[Cr t];cases(show _=Value.type c from r)
  rfl
def uW(q:aa.IsTuple a ak):∃dd n sl,aa.get? a=some ⟨.type "tuple",dd,.seq ak n,sl⟩:=by
 obtain⟨⟨cls,dd,data,sl⟩,h1,h2,n,b⟩:=q;dsimp only at h2 b;subst h2 b;exact⟨dd,n,sl,h1⟩
theorem HC:gC X (.builtin "isinstance") (λxs H Q=>∃(x:V) (p:Addr) (cs:List String) (t:Value) (b:Bool),xs=[x,.ref p]/\PQ x=true/\jl X.K H p (cs.map V.ty)/\tV X.K H x t/\PySem.W.kitAny X.K t (cs.map Value.type)=some b/\Q (.bl b) H):=by
 intro U s Z H xs us Q I r h;obtain⟨x,p,cs,t,b,rfl,M,hp,ty,e,q⟩:=h;obtain⟨u,v,rfl,g,rv⟩:=vals2 r;cases(show v=Value.ref p from rv);obtain⟨cn,r1,p1,_⟩:=I.tuple hp;obtain⟨dd,n,sl,l⟩:=uW p1;cases Cr r1;have fin:∀L,EP X U Z Q (.bool b) {s with toks:=L}:=λL=>⟨.bl b,H,I.tok _,rfl,q⟩;cases ty with
 |cx=>
  cases(show u=Value.none from g);exact sW PySem.W.kitx_none I.lZ .intro l e (by simp) fin
 |bl y=>
  cases(show u=Value.bool y from g);exact sW PySem.W.kitx_bool I.lZ .intro l e (by simp) fin
 |int i=>
  obtain⟨t,rfl⟩:=(show∃t,u=Value.int i t from g);exact sW PySem.W.kitx_int I.lZ .intro l e (by simp) fin
 |str y=>
  obtain⟨t,rfl⟩:=(show∃t,u=Value.str y t from g);exact sW PySem.W.kitx_str I.lZ .intro l e (by simp) fin
 |_=>exact absurd (show false=true from M) fK
def Cs(K:Frag)(w:World)(a:Addr)(kvs:List (Str×Value)):Prop:=
 (a==sysModules)=false/\∃o es ep,K.lookup a=some o/\o.ExactDict/\o.data=.dict es ep/\∀prog,KeysOf (PySem.strKind prog w) es/\Pairs (PySem.strKind prog w) es.toList kvs/\(kvs.map (·.1)).Nodup
def Cs.of {kvs:List (Str×Value)}(D:Cs X.K X.w a kvs)(I:Inv X U Z H s):s.heap.DictOf (PySem.strKind X.prog X.w) a kvs:=by
 obtain⟨_,o,es,ep,h1,h2,b,g⟩:=D;obtain⟨k1,k2,k3⟩:=g X.prog;exact⟨o,es,ep,I.lZ _ _ h1,h2,b,k1,k2,k3⟩
theorem J7{to ti:TE}(ho:PE X o to)(hi:PE X e ti)(hs:Nn e):
  PE X (.Subscript o e pos) (Q6 (λx y H Q=>∃(a:Addr) (z:Str) (kvs:List (Str×Value)) (u:Value) (v:V),x=.ref a/\y=.str z/\Cs X.K X.w a kvs/\valueAt kvs z=some u/\RelV v u/\Q v H) to ti):=by
 intro U s Z H Q I h;refine Np PySem.F.slot_dict_getitem.lookup hs (eC (ho U s Z H _ I h) λu s1 ⟨x,H1,g,l,n⟩=>eC (hi U s1 Z H1 _ g n) λiv s2 ⟨y,H2,b,r,L⟩=>?_);obtain⟨a,z,kvs,u',v,rfl,rfl,D,M,rv,q⟩:=L;cases(show u=Value.ref a from l);obtain⟨t,rfl⟩:=r;have dd:=D.of b;refine⟨?_,wpAny_getItem_of (knd:=PySem.strKind X.prog X.w) (k:=z) (by simp[PySem.strKind,Value.isStrOf]) dd.mapOf M ⟨v,H2,b.tok _,rv,q⟩⟩;obtain⟨S,es,ep,h1,h2,_⟩:=dd;exact⟨S,h1,h2.1⟩
inductive Tr where
 |cx|bl (b:Bool)|int (i:Int)|str (z:Str)|ty (n:String)
 |vn (ns:List Int)|tup (ts:List Tr)|lst (ts:List Tr)|bW (bB:List (Key×Tr))|at(i:Nat)
 |vo (bB:List (List Key×Tr))|ob (x:Str) (fs:List (Str×Tr))|zG (x:Str)
variable {aB:Tr->Prop}{aC:Tr}{aG:List (Key×Tr)}
variable {ts:List Tr}
noncomputable def cY:Nat:=1000000
noncomputable def clsAt(K:Frag)(x:Str):Addr:=match PySem.W.nsIn K mainGlobals x with
 |some (some (.ref C))=>C
 |_=>0
structure Vw where
 H:Hp
 ix:Addr->Option Nat
instance:Coe Vw Hp:=⟨Vw.H⟩
instance:CoeFun Vw (fun _=>Addr->Option HO):=⟨Vw.H⟩
structure eX(W W':Vw):Prop where
 h:bf W.H W'.H
 x:∀a i,W.ix a=some i->W'.ix a=some i
theorem eX.refl (W:Vw):eX W W:=⟨bf.refl _,λ_ _ e=>e⟩
theorem eX.trans {W W1 W2:Vw}(a:eX W W1)(b:eX W1 W2):eX W W2:=⟨a.h.trans b.h,λc i e=>b.x c i (a.x c i e)⟩
mutual
inductive Rep(K:Frag)(H:Vw):V->Tr->Prop where
 |cx:Rep K H .cx .cx
 |bl (b:Bool):Rep K H (.bl b) (.bl b)
 |int (i:Int):Rep K H (.int i) (.int i)
 |str (z:Str) (h:z.length<=cY):Rep K H (.str z) (.str z)
 |ty (n:String):Rep K H (.ty n) (.ty n)
 |vn {a:Addr} {ns:List Int} (h:lL K H.H a (ns.map V.int)):Rep K H (.ref a) (.vn ns)
 |tup {a:Addr} {vs:List V} {ts:List Tr} (h:jl K H.H a vs) (r:bM K H vs ts):Rep K H (.ref a) (.tup ts)
 |lst {a:Addr} {vs:List V} {ts:List Tr} (h:H.H a=some (.lst vs)) (r:bM K H vs ts):Rep K H (.ref a) (.lst ts)
 |bW {a:Addr} {kvs:List (Key×V)} {bB:List (Key×Tr)} (h:Rd H.H a (.dK kvs)) (e:kvs.map (·.1)=bB.map (·.1)) (r:bM K H (kvs.map (·.2)) (bB.map (·.2))):Rep K H (.ref a) (.bW bB)
 |at{a:Addr} {i:Nat} (h:H.ix a=some i):Rep K H (.ref a) (.at i)
 |vo {a:Addr} {kvs:List (List Key×V)} {bB:List (List Key×Tr)} (h:H.H a=some (.dT kvs)) (e:kvs.map (·.1)=bB.map (·.1)) (r:bM K H (kvs.map (·.2)) (bB.map (·.2))):Rep K H (.ref a) (.vo bB)
 |ob {a dx:Addr} {x:Str} {ib:List (Str×V)} {fs:List (Str×Tr)} (h:H.H a=some (.ins (clsAt K x) dx ib)) (e:ib.map (·.1)=fs.map (·.1)) (r:bM K H (ib.map (·.2)) (fs.map (·.2))):Rep K H (.ref a) (.ob x fs)
 |zG {a:Addr} {oe:Obj} {x:Str} (h:H.H a=some (.ext fun h=>h.get? a=some oe)) (c:oe.cls=.ref (clsAt K x)):Rep K H (.ref a) (.zG x)
inductive bM(K:Frag)(H:Vw):List V->List Tr->Prop where
 |nil:bM K H [] []
 |cons {v:V} {t:Tr} {vs:List V} {ts:List Tr} (h:Rep K H v t) (r:bM K H vs ts):bM K H (v::vs) (t::ts)
end
section
def Rd.same {H H':Hp}{u:HO}(s:bf H H')(h:Rd H a u):Rd H' a u:=by
 rcases h with h|⟨o,h⟩
 ·exact .inl (s _ _ h)
 ·exact .inr ⟨o,s _ _ h⟩
variable {H H':Vw}
theorem Rep.same (s:eX H H'){v:V}{t:Tr}(h:Rep K H v t):Rep K H' v t:=by
 refine Rep.rec (motive_1:=λv t _=>Rep K H' v t) (motive_2:=λvs ts _=>bM K H' vs ts) ?_ ?_ ?_ ?_ ?_ ?_ ?_ ?_ ?_ ?_ ?_ ?_ ?_ ?_ ?_ h
 ·exact .cx
 ·exact λb=>.bl b
 ·exact λi=>.int i
 ·exact λz h=>.str z h
 ·exact λn=>.ty n
 ·exact λh=>.vn (s.h.seq h)
 ·exact λh _ r=>.tup (s.h.tup h) r
 ·exact λh _ r=>.lst (s.h _ _ h) r
 ·exact λh e _ r=>.bW (Rd.same s.h h) e r
 ·exact λh=>.at (s.x _ _ h)
 ·exact λh e _ r=>.vo (s.h _ _ h) e r
 ·exact λh e _ r=>.ob (s.h _ _ h) e r
 ·exact λh c=>.zG (s.h _ _ h) c
 ·exact .nil
 ·exact λ_ _ h r=>.cons h r
theorem bM.same (s:eX H H'):∀{vs:List V} {ts:List Tr},bM K H vs ts->bM K H' vs ts
 |[],_,h=>by cases h;exact .nil
 |_::_,_,h=>by cases h with|cons h r=>exact .cons (h.same s) (bM.same s r)
theorem bM.length:∀{vs:List V} {ts:List Tr},bM K H vs ts->vs.length=ts.length
 |[],_,h=>by cases h;rfl
 |_::_,_,h=>by cases h with|cons h r=>rw[dt,dt,bM.length r]
theorem bM.get:∀{vs:List V} {ts:List Tr} {i:Nat} {t:Tr},bM K H vs ts->ts[i]?=some t->∃v,vs[i]?=some v/\Rep K H v t
 |[],_,i,t,h,e=>by cases h;simp at e
 |_::_,_,0,t,h,e=>by cases h with|cons h r=>simp at e;subst e;exact⟨_,rfl,h⟩
 |_::_,_,i+1,t,h,e=>by
  cases h with
  |cons h r=>
   obtain⟨v,b,r1⟩:=bM.get (i:=i) (t:=t) r (by simpa using e);exact⟨v,by simpa using b,r1⟩
theorem bM.xF:∀{vs:List V} {ts:List Tr} {i:Nat} {v:V},bM K H vs ts->vs[i]?=some v->∃t,ts[i]?=some t/\Rep K H v t
 |[],_,i,t,h,e=>by simp at e
 |_::_,_,0,t,h,e=>by cases h with|cons h r=>simp at e;subst e;exact⟨_,rfl,h⟩
 |_::_,_,i+1,t,h,e=>by
  cases h with
  |cons h r=>
   obtain⟨v,b,r1⟩:=bM.xF (i:=i) r (by simpa using e);exact⟨v,by simpa using b,r1⟩
theorem bM.append:∀{vs ws:List V} {ts us:List Tr},bM K H vs ts->bM K H ws us->bM K H (vs++ws) (ts++us)
 |[],_,_,_,h,q=>by cases h;exact q
 |_::_,_,_,_,h,q=>by cases h with|cons h r=>exact .cons h (bM.append r q)
theorem bM.take:∀{vs:List V} {ts:List Tr} (n:Nat),bM K H vs ts->bM K H (vs.take n) (ts.take n)
 |_,_,0,_=>by rw[List.take_zero,List.take_zero];exact .nil
 |[],_,_+1,h=>by cases h;exact .nil
 |_::_,_,n+1,h=>by cases h with|cons h r=>exact .cons h (bM.take n r)
theorem bM.drop:∀{vs:List V} {ts:List Tr} (n:Nat),bM K H vs ts->bM K H (vs.drop n) (ts.drop n)
 |_,_,0,h=>h
 |[],_,_+1,h=>by cases h;exact .nil
 |_::_,_,n+1,h=>by cases h with|cons h r=>exact bM.drop n r
theorem bM.rep {vs:List V}(h:bM K H vs ts):∀n:Nat,bM K H (List.replicate n vs).flatten (List.replicate n ts).flatten
 |0=>.nil
 |n+1=>by
  rw[nC,nC,my,my];exact h.append (bM.rep h n)
theorem zH:∀{zs:List Str},(∀z∈zs,z.length<=cY)->bM K H (zs.map V.str) (zs.map Tr.str)
 |[],_=>.nil
 |z::zs,h=>.cons (.str z (h z (cz ..))) (zH λy b=>h y (ck _ b))
end
structure fg where
 hd:Addr->Bool
 ix:Addr->Option Nat
variable {B:fg}
instance:CoeFun fg (fun _=>Addr->Bool):=⟨fg.hd⟩
def bZ(B:fg)(H:Hp):Vw:=⟨λb=>if B.hd b=true then none else H b,B.ix⟩
def HB(B:fg)(H:Hp):Prop:=∀b,B.hd b=true->∃o,H b=some o
section
variable {B':fg}{H':Hp}
def fS{b:Addr}(h:B.hd b=false):(bZ B H).H b=H b:=by show(if B.hd b=true then none else H b)=_;rw[h,bb fK]
def bG:bf (bZ B H).H H:=λb o (e:(if B.hd b=true then none else H b)=some o)=>by
 split at e
 ·cases e
 ·exact e
def bI(s:bf H H'):eX (bZ B H) (bZ B H'):=⟨λb o (e:(if B.hd b=true then none else H b)=some o)=>by
 show(if B.hd b=true then none else H' b)=some o;split at e
 ·cases e
 ·rw[bb (by assumption)];exact s b o e,λ_ _ e=>e⟩
def raw(B:fg)(H:Hp):Vw:=⟨H,B.ix⟩
def fy:eX (bZ B H) (raw B H):=⟨bG,λ_ _ e=>e⟩
def HB.same (h:HB B H)(s:bf H H'):HB B H':=λb e=>by obtain⟨o,q⟩:=h b e;exact⟨o,s b o q⟩
def HB.free {p:Addr}(h:HB B H)(hp:H p=none):B.hd p=false:=by
 cases e:B.hd p with
 |false=>rfl
 |true=>obtain⟨o,q⟩:=h p e;rw[hp]at q;cases q
def HB.new {p:Addr}{o:HO}(h:HB B H)(hp:H p=none):(bZ B (upd H p o)).H p=some o:=by rw[fS (h.free hp)];exact bK
structure vp(B B':fg):Prop where
 hd:∀b,B.hd b=true->B'.hd b=true
 ix:∀b i,B'.ix b=some i->B.ix b=some i
def xG(h:vp B B'):eX (bZ B' H) (bZ B H):=⟨λb o (e:(if B'.hd b=true then none else H b)=some o)=>by
 show(if B.hd b=true then none else H b)=some o;split at e
 ·cases e
 ·rename_i n;rw[bb λz=>n (h.hd b z)];exact e,h.ix⟩
end
inductive Rs(α:Type) where
 |bad|ok (a:α)|exc (c:Tr)
variable {aE:Tr->Tr->Rs Tr}
variable {h:List Tr->Rs Tr}
noncomputable def Rs.bind {α β:Type}(r:Rs α)(f:α->Rs β):Rs β:=match r with
 |.ok a=>f a
 |.exc c=>.exc c
 |.bad=>.bad
def XA(X:Cx)(c:Tr)(H:Hp):Prop:=False
def qJ(xc:Tr->Prop){α:Type}(r:Rs α)(k:α->Prop):Prop:=match r with
 |.ok a=>k a
 |.exc c=>xc c
 |.bad=>False
def xP(X:Cx)(H:Hp):Tr->Prop:=λc=>∀H',bf H H'->XA X c H'
def Fi(X:Cx)(H:Hp){α:Type}(r:Rs α)(k:α->Prop):Prop:=qJ (xP X H) r k
section
variable {β:Type}{r:Rs ag}{k k':ag->Prop}{UN:Tr->Prop}
def qJ.mono (h:qJ aB r k)(w:∀a,k a->k' a):qJ aB r k':=by
 cases r with
 |ok a=>exact w a h
 |_=>exact h
def qJ.imp (h:qJ aB r k)(w:∀c,aB c->UN c):qJ UN r k:=by
 cases r with
 |ok a=>exact h
 |exc c=>exact w c h
 |bad=>exact h
theorem qJ.bind {f:ag->Rs β}{k:β->Prop}(h:qJ aB (r.bind f) k):qJ aB r λa=>qJ aB (f a) k:=by
 cases r with
 |_=>exact h
theorem Fi.mono (h:Fi X H r k)(w:∀a,k a->k' a):Fi X H r k':=qJ.mono h w
def Fi.same (h:Fi X H r k)(s:bf H ac):Fi X ac r k:=qJ.imp h λ_ q H2 s2=>q H2 (s.trans s2)
theorem Fi.bind {f:ag->Rs β}{k:β->Prop}(h:Fi X H (r.bind f) k):Fi X H r λa=>Fi X H (f a) k:=qJ.bind h
end
set_option genInjectivity true in
inductive Cell where
 |no|sh (t:Tr)|ow (ts:List Tr)
abbrev bT:=List Cell
variable {aF:bT->Rs Bool}
variable {F G:bT->Rs Tr}{L:bT->Rs (List Tr)}
structure cF(K:Frag)(B:fg)(H:Hp)(Z:St)(Y:bT):Prop where
 len:Y.length=Z.length
 sh:∀(i:Nat) (t:Tr),Y[i]?=some (.sh t)->∃v,Z[i]?=some (some v)/\Rep K (bZ B H) v t
 ow:∀(i:Nat) (ts:List Tr),Y[i]?=some (.ow ts)->∃D ys,Z[i]?=some (some (.ref D))/\B D=true/\H D=some (.lst ys)/\bM K (bZ B H) ys ts
 ap:∀(i j:Nat) (ts us:List Tr) (D:Addr),i≠j->Y[i]?=some (.ow ts)->Y[j]?=some (.ow us)->Z[i]?=some (some (.ref D))->Z[j]? ≠some (some (.ref D))
section
variable {B':fg}{Y:bT}
theorem cF.same (h:cF K B H Z Y)(s:bf H ac):cF K B ac Z Y:=
 ⟨h.len,λi t e=>by obtain⟨v,b,r⟩:=h.sh i t e;exact⟨v,b,r.same (bI s)⟩,
   λi ts e=>by obtain⟨D,ys,b,g,l,r⟩:=h.ow i ts e;exact⟨D,ys,b,g,s _ _ l,r.same (bI s)⟩,h.ap⟩
theorem fH{l:List ag}{j:Nat}{x y:ag}(e:(l.set i x)[j]?=some y):(i=j/\i<l.length/\y=x)\/(i≠j/\l[j]?=some y):=by
 rw[mz]at e;by_cases b:i=j
 ·rw[aV b]at e;by_cases g:i<l.length
  ·rw[aV g]at e;exact .inl ⟨b,g,(Option.some.inj e).symm⟩
  ·rw[bb g]at e;cases e
 ·rw[bb b]at e;exact .inr ⟨b,e⟩
theorem cF.set {v:V}{t:Tr}(h:cF K B H Z Y)(i:Nat)(r:Rep K (bZ B H) v t):cF K B H (Z.set i (some v)) (Y.set i (.sh t)):=by
 refine⟨by rw[kK,kK];exact h.len,λj u e=>?_,λj us e=>?_,λj k us ws D n b M L=>?_⟩
 ·rcases fH e with⟨rfl,l,q⟩|⟨g,q⟩
  ·cases q;exact⟨v,by rw[mz,aV rfl,aV (by rw[<-h.len];exact l)],r⟩
  ·obtain⟨w,b,r1⟩:=h.sh j u q;exact⟨w,by rw[mz,bb g];exact b,r1⟩
 ·rcases fH e with⟨rfl,l,q⟩|⟨g,q⟩
  ·cases q
  ·obtain⟨D,ys,b,r1⟩:=h.ow j us q;exact⟨D,ys,by rw[mz,bb g];exact b,r1⟩
 ·rcases fH b with⟨rfl,l,q⟩|⟨g,q⟩
  ·cases q
  ·rcases fH M with⟨rfl,l,I⟩|⟨S,I⟩
   ·cases I
   ·rw[mz,bb g]at L;rw[mz,bb S];exact h.ap j k us ws D n q I L
end
def startT(n:Nat)(ts:List Tr):bT:=ts.map Cell.sh++List.replicate (n - ts.length) .no
theorem qK{c:Cell}(e:(startT az ts)[i]?=some c):c=.no\/∃t,ts[i]?=some t/\c=.sh t:=by
 unfold startT at e;by_cases hi:i<ts.length
 ·rw[oM (by rw[bt];exact hi),b_]at e;cases q:ts[i]? with
  |none=>rw[q]at e;cases e
  |some u=>rw[q]at e;exact .inr ⟨u,rfl,(Option.some.inj e).symm⟩
 ·rw[wD (by rw[bt];omega),sG]at e;split at e
  ·exact .inl (Option.some.inj e).symm
  ·cases e
theorem cF.start (h:bM K (bZ B H) ar ts):cF K B H (start ps ar) (startT ps.length ts):=by
 have l:=h.length;refine⟨by unfold L2.start startT;simp only[eO,bt,wL];omega,λi t e=>?_,λi us e=>?_,λi j us ws D _ e _ _=>?_⟩
 ·rcases qK e with q|⟨u,q,b⟩
  ·cases q
  ·cases b;obtain⟨v,g,r⟩:=h.get q;have hi:i<ar.length:=(gb.mp g).1;refine⟨v,?_,r⟩;unfold L2.start;rw[oM (by rw[bt];exact hi),b_,g]
   rfl
 ·rcases qK e with q|⟨u,q,b⟩
  ·cases q
  ·cases b
 ·rcases qK e with q|⟨u,q,b⟩
  ·cases q
  ·cases b
noncomputable def isStar:Expr->Bool
 |.Starred .. =>true
 |_=>false
def bJ(es:List Expr)(env:Env)(h:isStar e=false):starEach (e::es) env=(false,eval e env)::starEach es env:=by
 cases e<;>first|rfl|cases h
def bx(es:List Expr):Bool:=es.all λe=>!isStar e
theorem cP{env:Env}:∀{es:List Expr},bx es=true->(backTo pos (starEach es env)).any (·.1)=false
 |[],_=>by rw[starEach];rfl
 |e::es,h=>by
  unfold bx at h;rw[iz,bU]at h;have b:isStar e=false:=by simpa using h.1
  rw[bJ es env b];exact cP (es:=es) h.2
theorem jy{env:Env}:∀{es:List Expr},bx es=true->(backTo pos (starEach es env)).all (λx=>!x.1)=true
 |[],_=>by rw[starEach];rfl
 |e::es,h=>by
  unfold bx at h;rw[iz,bU]at h;have b:isStar e=false:=by simpa using h.1
  rw[bJ es env b];exact jy (es:=es) h.2
def bj{es:List Expr}(h:bx (e::es)=true):isStar e=false/\bx es=true:=by
 unfold bx at h;rw[iz,bU]at h;exact⟨by simpa using h.1,h.2⟩
def r6:Expr->Bool
 |.ListComp .. =>true
 |.SetComp .. =>true
 |.DictComp .. =>true
 |_=>false
def xH{t:Option Expr}{env:Env}(h:r6 e=false):swapsWith e t i env=pure false:=by
 cases e<;>first|rfl|cases h
noncomputable def mR:Expr->Bool
 |.UnaryOp .. =>false
 |.BoolOp .. =>false
 |.IfExp .. =>false
 |.Compare .. =>false
 |_=>true
def xI{env:Env}(h:mR e=true):∀whole,isTrue e env whole=(do let v<-whole;standAt e.pos;holding [v] (truthy v)):=by
 intro whole;cases e<;>first|rfl|cases h
def isSet:Expr->Bool
 |.Set .. =>true
 |_=>false
def gn{env:Env}(h:isSet e=false):∀x,foldedSetIterable e env x=pure x:=by
 intro x;cases e<;>first|rfl|cases h
def isCall:Expr->Bool
 |.Call .. =>true
 |_=>false
def gq{env:Env}{w:Sem Value}(h:isCall o=false):attributeBase o x env w=w:=by
 cases o<;>first|rfl|cases h
inductive tP(X:Cx)(F:bT->Rs Tr)(Z:St)(H:Hp)(Q:VK):Prop
 |mk (B:fg) (Y:bT):HB B H->cF X.K B H Z Y->(Fi X H (F Y) fun t=>∀v H',bf H H'->Rep X.K (bZ B H') v t->Q v H')->tP X F Z H Q
inductive tQ(X:Cx)(F:bT->Rs Bool)(Z:St)(H:Hp)(Q:Bool->Hp->Prop):Prop
 |mk (B:fg) (Y:bT):HB B H->cF X.K B H Z Y->(Fi X H (F Y) fun b=>∀H',bf H H'->Q b H')->tQ X F Z H Q
inductive Ct(X:Cx)(F:bT->Rs (List Tr))(Z:St)(H:Hp)(Q:List V->Hp->Prop):Prop
 |mk (B:fg) (Y:bT):HB B H->cF X.K B H Z Y->(Fi X H (F Y) fun ts=>∀vs H',bf H H'->bM X.K (bZ B H') vs ts->Q vs H')->Ct X F Z H Q
inductive Out where
 |nx (Y:bT)|ret (t:Tr)|bk (Y:bT)|ct (Y:bT)
structure d9(C B0:fg)(H0:Hp)(B:fg)(H:Hp):Prop where
 kp:∀b o,C b=true->H0 b=some o->H b=some o
 jK:eX (bZ B0 H0) (bZ B H)
 sub:vp C B
 hb:HB B H
section
variable {C B0 B1 B2:fg}{H' H1 H2:Hp}
def d9.go (h:d9 C B0 ac B H)(s:bf H H'):d9 C B0 ac B H':=⟨λb o c e=>s _ _ (h.kp b o c e),h.jK.trans (bI s),h.sub,h.hb.same s⟩
def vp.refl:vp B B:=⟨λ_ e=>e,λ_ _ e=>e⟩
theorem d9.refl (h:HB B H)(c:vp C B):d9 C B H B H:=⟨λ_ _ _ e=>e,eX.refl _,c,h⟩
theorem d9.trans (h:d9 C B0 ac B1 H1)(q:d9 C B1 H1 B2 H2):d9 C B0 ac B2 H2:=⟨λb o c e=>q.kp b o c (h.kp b o c e),h.jK.trans q.jK,q.sub,q.hb⟩
def d9.same (h:d9 C C ac B H):bf ac H:=λb o e=>by
 cases q:C b with
 |true=>exact h.kp b o q e
 |false=>exact bG _ _ (h.jK.h b o (by rw[fS q];exact e))
end
def Eu(X:Cx)(D:Ends)(C B0:fg)(H0:Hp):Out->Prop
 |.nx Y=>∀b B' H',d9 C B0 H0 B' H'->cF X.K B' H' b Y->D.nx b H'
 |.ret t=>∀v B' H',d9 C B0 H0 B' H'->Rep X.K (bZ C H') v t->D.rt v H'
 |.bk Y=>∀b B' H',d9 C B0 H0 B' H'->cF X.K B' H' b Y->D.bk b H'
 |.ct Y=>∀b B' H',d9 C B0 H0 B' H'->cF X.K B' H' b Y->D.ct b H'
def xS(X:Cx)(C B0:fg)(H0:Hp):Tr->Prop:=λc=>∀B' H',d9 C B0 H0 B' H'->XA X c H'
inductive tS(X:Cx)(G:bT->Rs Out)(D:Ends)(Z:St)(H:Hp):Prop
 |mk (C:fg) (B0:fg) (H0:Hp) (B:fg) (Y:bT):d9 C B0 H0 B H->cF X.K B H Z Y->qJ (xS X C B0 H0) (G Y) (Eu X D C B0 H0)->tS X G D Z H
def PE.weak {t t':TE}(h:PE X e t)(w:∀Z H Q,t' Z H Q->t Z H Q):PE X e t':=λU s Z H Q I q=>h U s Z H Q I (w Z H Q q)
def PT.weak {t t':TT}(h:PT X e t)(w:∀Z H Q,t' Z H Q->t Z H Q):PT X e t':=λU s Z H Q I q=>h U s Z H Q I (w Z H Q q)
def PW.weak {t t':TT}(h:PW X e t)(w:∀Z H Q,t' Z H Q->t Z H Q):PW X e t':=λwh U s Z H Q I q=>h wh U s Z H Q I (w Z H Q q)
def PA.weak {t t':TA}(h:PA X es t)(w:∀Z H Q,t' Z H Q->t Z H Q):PA X es t':=λpos U s Z H Q I q=>h pos U s Z H Q I (w Z H Q q)
def PS.weak {st:Stmt}{t t':TS}(h:PS X st t)(w:∀D Z H,t' D Z H->t D Z H):PS X st t':=λU s Z H D I q=>h U s Z H D I (w D Z H q)
def oK.weak {st:List Stmt}{t t':TS}(h:oK X st t)(w:∀D Z H,t' D Z H->t D Z H):oK X st t':=λU s Z H D I q=>h U s Z H D I (w D Z H q)
def xJ(Y:bT)(i:Nat):Rs Tr:=match Y[i]? with
 |some (.sh t)=>.ok t
 |_=>.bad
def J8{Y:bT}(r:cF X.K B H Z Y)(h:Fi X H (xJ Y i) aB):∃v t,Z[i]?=some (some v)/\Rep X.K (bZ B H) v t/\aB t:=by
 unfold xJ at h;split at h
 ·rename_i t e;obtain⟨v,b,r1⟩:=r.sh i t e;exact⟨v,t,b,r1,h⟩
 ·exact h.elim
section
variable {b:Expr}{E:bT->Rs Tr}
theorem VX(i:Nat)(hN:X.N[i]?=some x:=by rfl) (hv:Y8 X.env.scope x:=by first|exact Or.inl rfl|exact Or.inr (Or.inl rfl)|exact Or.inr (Or.inr rfl)) (hd:Db x:=by decide)
  (D_:(x==("__classdict__":Str))=false:=by decide):PE X (.Name x pos) (tP X λY=>xJ Y i):=
 (QZ hN hv hd D_).weak λZ H Q ⟨B,Y,hb,r,q⟩=>by
  obtain⟨v,t,e,r1,k⟩:=J8 r q;exact⟨v,e,k v H (bf.refl H) r1⟩
theorem Cu{v:V}(h:PE X e (tC v))(r:∀H,Rep X.K H v aC):PE X e (tP X λ_=>.ok aC):=
 h.weak λZ H Q ⟨B,Y,_,_,q⟩=>q v H (bf.refl H) (r _)
def VY{i:Int}{j pos}:PE X (.Constant (.int i) j pos) (tP X λ_=>.ok (.int i)):=Cu Q0 λH=>.int i
def aat{b:Bool}{j pos}:PE X (.Constant (.bool b) j pos) (tP X λ_=>.ok (.bl b)):=Cu Vi λH=>.bl b
def VZ{j pos}:PE X (.Constant .none j pos) (tP X λ_=>.ok .cx):=Cu Q1 λH=>.cx
def V0{j pos}(hz:x.length<=cY:=by decide):PE X (.Constant (.str x) j pos) (tP X λ_=>.ok (.str x)):=Cu Q2 λH=>.str x hz
def V1(K:Frag)(mg:Str->Option Value)(x:Str)(t:Tr):Prop:=∃v u,mg x=some u/\RelV v u/\∀H,Rep K H v t
def aau(hm:X.mg x=none)(q:bootBuiltins x=some (.type ay):=by rfl) (hg:Gl X x:=by rfl) (hn:x≠"__name__":=by decide) (hd:Db x:=by decide):PE X (.Name x pos) (tP X λ_=>.ok (.ty ay)):=
 Cu (FE (v:=.ty ay) hg hm q rfl hn hd) λH=>.ty ay
def HD(h:Tr->Tr->Rs Tr)(o b:Rs Tr):Rs Tr:=o.bind λx=>b.bind λy=>h x y
inductive rT(X:Cx)(h:Tr->Tr->Rs Tr)(x:V)(y:V)(H:Hp)(Q:VK):Prop
 |mk (B:fg) (tx:Tr) (ty:Tr):HB B H->Rep X.K (bZ B H) x tx->Rep X.K (bZ B H) y ty->(Fi X H (h tx ty) fun t=>∀v H',bf H H'->Rep X.K (bZ B H') v t->Q v H')->rT X h x y H Q
abbrev BV(X:Cx)(f:Value->Value->Sem Value)(h:Tr->Tr->Rs Tr):Prop:=uR X f (rT X h)
def uc{Q:VK}(q:tP X (λY=>HD aE (F Y) (G Y)) Z H Q):Q6 (rT X aE) (tP X F) (tP X G) Z H Q:=by
 obtain⟨B,Y,hb,r,q⟩:=q;refine⟨B,Y,hb,r,q.bind.mono λx b v H1 s1 r1=>⟨B,Y,hb.same s1,r.same s1,(b.bind.same s1).mono λy g u H2 s2 r2=>⟨B,x,y,(hb.same s1).same s2,r1.same (bI s2),r2,?_⟩⟩⟩;exact(g.same (s1.trans s2)).mono λt l w n s3 I=>l w n ((s1.trans s2).trans s3) I
def V2{op:Operator}(ho:BV X (binaryOp op) aE)(ha:PE X o (tP X F))(hb:PE X b (tP X G)):PE X (.BinOp o op b pos) (tP X λY=>HD aE (F Y) (G Y)):=
 (PC ho ha hb).weak λ_ _ _ q=>uc q
def V3{op:CmpOp}(ho:BV X (compareOp op) aE)(ha:PE X o (tP X F))(hb:PE X b (tP X G))(hm:behindInMarks op b=false:=by first|exact AG _|rfl|with_unfolding_all rfl):PE X (.Compare o [op] [b] pos) (tP X λY=>HD aE (F Y) (G Y)):=
 (M8 ho ha hb hm).weak λ_ _ _ q=>uc q
def Zi(r:Rs Tr):Rs Bool:=r.bind λt=>match t with
 |.bl b=>.ok b
 |_=>.bad
def Rep.xK {H:Vw}{v:V}{b:Bool}(h:Rep K H v (.bl b)):v=.bl b:=by cases h;rfl
def fT{W:Vw}{t:Tr}(r:bM K W ar [t]):∃x,ar=[x]/\Rep K W x t:=by
 cases r with
 |cons o r=>cases r;exact⟨_,rfl,o⟩
def zI{W:Vw}{u:Tr}(r:bM K W ar [aC,u]):∃x y,ar=[x,y]/\Rep K W x aC/\Rep K W y u:=by
 cases r with
 |cons o r=>
  obtain⟨y,rfl,b⟩:=fT r;exact⟨_,_,rfl,o,b⟩
def Rep.FZ {H:Vw}{v:V}{ns:List Int}(h:Rep K H v (.vn ns)):∃o,v=.ref o/\lL K H.H o (ns.map V.int):=by cases h;exact⟨_,rfl,by assumption⟩
def Rep.nG {H:Vw}{v:V}{bB:List (Key×Tr)}(h:Rep K H v (.bW bB)):∃o kvs,v=.ref o/\Rd H.H o (.dK kvs)/\kvs.map (·.1)=bB.map (·.1)/\bM K H (kvs.map (·.2)) (bB.map (·.2)):=by cases h;exact⟨_,_,rfl,by assumption,by assumption,by assumption⟩
def Rep.nH {H:Vw}{v:V}(h:Rep K H v (.at i)):∃o,v=.ref o/\H.ix o=some i:=by cases h;exact⟨_,rfl,by assumption⟩
def Rep.AQ {H:Vw}{v:V}{fs:List (Str×Tr)}(h:Rep K H v (.ob x fs)):∃o dx q,v=.ref o/\H.H o=some (.ins (clsAt K x) dx q)/\q.map (·.1)=fs.map (·.1)/\bM K H (q.map (·.2)) (fs.map (·.2)):=by cases h;exact⟨_,_,_,rfl,by assumption,by assumption,by assumption⟩
def Rep.Ny {H:Vw}{v:V}(h:Rep K H v .cx):v=.cx:=by cases h;rfl
def Rep.int_inv {H:Vw}{v:V}{i:Int}(h:Rep K H v (.int i)):v=.int i:=by cases h;rfl
def Rep.str_inv {H:Vw}{v:V}{z:Str}(h:Rep K H v (.str z)):v=.str z/\z.length<=cY:=by cases h;exact⟨rfl,by assumption⟩
def Rep.dR {H:Vw}{v:V}(h:Rep K H v (.tup ts)):∃o vs,v=.ref o/\jl K H.H o vs/\bM K H vs ts:=by cases h;exact⟨_,_,rfl,by assumption,by assumption⟩
def Rep.lst_inv {H:Vw}{v:V}(h:Rep K H v (.lst ts)):∃o vs,v=.ref o/\H.H o=some (.lst vs)/\bM K H vs ts:=by cases h;exact⟨_,_,rfl,by assumption,by assumption⟩
theorem hide{G:Prop}(k:∀P:Prop,(G->P)->P):G:=k G id
def Nz{r:Rs Tr}{k:Bool->Prop}(h:Fi X H (Zi r) k):Fi X H r λt=>∃b,t=.bl b/\k b:=by
 refine h.bind.mono λt q=>?_
 cases t with
 |bl b=>exact⟨b,rfl,q⟩
 |_=>exact q.elim
theorem V4{op:CmpOp}(ho:BV X (compareOp op) aE)(ha:PE X o (tP X F))(hb:PE X b (tP X G))(hm:behindInMarks op b=false:=by first|exact AG _|rfl|with_unfolding_all rfl):PT X (.Compare o [op] [b] pos) (tQ X λY=>Zi (HD aE (F Y) (G Y))):=
 (M9 ho ha hb hm).weak λZ H Q ⟨B,Y,hb,r,q⟩=>by
  refine uc (Q:=λx H'=>∃k,x=.bl k/\Q k H') ⟨B,Y,hb,r,(Nz q).mono λt g v H' s' l=>?_⟩;obtain⟨b,rfl,k⟩:=g;exact⟨b,l.xK,k H' s'⟩
noncomputable def pM:Tr->Rs Bool
 |.cx=>.ok false
 |.bl b=>.ok b
 |.int i=>.ok (i !=0)
 |.str z=>.ok ((z.length:Int) !=0)
 |.tup ts=>.ok (!ts.isEmpty)
 |.lst ts=>.ok (!ts.isEmpty)
 |.bW bB=>.ok (!bB.isEmpty)
 |_=>.bad
theorem bM.isEmpty {H:Vw}{vs:List V}(h:bM K H vs ts):vs.isEmpty=ts.isEmpty:=by cases h<;>rfl
def lN:cY<=sizeLine:=by rw[dQ];decide
def NA{H:Vw}{v:V}{b:Bool}(r:Rep K H v aC)(e:pM aC=.ok b):M_ K v H b:=by
 cases r with
 |cx=>cases e;rfl
 |bl tg=>cases e;rfl
 |int i=>cases e;rfl
 |str z h=>cases e;exact⟨cB h lN,rfl⟩
 |ty n=>cases e
 |tup h r=>cases e;exact .inr (.inl ⟨_,h,by rw[r.isEmpty]⟩)
 |lst h r=>cases e;exact .inl ⟨_,.of h,by rw[r.isEmpty]⟩
 |vn h=>cases e
 |«at» h=>cases e
 |vo h g l=>cases e
 |ob h g l=>cases e
 |zG h tg=>cases e
 |bW h g r=>
  cases e;refine .inr (.inr ⟨_,h,?_⟩);rename_i kvs bB;cases kvs<;>cases bB<;>first|rfl|cases g
def xM{H:Vw}{v:V}{t:Tr}{k:Bool->Prop}(r:Rep X.K H v t)(h:Fi X H (pM t) k):∃b,M_ X.K v H b/\k b:=by
 cases e:pM t with
 |ok b=>rw[e]at h;exact⟨b,NA r e,h⟩
 |exc tg=>cases t<;>cases e
 |bad=>rw[e]at h;exact h.elim
theorem V5(ha:PE X o (tP X F))(he:mR o=true:=by rfl):PT X o (tQ X λY=>(F Y).bind pM):=
 (Cd ha (xI he)).weak λZ H Q ⟨B,Y,hb,r,q⟩=>⟨B,Y,hb,r,q.bind.mono λt g v H' s' l=>by
  obtain⟨b,h1,h2⟩:=xM (l.same fy) (g.same s');exact⟨b,h1,h2 H' s'⟩⟩
def HE(r:Rs Bool):Rs Bool:=r.bind λb=>.ok (!b)
variable {A B:bT->Rs Bool}{c9:List Expr}
theorem V6(ha:PT X o (tQ X A)):PT X (.UnaryOp .Not o pos) (tQ X λY=>HE (A Y)):=
 (Jt ha).weak λZ H Q ⟨B,Y,hb,r,q⟩=>⟨B,Y,hb,r,q.bind⟩
def HF(o b:Rs Bool):Rs Bool:=o.bind λtg=>if tg then b else .ok false
def V7(o b:Rs Bool):Rs Bool:=o.bind λtg=>if tg then .ok true else b
def RR(q:PT X o (tQ X A)):PW X (.BoolOp .And [o] pos) (tQ X A):=pw_and1 q
def V8(q:PT X o (tQ X A)):PW X (.BoolOp .Or [o] pos) (tQ X A):=pw_or1 q
theorem w_and(ha:PT X o (tQ X A))(hb:PW X (.BoolOp .And (b::c9) pos) (tQ X B)):PW X (.BoolOp .And (o::b::c9) pos) (tQ X λY=>HF (A Y) (B Y)):=
 (pw_and ha hb).weak λZ H Q ⟨g,Y,hb,r,q⟩=>⟨g,Y,hb,r,q.bind.mono λtg l H1 s1=>by
  cases tg with
  |true=>exact⟨g,Y,hb.same s1,r.same s1,(Fi.same l s1).mono λb n H2 s2=>n H2 (s1.trans s2)⟩
  |false=>exact l H1 s1⟩
theorem w_or(ha:PT X o (tQ X A))(hb:PW X (.BoolOp .Or (b::c9) pos) (tQ X B)):PW X (.BoolOp .Or (o::b::c9) pos) (tQ X λY=>V7 (A Y) (B Y)):=
 (pw_or ha hb).weak λZ H Q ⟨g,Y,hb,r,q⟩=>⟨g,Y,hb,r,q.bind.mono λtg l H1 s1=>by
  cases tg with
  |false=>exact⟨g,Y,hb.same s1,r.same s1,(Fi.same l s1).mono λb n H2 s2=>n H2 (s1.trans s2)⟩
  |true=>exact l H1 s1⟩
def RS{op}(h:PW X (.BoolOp op es pos) (tQ X A)):PT X (.BoolOp op es pos) (tQ X A):=h.pt
def V9(o b:Rs Tr):Rs Tr:=o.bind λt=>(pM t).bind λtg=>if tg then b else .ok t
theorem V_(ha:PE X o (tP X F))(hb:PE X (.BoolOp .And (b::c9) pos) (tP X G)):PE X (.BoolOp .And (o::b::c9) pos) (tP X λY=>V9 (F Y) (G Y)):=by
 intro U s Z H Q I ⟨B,Y,n,r,q⟩;refine BoolOp_and (eC (ha U s Z H _ I ⟨B,Y,n,r,q.bind.mono λt l v H1 s1 r1=>(show∃t,Rep X.K (bZ B H1) v t/\bf H H1/\Fi X H ((pM t).bind λtg=>if tg then G Y else .ok t) (λt=>∀v H',bf H H'->Rep X.K (bZ B H') v t->Q v H')from⟨t,r1,s1,l⟩)⟩) λv s1 ⟨x,H1,M,r1,t,rt,g,l⟩=>?_);obtain⟨tg,h1,h2⟩:=xM (rt.same fy) (l.bind.same g);refine eC (JD U s1 Z H1 x v (λk H'=>k=tg/\H'=H1) M r1 ⟨tg,h1,rfl,rfl⟩) λk s2 ⟨H2,L,S,e2⟩=>?_
 subst S e2;cases k with
 |true=>exact hb U s2 Z _ Q L ⟨B,Y,n.same g,r.same g,(Fi.same h2 g).mono λt q v H' s' r'=>q v H' (g.trans s') r'⟩
 |false=>exact⟨x,_,L,r1,h2 x _ g rt⟩
def V'{op}(h:PE X o (tP X F)):PE X (.BoolOp op [o] pos) (tP X F):=Q3 h
def RT(r:Rs Bool):Rs Tr:=r.bind λb=>.ok (.bl b)
def J9(tg:Rs Bool)(o b:Rs Tr):Rs Tr:=tg.bind λk=>if k then o else b
theorem aav(hc:PT X tg (tQ X A))(ha:PE X o (tP X F))(hb:PE X b (tP X G)):PE X (.IfExp tg o b pos) (tP X λY=>J9 (A Y) (F Y) (G Y)):=
 (Ju hc ha hb).weak λZ H Q ⟨B,Y,hb,r,q⟩=>⟨B,Y,hb,r,q.bind.mono λk l H1 s1=>by
  cases k with
  |true=>exact⟨B,Y,hb.same s1,r.same s1,(Fi.same l s1).mono λt q v H2 s2 g=>q v H2 (s1.trans s2) g⟩
  |false=>exact⟨B,Y,hb.same s1,r.same s1,(Fi.same l s1).mono λt q v H2 s2 g=>q v H2 (s1.trans s2) g⟩⟩
def xN(o:Rs Tr)(l:Rs (List Tr)):Rs (List Tr):=o.bind λx=>l.bind λxs=>.ok (x::xs)
theorem F0:PA X [] (Ct X λ_=>.ok []):=rX.weak λZ H Q ⟨B,Y,hb,r,q⟩=>q [] H (bf.refl H) .nil
theorem AR(ha:PE X o (tP X F))(hr:PA X es (Ct X L))(hs:isStar o=false:=by rfl):PA X (o::es) (Ct X λY=>xN (F Y) (L Y)):=
 (lM ha hr (bJ _ _ hs)).weak λZ H Q ⟨B,Y,hb,r,q⟩=>⟨B,Y,hb,r,q.bind.mono λx b v H1 s1 g=>⟨B,Y,hb.same s1,r.same s1,(b.bind.same s1).mono λxs l vs H2 s2 n=>l _ H2 (s1.trans s2) (.cons (g.same (bI s2)) n)⟩⟩
noncomputable def eM:Nat:=16777216
def iZ:eM=sizeLine:=dQ.symm
def AS(l:Rs (List Tr)):Rs Tr:=l.bind λts=>if ts.length<=eM then .ok (.tup ts)else .bad
def zb(l:Rs (List Tr)):Rs Tr:=l.bind λts=>if ts.length<=eM then .ok (.lst ts)else .bad
theorem Wa{x1}(h:PA X es (Ct X L)):PE X (.Tuple es x1 pos) (tP X λY=>AS (L Y)):=
 (Ri h).weak λZ H Q ⟨B,Y,hb,r,q⟩=>⟨B,Y,hb,r,q.bind.mono λts b vs H1 s1 g=>by
  by_cases hz:ts.length<=eM
  ·rw[aV hz]at b;refine⟨by rw[g.length,<-iZ];exact hz,λp hp=>b (.ref p) _ (s1.AN (s1.free hp)) (.tup (.of ((hb.same s1).new hp)) (g.same (bI (bf.upd hp))))⟩
  ·rw[bb hz]at b;exact b.elim⟩
theorem Wb(h:PA X es (Ct X L)):PE X (.List es pos) (tP X λY=>zb (L Y)):=
 (JJ h).weak λZ H Q ⟨B,Y,hb,r,q⟩=>⟨B,Y,hb,r,q.bind.mono λts b vs H1 s1 g=>by
  by_cases hz:ts.length<=eM
  ·rw[aV hz]at b;refine⟨by rw[g.length,<-iZ];exact hz,λp hp=>b (.ref p) _ (s1.AN (s1.free hp)) (.lst ((hb.same s1).new hp) (g.same (bI (bf.upd hp))))⟩
  ·rw[bb hz]at b;exact b.elim⟩
def dG(h:List Tr->Rs Tr)(l:Rs (List Tr)):Rs Tr:=l.bind h
inductive rC(X:Cx)(h:List Tr->Rs Tr)(xs:List V)(H:Hp)(Q:VK):Prop
 |mk (B:fg) (ts:List Tr):HB B H->bM X.K (bZ B H) xs ts->(Fi X H (h ts) fun t=>∀v H',bf H H'->Rep X.K (bZ B H') v t->Q v H')->rC X h xs H Q
abbrev lO(X:Cx)(f:Value)(h:List Tr->Rs Tr):Prop:=gC X f (rC X h)
def zJ{Q:VK}(q:tP X (λY=>dG h (L Y)) Z H Q):tCB (rC X h) (Ct X L) Z H Q:=by
 obtain⟨B,Y,hb,r,q⟩:=q;exact⟨B,Y,hb,r,q.bind.mono λts b vs H1 s1 r1=>⟨B,ts,hb.same s1,r1,(b.same s1).mono λt b v H2 s2 g=>b v H2 (s1.trans s2) g⟩⟩
def NB(hc:lO X (.builtin ay) h)(hm:X.mg x=none)(ha:PA X (e::es) (Ct X L))(hv:bootBuiltins x=some (.builtin ay):=by rfl) (hg:Gl X x:=by rfl) (hn:x≠"__name__":=by decide) (fF:Db x:=by decide)
  (cD:bx (e::es)=true:=by rfl):PE X (.Call (.Name x p) (e::es) [] pos) (tP X λY=>dG h (L Y)):=
 (pF hc hg hm hv ha hn fF (bJ _ _ (bj cD).1) (cP (bj cD).2)).weak λ_ _ _ q=>zJ q
def J_(hc:lO X (.type ay) h)(hm:X.mg x=none)(ha:PA X (e::es) (Ct X L))(hv:bootBuiltins x=some (.type ay):=by rfl) (hg:Gl X x:=by rfl) (hn:x≠"__name__":=by decide) (fF:Db x:=by decide)
  (cD:bx (e::es)=true:=by rfl):PE X (.Call (.Name x p) (e::es) [] pos) (tP X λY=>dG h (L Y)):=
 (uU hc hg hm hv ha hn fF (bJ _ _ (bj cD).1) (cP (bj cD).2)).weak λ_ _ _ q=>zJ q
inductive spT(K:Frag)(f:List Tr->Rs Tr)(vs:List V)(H:Hp)(Q:VK)(_w3:XK):Prop
 |mk (B:fg) (ts:List Tr):HB B H->bM K (bZ B H) vs ts->(∃t,f ts=.ok t/\∀v H',bf H H'->Rep K (bZ B H') v t->Q v H')->spT K f vs H Q _w3
theorem Wc{fd:FuncData}(D:zF X.K X.mg x ai ps a fd)(G:d_ X.prog X.w X.K X.mg X.base mq i a fd ps (spT X.K h))(hr:dc i X.A)
  (ha:PA X (e::es) (Ct X L)) (hg:Gl X x:=by rfl) (fF:Db x:=by decide) (cD:bx (e::es)=true:=by rfl):PE X (.Call (.Name x p) (e::es) [] pos) (tP X λY=>dG h (L Y)):=
 (RP D G hr ha hg fF (bJ _ _ (bj cD).1) (cP (bj cD).2)).weak λZ H Q ⟨B,Y,hb,r,q⟩=>⟨B,Y,hb,r,q.bind.mono λts b vs H1 s1 g=>by
  cases e:h ts with
  |ok t=>rw[e]at b;exact⟨B,ts,hb.same s1,by rw[j9];exact g,t,e,λv H2 s2 l=>b v H2 (s1.trans s2) l⟩
  |exc tg=>rw[e]at b;exact(b _ (bf.refl _)).elim
  |bad=>rw[e]at b;exact b.elim⟩
end
section
variable {a b c:Expr}{G G':bT->Rs Out}{A:bT->Rs Bool}
def Cv(r:Rs Out)(G:bT->Rs Out):Rs Out:=r.bind λo=>match o with
 |.nx Y=>G Y
 |.ret t=>.ok (.ret t)
 |.bk Y=>.ok (.bk Y)
 |.ct Y=>.ok (.ct Y)
theorem Wd:oK X [] (tS X λY=>.ok (.nx Y)):=FF.weak λD Z H ⟨C,B0,H0,B,Y,b,r,q⟩=>q Z B H b r
theorem RU(h1:PS X ai (tS X G))(h2:oK X ah (tS X G')):oK X (ai::ah) (tS X λY=>Cv (G Y) G'):=
 (Cc h1 h2).weak λD Z H ⟨C,B0,H0,B,Y,g,r,q⟩=>⟨C,B0,H0,B,Y,g,r,q.bind.mono λo b=>by
  cases o with
  |nx iu=>exact λI B' H' l n=>⟨C,B0,H0,B',iu,l,n,b⟩
  |ret t=>exact b
  |bk iu=>exact b
  |ct iu=>exact b⟩
def We(q:PS X ai (tS X G)):oK X [ai] (tS X G):=FG q
def J'(i:Nat)(r:Rs Tr)(Y:bT):Rs Out:=r.bind λt=>.ok (.nx (Y.set i (.sh t)))
def qJ.here {α:Type}{C B0:fg}{H0:Hp}{r:Rs α}{k:α->Prop}(h:qJ (xS X C B0 H0) r k)(si:d9 C B0 H0 B H):Fi X H r k:=h.imp λ_ q H' s'=>q B H' (si.go s')
def F1{C B0:fg}{Y:bT}(si:d9 C B0 ac B H)(r:cF X.K B H Z Y)(q:qJ (xS X C B0 ac) (F Y) aB){Q:VK}(hq:∀t v H',aB t->bf H H'->d9 C B0 ac B H'->cF X.K B H' Z Y->Rep X.K (bZ B H') v t->Q v H'):tP X F Z H Q:=
 ⟨B,Y,si.hb,r,(q.here si).mono λt b v H' s' g=>hq t v H' b s' (si.go s') (r.same s') g⟩
def Wf{C B0:fg}{Y:bT}{k:Bool->Prop}(si:d9 C B0 ac B H)(r:cF X.K B H Z Y)(q:qJ (xS X C B0 ac) (A Y) k){Q:Bool->Hp->Prop}(hq:∀b H',k b->bf H H'->d9 C B0 ac B H'->cF X.K B H' Z Y->Q b H'):tQ X A Z H Q:=
 ⟨B,Y,si.hb,r,(q.here si).mono λb g H' s'=>hq b H' g s' (si.go s') (r.same s')⟩
def Rep.out {C B0:fg}{H0:Hp}{v:V}{t:Tr}(r:Rep K (bZ B H) v t)(q:d9 C B0 H0 B H):Rep K (bZ C H) v t:=r.same (xG q.sub)
theorem Wg(he:PE X e (tP X F))(hN:X.N.Nodup:=by assumption) (hi:X.N[i]?=some x:=by rfl) (hx:Loc X.env.scope x:=by first|exact Or.inl rfl|exact Or.inr rfl) (hs:r6 e=false:=by rfl) (hf:y3 X x:=by first|exact .inl rfl|exact .inr rfl|assumption):
  PS X (.Assign [.Name x p] e pos) (tS X λY=>J' i (F Y) Y):=
 (Jz hN hi hx he (xH hs) hf).weak λD Z H ⟨C,B0,H0,B,Y,b,r,q⟩=>F1 b r q.bind λt v H1 g s1 l n I=>g _ B H1 l (n.set i I)
def Ka(r:Rs Tr):Rs Out:=r.bind λt=>.ok (.ret t)
theorem Wh(he:PE X e (tP X F)):PS X (.Return (some e) pos) (tS X λY=>Ka (F Y)):=
 (Jw he).weak λD Z H ⟨C,B0,H0,B,Y,g,r,q⟩=>F1 g r q.bind λt v H1 l s1 b I n=>l v B H1 b (n.out b)
def UO(c:Rs Bool)(a b:Rs Out):Rs Out:=c.bind λk=>if k then a else b
theorem aaw(hc:PT X c (tQ X A))(ha:oK X ah (tS X G))(hb:oK X aj (tS X G')):PS X (.If c ah aj pos) (tS X λY=>UO (A Y) (G Y) (G' Y)):=
 (Pz hc ha hb).weak λD Z H ⟨C,B0,H0,B,Y,l,r,q⟩=>Wf l r q.bind λk H1 b s1 g r1=>by
  cases k with
  |true=>exact RJ ⟨C,B0,H0,B,Y,g,r1,b⟩
  |false=>exact RI ⟨C,B0,H0,B,Y,g,r1,b⟩
abbrev oH:=Tr->bT->Rs bT
inductive tG(X:Cx)(T:oH)(v:V)(Z:St)(H:Hp)(Q:St->Hp->Prop):Prop
 |mk (B:fg) (Y:bT) (t:Tr):HB B H->cF X.K B H Z Y->Rep X.K (bZ B H) v t->(Fi X H (T t Y) fun iu=>∀du H',bf H H'->cF X.K B H' du iu->Q du H')->tG X T v Z H Q
def gN(i:Nat):oH:=λt Y=>.ok (Y.set i (.sh t))
theorem RV(i:Nat)(hN:X.N.Nodup:=by assumption) (hi:X.N[i]?=some x:=by rfl) (hx:Loc X.env.scope x:=by first|exact Or.inl rfl|exact Or.inr rfl) (hf:y3 X x:=by first|exact .inl rfl|exact .inr rfl|assumption):PG X (.Name x pos) (tG X (gN i)):=by
 intro U s Z H v u Q I r ⟨B,Y,t,hb,rs,rt,q⟩;exact FH hN hi hx hf U s Z H v u Q I r (q _ H (bf.refl H) (rs.set i rt))
noncomputable def Ew:List Nat->List Tr->bT->Rs bT
 |[],[],Y=>.ok Y
 |i::is,t::ts,Y=>Ew is ts (Y.set i (.sh t))
 |_,_,_=>.bad
inductive UP(X:Cx)(T:List Tr->bT->Rs bT)(vs:List V)(Z:St)(H:Hp)(Q:St->Hp->Prop):Prop
 |mk (B:fg) (Y:bT) (ts:List Tr):HB B H->cF X.K B H Z Y->bM X.K (bZ B H) vs ts->(Fi X H (T ts Y) fun iu=>∀du H',bf H H'->cF X.K B H' du iu->Q du H')->UP X T vs Z H Q
theorem Wi:M3 X [] (UP X (Ew [])):=by
 intro U s Z H vs us Q I r ⟨B,Y,ts,hb,rs,rt,q⟩
 match ts,rt,q with
 |[],.nil,q=>exact M4 U s Z H [] us Q I r ⟨rfl,q Z H (bf.refl H) rs⟩
 |_::_,_,q=>exact q.elim
theorem RW{is:List Nat}(h2:M3 X es (UP X (Ew is)))(hN:X.N.Nodup:=by assumption) (hi:X.N[i]?=some x:=by rfl) (hx:Loc X.env.scope x:=by first|exact Or.inl rfl|exact Or.inr rfl) (hf:y3 X x:=by first|exact .inl rfl|exact .inr rfl|assumption)
  (hs:(assignEach (.Name x pos::es) X.env).map (·.2)=assign (.Name x pos) X.env::(assignEach es X.env).map (·.2):=by rfl):M3 X (.Name x pos::es) (UP X (Ew (i::is))):=by
 intro U s Z H vs us Q I r ⟨B,Y,ts,hb,rs,rt,q⟩
 match ts,rt,q with
 |[],_,q=>exact q.elim
 |t::ts,.cons b r2,q=>
  exact Jx (FH hN hi hx hf) h2 hs U s Z H _ us Q I r ⟨_,_,rfl,⟨B,_,ts,hb,rs.set i b,r2,q⟩⟩
def gT(is:List Nat):oH:=λt Y=>match t with
 |.tup ts=>Ew is ts Y
 |_=>.bad
theorem F2:∀{is:List Nat} {ts:List Tr} {Y q:bT},Ew is ts Y=.ok q->ts.length=is.length
 |[],[],_,_,_=>rfl
 |[],_::_,_,_,h=>by cases h
 |_::_,[],_,_,h=>by cases h
 |_::is,_::ts,_,_,h=>by rw[dt,dt,F2 (is:=is) (ts:=ts) h]
theorem zK:∀{is:List Nat} {ts:List Tr} {Y:bT} {c:Tr},Ew is ts Y≠ .exc c
 |[],[],_,_=>λh=>by cases h
 |[],_::_,_,_=>λh=>by cases h
 |_::_,[],_,_=>λh=>by cases h
 |_::is,_::ts,_,_=>zK (is:=is) (ts:=ts)
theorem Wj{is:List Nat}(h:M3 X es (UP X (Ew is)))(hc:X.calm=true:=by rfl) (hn:(assignEach es X.env).length=is.length:=by rfl) (cD:(assignEach es X.env).findIdx? (·.1)=none:=by rfl):PG X (.Tuple es i pos) (tG X (gT is)):=by
 intro U s Z H v u Q I r ⟨B,Y,t,hb,rs,rt,q⟩;cases rt with
 |tup g rv=>
  refine Q5 hc h hn cD U s Z H _ u Q I r ⟨_,_,rfl,(bf.tup bG g),?_,B,Y,_,hb,rs,rv,q⟩;have b:Fi X H (Ew is _ Y) _:=q;cases e:Ew is _ Y with
  |ok l=>rw[rv.length];exact F2 e
  |exc c=>exact(zK e).elim
  |bad=>rw[e]at b;exact b.elim
 |_=>exact q.elim
def ND(T:oH)(r:Rs Tr)(Y:bT):Rs Out:=r.bind λt=>(T t Y).bind λb=>.ok (.nx b)
theorem Wk{T:oH}(hg:PG X tg (tG X T))(he:PE X e (tP X F))(hs:swapsWithSole [tg] e pos.line X.env=pure false:=by rfl) (hw:swappedStores [tg] e X.env=pure none:=by rfl)
  (h1:(assignEach [tg] X.env).map (·.2)=[assign tg X.env]:=by rfl):PS X (.Assign [tg] e pos) (tS X λY=>ND T (F Y) Y):=
 (Jy he hg hs hw h1).weak λD Z H ⟨C,B0,H0,B,Y,g,r,q⟩=>F1 g r q.bind λt v H1 l s1 b r1 rv=>⟨B,Y,t,b.hb,r1,rv,(l.bind.here b).mono λM n I H2 s2 L=>n I B H2 (b.go s2) L⟩
structure lP(K:Frag)(B:fg)(J:It)(H:Hp)(ts:List Tr):Prop where
 go:∀i B' H',i<ts.length->eX (bZ B H) (bZ B' H')->HB B' H'->J.go i H'
 FI:∀i B' H' x ML,i<ts.length->eX (bZ B H) (bZ B' H')->HB B' H'->J.FI i H' x ML->bf H' ML/\∃t,ts[i]?=some t/\Rep K (bZ B' ML) x t
 stop:∀B' H',eX (bZ B H) (bZ B' H')->J.stop ts.length H'
inductive tI(X:Cx)(W:bT->Rs (List Tr))(Z:St)(H:Hp)(R:It->Hp->Prop):Prop
 |mk (B:fg) (Y:bT):HB B H->cF X.K B H Z Y->(Fi X H (W Y) fun ts=>∀J H',bf H H'->lP X.K B J H' ts->R J H')->tI X W Z H R
def zc(T:oH)(G:bT->Rs Out):List Tr->bT->Rs Out
 |[],Y=>.ok (.nx Y)
 |t::ts,Y=>(T t Y).bind λg=>(G g).bind λo=>match o with
  |.nx b=>zc T G ts b
  |.ct b=>zc T G ts b
  |.bk b=>.ok (.nx b)
  |.ret t=>.ok (.ret t)
def F3(T:oH)(G:bT->Rs Out)(l:Rs (List Tr))(Y:bT):Rs Out:=l.bind λts=>zc T G ts Y
noncomputable def HH(z:Str):List Tr:=z.cps.toList.map λc=>Tr.str ⟨#[c]⟩
def Kb(r:Rs Tr):Rs (List Tr):=r.bind λt=>match t with
 |.tup ts=>.ok ts
 |.lst ts=>.ok ts
 |.str z=>.ok (HH z)
 |_=>.bad
def xO(h:bZ B H au=some (.lst ar))(r:bM K (bZ B H) ar ts):lP K B (Itl K au) H ts where
 go:=λi B' H' hi s hb=>by
  have b:i<ar.length:=by rw[r.length];exact hi
  exact⟨ar,ar[i],lL.of (bG _ _ (s.h _ _ h)),by simp[b]⟩
 FI:=λi B' H' x l hi s hb ⟨e,y⟩=>by
  subst e;have q:=y ar (lL.of (bG _ _ (s.h _ _ h)));obtain⟨t,g,r1⟩:=r.xF q;exact⟨bf.refl _,t,g,r1.same s⟩
 stop:=λB' H' s=>⟨ar,lL.of (bG _ _ (s.h _ _ h)),by rw[r.length];exact bz _⟩
def HI(h:jl K (bZ B H) au ar)(r:bM K (bZ B H) ar ts):lP K B (Itt K au) H ts where
 go:=λi B' H' hi s hb=>by
  have b:i<ar.length:=by rw[r.length];exact hi
  exact⟨ar,ar[i],bf.tup bG (s.h.tup h),by simp[b]⟩
 FI:=λi B' H' x l hi s hb ⟨e,y⟩=>by
  subst e;have q:=y ar (bf.tup bG (s.h.tup h));obtain⟨t,g,r1⟩:=r.xF q;exact⟨bf.refl _,t,g,r1.same s⟩
 stop:=λB' H' s=>⟨ar,bf.tup bG (s.h.tup h),by rw[r.length];exact bz _⟩
def HJ(z:Str):lP K B (Zh z) H (HH z) where
 go:=λi B' H' hi _ _=>by
  have h:i<z.cps.size:=by simpa[HH]using hi
  exact h
 FI:=λi B' H' x l hi s hb ⟨e,c,b,g⟩=>by
  subst e;subst g;refine⟨bf.refl _,.str ⟨#[c]⟩,?_,.str _ (by show 1<=cY;decide)⟩;unfold HH;rw[b_,nz,b]
  rfl
 stop:=λB' H' s=>by simp[HH,Zh]
def NF{s1:Shared}{R:It->Hp->Prop}{t:Tok}(I1:Inv X U Z H s1)(q:R (Zh x) H):wpAny (model X.prog X.w) X.A (pyIter (.str x t)) (Y' X U Z tg R) X.xe s1:=by
 have fin:∀b∈[s1.heap.objs.size],kP X U H b:=λb hb=>by
  have e:b=s1.heap.objs.size:=by simpa using hb
  rw[e];exact I1.xn (bz _) (I1.cU.fresh (bz _))
 cases r:x.cps.all (· <128)
 ·exact wpAny_pyIter_wide r ⟨s1.heap.objs.size,[s1.heap.objs.size],_,_,H,rfl,I1.kept (t':=s1.toks) λb o e=>bP _ e,
   Cq (n:="str_iterator") (t:=t) (by decide) (λA' g=>Walks.strWide g _ x t) λ_ _ _ _ _ ai l=>wpAny_pyIter_striter_wide ai l,⟨_,cp _ rfl,rfl,rfl⟩,fin,q⟩
 ·exact wpAny_pyIter_ascii r ⟨s1.heap.objs.size,[s1.heap.objs.size],_,_,H,rfl,I1.kept (t':=s1.toks) λb o e=>bP _ e,
   Cq (n:="str_ascii_iterator") (t:=t) (by decide) (λA' g=>Walks.strAscii g _ x t) λ_ _ _ _ _ ai l=>wpAny_pyIter_striter_ascii ai l,⟨_,cp _ rfl,rfl,rfl⟩,fin,q⟩
theorem Wl(hl:PE X am (tP X F)):PI X tg am (tI X λY=>Kb (F Y)):=by
 intro U s Z H R I ⟨B,Y,hb,r,q⟩;refine eC (hl U s Z H (λx H1=>∃t,bf H H1/\Rep X.K (bZ B H1) x t/\Fi X H (Kb (.ok t)) λts=>∀J H',bf H H'->lP X.K B J H' ts->R J H') I ⟨B,Y,hb,r,q.bind.mono λt n v H1 s1 r1=>⟨t,s1,r1,n⟩⟩) λv s1 ⟨x,H1,g,r1,t,l,rt,k⟩=>?_
 have k:Fi X H (match t with
  |.tup ts=>.ok ts
  |.lst ts=>.ok ts
  |.str z=>.ok (HH z)
  |_=>.bad) _:=k
 have fin:∀b∈[s1.heap.objs.size],kP X U H1 b:=λb hb=>by
  rw[de.mp hb];exact g.xn (bz _) (g.cU.fresh (bz _))
 split at k
 ·obtain⟨a,vs,rfl,h,rr⟩:=rt.dR;cases r1;obtain⟨cn,rv,p,hz⟩:=g.tuple (bf.tup bG h);exact wpAny_pyIter_tuple (show s1.heap.IsTuple a cn.toArray from p) ⟨s1.heap.objs.size,[s1.heap.objs.size],_,_,H1,rfl,g.kept (t':=s1.toks) λb o e=>bP _ e,Eb a _,⟨_,cp _ rfl,rfl,rfl⟩,fin,k _ H1 l (HI h rr)⟩
 ·obtain⟨a,vs,rfl,h,rr⟩:=rt.lst_inv;cases r1;obtain⟨cn,rv,p,hz⟩:=g.list (lL.of (bG _ _ h));exact kH p.isList ⟨s1.heap.objs.size,[s1.heap.objs.size],_,_,H1,rfl,g.kept (t':=s1.toks) λb o e=>bP _ e,zx a _,⟨_,cp _ rfl,rfl,rfl⟩,fin,k _ H1 l (xO h rr)⟩
 ·obtain⟨rfl,_⟩:=rt.str_inv;obtain⟨t,rfl⟩:=(show∃t,v=Value.str _ t from r1);exact NF g (k _ H1 l (HJ _))
 ·exact k.elim
noncomputable def Cw(lo:Int)(n:Nat):List Tr:=(List.range n).map λk=>Tr.int (lo+(k:Nat))
def pN(lo:Int)(n:Nat):(Cw lo n).length=n:=by simp[Cw]
theorem Cy(lo:Int)(n:Nat):lP K B (Zb lo n) H (Cw lo n) where
 go:=λi B' H' hi _ _=>by rw[pN]at hi;exact hi
 FI:=λi B' H' x b hi s hb ⟨e,y⟩=>by
  subst e;subst y;rw[pN]at hi;refine⟨bf.refl _,.int (lo+i),?_,.int _⟩;unfold Cw;rw[b_,List.getElem?_range hi]
  rfl
 stop:=λB' H' s=>by rw[pN];exact bz _
def F4(l:Rs (List Tr)):Rs (List Tr):=l.bind λts=>match ts with
 |[.int j]=>if-4611686018427387904<=j/\j<4611686018427387904 then .ok (Cw 0 j.toNat)else .bad
 |_=>.bad
def PI.weak {c5:Expr}{t t':TI}(h:PI X tg c5 t)(w:∀Z H R,t' Z H R->t Z H R):PI X tg c5 t':=λU s Z H R I q=>h U s Z H R I (w Z H R q)
theorem Kc(hm:X.mg "range"=none)(ha:PA X [a] (Ct X L))(hg:Gl X "range":=by rfl) (hs:bx [a]=true:=by rfl):PI X tg (.Call (.Name "range" p) [a] [] pos) (tI X λY=>F4 (L Y)):=
 (Hm hg hm ha (by rw[bJ _ _ (bj hs).1];rfl)).weak λZ H R ⟨B,Y,hb,r,q⟩=>⟨B,Y,hb,r,q.bind.mono λts b vs H1 s1 g=>by
  split at b
  ·rename_i j;cases g with
   |cons l g=>
    cases l;cases g;split at b
    ·rename_i n;exact⟨j,rfl,by omega,by omega,b _ H1 s1 (Cy 0 _)⟩
    ·exact b.elim
  ·exact b.elim⟩
def NG{α:Type}(r:Rs α):Rs α:=match r with
 |.ok a=>.ok a
 |_=>.bad
noncomputable def ud(ix:List (Option Nat))(Y:bT):bT:=ix.map λo=>match o with
 |none=>.no
 |some j=>match Y[j]? with
  |some (.sh t)=>.sh t
  |_=>.no
def cF.comp {B':fg}{H':Hp}{Y:bT}(ix:List (Option Nat))(h:cF K B H Z Y)(s:eX (bZ B H) (bZ B' H')):cF K B' H' (jn ix Z) (ud ix Y):=by
 have no:∀(i:Nat) (c:Cell),(ud ix Y)[i]?=some c->c=.no\/∃j t,ix[i]?=some (some j)/\Y[j]?=some (.sh t)/\c=.sh t:=λi c e=>by
  unfold ud at e;rw[b_]at e;cases q:ix[i]? with
  |none=>rw[q]at e;cases e
  |some o=>
   rw[q]at e;cases o with
   |none=>exact .inl (Option.some.inj e).symm
   |some j=>
    have l:(match Y[j]? with|some (Cell.sh t)=>Cell.sh t|_=>Cell.no)=c:=Option.some.inj e;split at l
    ·rename_i t b;exact .inr ⟨j,t,rfl,b,l.symm⟩
    ·exact .inl l.symm
 refine⟨by unfold ud jn;rw[bt,bt],λi t e=>?_,λi ts e=>?_,λi j ts us D _ e=>?_⟩
 ·rcases no i _ e with q|⟨j,u,n,b,g⟩
  ·cases q
  ·cases g;obtain⟨v,r,r1⟩:=h.sh j t b;refine⟨v,?_,r1.same s⟩;unfold jn;rw[b_,n];show some ((Z[j]?).join)=_;rw[r]
   rfl
 ·rcases no i _ e with q|⟨j,u,n,b,g⟩
  ·cases q
  ·cases g
 ·rcases no i _ e with q|⟨j,u,n,b,g⟩
  ·cases q
  ·cases g
def Ex(T:oH)(A:bT->Rs Bool)(F:bT->Rs Tr):List Tr->bT->Rs (List Tr)
 |[],_=>.ok []
 |t::ts,Y=>(NG (T t Y)).bind λb=>(NG (A b)).bind λk=>if k then(NG (F b)).bind λy=>(Ex T A F ts b).bind λys=>.ok (y::ys)else Ex T A F ts b
def vq(ix:List (Option Nat))(T:oH)(A:bT->Rs Bool)(F:bT->Rs Tr)(l:Rs (List Tr))(Y:bT):Rs Tr:=l.bind λts=>if ts.length<=eM then(Ex T A F ts (ud ix Y)).bind λys=>.ok (.lst ys)else .bad
def mS(B:fg)(D:Addr):fg:=⟨λb=>B.hd b||b==D,B.ix⟩
def kR{D:Addr}{o:HO}(hD:H D=none):eX (bZ B H) (bZ (mS B D) (upd H D o)):=⟨λb u e=>by
 have g:=bG b u e;have l:b≠D:=bR g hD;have r:B.hd b=false:=by
  cases q:B.hd b with
  |false=>rfl
  |true=>
   have n:(if B.hd b=true then none else H b)=some u:=e;rw[q,aV rfl]at n;cases n
 rw[fS (show(B.hd b||b==D)=false by rw[r,kc l];rfl),bh l];exact g,λ_ _ e=>e⟩
def F5{o:HO}(h:HB B H)(hD:H au=none):HB (mS B au) (upd H au o):=λb e=>by
 by_cases q:b=au
 ·subst q;exact⟨o,bK⟩
 ·have g:(B.hd b||b==au)=true:=e;rw[kc q,pv]at g;rw[bh q];exact h b g
theorem zL:(mS B au).hd au=true:=by show(B.hd au||au==au)=true;rw[bX,Bool.or_true]
def ue{o:HO}:bZ (mS B au) (upd H au o)=bZ (mS B au) H:=by
 unfold bZ;congr 1;funext b;by_cases q:b=au
 ·subst q;rw[aV zL,aV zL]
 ·rw[bh q]
def F6:vp B (mS B au):=⟨λb e=>by show(B.hd b||b==au)=true;rw[e,tq],λ_ _ e=>e⟩
def Cz:eX (bZ (mS B au) H) (bZ B H):=xG F6
def fI(Y:bT):Prop:=∀(i:Nat) (ts:List Tr),Y[i]? ≠some (.ow ts)
def jL(T:oH):Prop:=∀t Y b,fI Y->T t Y=.ok b->fI b
theorem fI.set {Y:bT}(h:fI Y)(i:Nat)(t:Tr):fI (Y.set i (.sh t)):=λj ts e=>by
 rcases fH e with⟨_,_,q⟩|⟨_,q⟩
 ·cases q
 ·exact h j ts q
def fJ(i:Nat):jL (gN i):=λt Y b h e=>by cases e;exact h.set i t
theorem F7:∀{is:List Nat} {ts:List Tr} {Y q:bT},fI Y->Ew is ts Y=.ok q->fI q
 |[],[],_,_,h,e=>by cases e;exact h
 |[],_::_,_,_,_,e=>by cases e
 |_::_,[],_,_,_,e=>by cases e
 |i::is,t::ts,_,_,h,e=>F7 (is:=is) (ts:=ts) (h.set i t) e
def Ey(is:List Nat):jL (gT is):=λt Y b h e=>by
 cases t with
 |tup ts=>exact F7 h e
 |_=>cases e
def v_(ix:List (Option Nat))(Y:bT):fI (ud ix Y):=λi ts e=>by
 unfold ud at e;rw[b_]at e;cases q:ix[i]? with
 |none=>rw[q]at e;cases e
 |some o=>
  rw[q]at e;cases o with
  |none=>cases e
  |some j=>
   have b:(match Y[j]? with|some (Cell.sh t)=>Cell.sh t|_=>Cell.no)=.ow ts:=Option.some.inj e;split at b<;>cases b
def Ez{r:Rs ag}{k:ag->Prop}(h:qJ aB (NG r) k):∃a,r=.ok a/\k a:=by
 cases r with
 |ok a=>exact⟨a,rfl,h⟩
 |_=>exact h.elim
inductive PY(K:Frag)(F:bT->Rs Tr)(Z:St)(H:Hp)(Q:VK):Prop
 |mk (B:fg) (Y:bT):HB B H->cF K B H Z Y->(∃t,F Y=.ok t/\∀v H',bf H H'->Rep K (bZ B H') v t->Q v H')->PY K F Z H Q
inductive PZ(K:Frag)(F:bT->Rs Bool)(Z:St)(H:Hp)(Q:Bool->Hp->Prop):Prop
 |mk (B:fg) (Y:bT):HB B H->cF K B H Z Y->(∃b,F Y=.ok b/\∀H',bf H H'->Q b H')->PZ K F Z H Q
inductive P0(K:Frag)(T:oH)(v:V)(Z:St)(H:Hp)(Q:St->Hp->Prop):Prop
 |mk (B:fg) (Y:bT) (t:Tr):HB B H->cF K B H Z Y->Rep K (bZ B H) v t->(∃iu,T t Y=.ok iu/\∀du H',bf H H'->cF K B H' du iu->Q du H')->P0 K T v Z H Q
def RX{Q:VK}:PY X.K F Z H Q->tP X F Z H Q:=λ⟨B,Y,hb,r,t,e,q⟩=>⟨B,Y,hb,r,by rw[e];exact q⟩
def RY{Q:Bool->Hp->Prop}:PZ X.K aF Z H Q->tQ X aF Z H Q:=λ⟨B,Y,hb,r,t,e,q⟩=>⟨B,Y,hb,r,by rw[e];exact q⟩
def RZ{T:oH}{v:V}{Q:St->Hp->Prop}:P0 X.K T v Z H Q->tG X T v Z H Q:=λ⟨B,Y,t,hb,r,rt,iu,e,q⟩=>⟨B,Y,t,hb,r,rt,by rw[e];exact q⟩
theorem wa{J:It}{D:Addr}{Ze:St}{NH:bT}{T:oH}{Q:Hp->Prop}(hT:jL T)(h0:fI NH)(hb:HB B H)(gt:lP K B J H ts)(hz:ts.length<=eM)(r:cF K (mS B D) (upd H D (.lst [])) Ze NH)(hD:H D=none)
  {k:List Tr->Prop} (q:qJ aB (Ex T A F ts NH) k) (hQ:∀ys H',k ys->bf H H'->Rep K (bZ B H') (.ref D) (.lst ys)->Q H'):LcW J D Ze (upd H D (.lst [])) (P0 K T) (PZ K A) (PY K F) Q:=by
 refine⟨λi m Z H'=>m=ts.length - i/\i<=ts.length/\bf H H'/\HB (mS B D) H'/\eX (bZ B H) (bZ (mS B D) H')/\∃Y vs us,fI Y/\cF K (mS B D) H' Z Y/\H' D=some (.lst vs)/\vs.length<=i/\bM K (bZ (mS B D) H') vs us/\qJ aB (Ex T A F (ts.drop i) Y) (λys=>k (us++ys)),
  ⟨_,rfl,d5 _,bf.upd hD,F5 hb hD,kR hD,NH,[],[],h0,r,bK,bz _,.nil,q⟩,?_⟩
 rintro i m Z H' ⟨rfl,hi,sm,g,jK,Y,vs,us,no,rs,hd,hl,rv,M⟩
 by_cases S:i<ts.length
 ·rw[oN S]at M;refine .inr ⟨gt.go i _ H' S jK g,λv8 H2=>bf H H2/\HB (mS B D) H2/\eX (bZ B H) (bZ (mS B D) H2)/\∃Y vs us,fI Y/\cF K (mS B D) H2 v8 Y/\H2 D=some (.lst vs)/\vs.length<=i+1/\bM K (bZ (mS B D) H2) vs us/\qJ aB (Ex T A F (ts.drop (i+1)) Y) (λys=>k (us++ys)),
   λv8 H2 h=>⟨ts.length - (i+1),by omega,rfl,S,h⟩,λx H2 hx=>?_⟩
  obtain⟨s2,t,et,rt⟩:=gt.FI i _ H' x H2 S jK g hx;have R0:ts[i]=t:=by rw[bV S]at et;exact Option.some.inj et
  rw[R0]at M;obtain⟨L,eT,q1⟩:=Ez (qJ.bind M);have l:=hT t Y L no eT;refine⟨_,Y,t,g.same s2,rs.same s2,rt,L,eT,λM6 H3 s3 r3=>?_⟩;have s23:=s2.trans s3;obtain⟨c,eA,qc⟩:=Ez (qJ.bind q1);refine⟨_,L,g.same s23,r3,c,eA,λH4 s4=>?_⟩;have n:=s23.trans s4;have g4:bf H H4:=sm.trans n;cases c with
  |false=>
   exact RI ⟨g4,g.same n,jK.trans (bI n),L,vs,us,l,r3.same s4,n _ _ hd,by omega,rv.same (bI n),qc⟩
  |true=>
   obtain⟨y,eF,qy⟩:=Ez (qJ.bind qc);refine RJ ⟨_,L,g.same n,r3.same s4,y,eF,λv H5 s5 r5=>?_⟩;have Wm:=n.trans s5;refine⟨vs,Wm _ _ hd,by rw[<-iZ];omega,(sm.trans Wm).AN hD,?_,?_,L,vs++[v],us++[y],l,?_,bK,by rw[eO];exact Nat.add_le_add_right hl 1,?_,?_⟩
   ·intro b e;by_cases q:b=D
    ·subst q;exact⟨_,bK⟩
    ·rw[bh q];exact(g.same Wm) b e
   ·rw[ue];exact jK.trans (bI Wm)
   ·have I:=(r3.same s4).same s5;refine⟨I.len,λi t e=>?_,λi ts e=>(l i ts e).elim,I.ap⟩;rw[ue];exact I.sh i t e
   ·rw[ue];exact(rv.same (bI Wm)).append (.cons r5 .nil)
   ·exact(qJ.bind qy).mono λys q=>by rw[wV];exact q
 ·have e:i=ts.length:=by omega
  subst e;rw[o7]at M;refine .inl ⟨gt.stop _ H' jK,hQ us H' (by have:=(show k (us++[])from M);rw[j9]at this;exact this) sm (.lst ?_ (rv.same Cz))⟩;rw[fS (hb.free hD)];exact hd
variable {scope:Scope}{N':List Str}{ix:List (Option Nat)}{elt c5:Expr}{ifs:List Expr}{T:oH}{W:bT->Rs (List Tr)}
theorem Wn:PF X [] (tQ X λ_=>.ok true):=λU s Z H Q I ⟨B,Y,hb,r,q⟩=>RL U s Z H Q I (q H (bf.refl H))
def Wo(h:PT X c (tQ X A)):PF X [c] (tQ X A):=RM h
def CA{Q:VK}(hT:jL T)(q:tP X (λY=>vq ix T A F (W Y) Y) Z H Q):UM (tI X W) ix (P0 X.K T) (PZ X.K A) (PY X.K F) Z H Q:=by
 obtain⟨B,Y,hb,r,q⟩:=q;refine⟨B,Y,hb,r,q.bind.mono λts b J H1 s1 gt D g=>?_⟩;by_cases hz:ts.length<=eM
 ·rw[aV hz]at b;exact wa hT (v_ ix Y) (hb.same s1) gt hz ((r.same s1).comp ix (kR g)) g (Fi.bind b) λys H' k s' l=>k _ H' (s1.trans s') l
 ·rw[bb hz]at b;exact b.elim
structure NI(X:Cx)(scope:Scope)(N':List Str)(tg elt:Expr)(ifs:List Expr)(T:oH)(A:bT->Rs Bool)(F:bT->Rs Tr):Prop where
 all:∀s H ex,PG (ub X scope N' s H ex) tg (tG (ub X scope N' s H ex) T)/\PF (ub X scope N' s H ex) ifs (tQ (ub X scope N' s H ex) A)/\PE (ub X scope N' s H ex) elt (tP (ub X scope N' s H ex) F)
theorem NI.UQ {F:bT->Rs Tr}(h:NI X scope N' tg elt ifs T A F):∀s H ex,PG (ub X scope N' s H ex) tg (P0 X.K T)/\PF (ub X scope N' s H ex) ifs (PZ X.K A)/\PE (ub X scope N' s H ex) elt (PY X.K F):=λs H ex=>by
 obtain⟨b,h2,g⟩:=h.all s H ex;exact⟨λU s Z H v u Q I r q=>b U s Z H v u Q I r (RZ q),λU s Z H Q I q=>h2 U s Z H Q I (RY q),λU s Z H Q I q=>g U s Z H Q I (RX q)⟩
theorem aax(Lk:gL X N' ix scope)(hi:PI X tg c5 (tI X W))(lD:NI X scope N' tg elt ifs T A F)(hT:jL T)(hc:X.calm=true:=by rfl) (hs:isSet c5=false:=by rfl):
  PE X (.ListComp elt [⟨tg,c5,ifs,0⟩] scope pos) (tP X λY=>vq ix T A F (W Y) Y):=
 (J4 Lk hc hi lD.UQ (gn hs)).weak λZ H Q q=>CA hT q
theorem NJ(Lk:gL X N' ix scope)(hit:PI X tg c5 (tI X W))(lD:NI X scope N' tg elt ifs T A F)(hT:jL T)(hN:X.N.Nodup:=by assumption) (hc:X.calm=true:=by rfl) (hi:X.N[i]?=some x:=by rfl) (hx:Loc X.env.scope x:=by first|exact Or.inl rfl|exact Or.inr rfl)
  (Hy:swapsWith (.ListComp elt [⟨tg,c5,ifs,0⟩] scope pos) (some (.Name x p)) b8.line X.env=pure true:=by rfl) (hs:isSet c5=false:=by rfl) (hf:y3 X x:=by first|exact .inl rfl|exact .inr rfl|assumption):
  PS X (.Assign [.Name x p] (.ListComp elt [⟨tg,c5,ifs,0⟩] scope pos) b8) (tS X λY=>J' i (vq ix T A F (W Y) Y) Y):=
 (xE Lk hc hN hi hx hit lD.UQ Hy (gn hs) hf).weak λD Z H ⟨C,B0,H0,B,Y,b,r,q⟩=>CA hT (F1 (F:=λY=>vq ix T A F (W Y) Y) b r q.bind λt v H1 g s1 l n I=>g _ B H1 l (n.set i I))
def dH(r:Rs Out):Rs Tr:=r.bind λo=>match o with
 |.nx _=>.ok .cx
 |.ret t=>.ok t
 |_=>.bad
def y4.okT {base:Heap}{qual:Str}{f:Addr}{fd:FuncData}{N:List Str}{k:Nat}(Fn:y4 K x qual ai f fd)(S:g6 N ps (bF ai))(len:∀ts t,h ts=.ok t->ts.length=ps.length)
  (kQ:∀(fO:Value) (A:Around) (outer:List Env) (s:Shared) (H:Hp) (E:XK),dc k (A.deeper (envOfC qual (bF ai) s.heap.objs.size f fO))->
   ∃G,oK (oG mq P w K mg base N qual (bF ai) f fO A outer s H E).Jf (fM ai) (tS (oG mq P w K mg base N qual (bF ai) f fO A outer s H E).Jf G)/\∀ts t,h ts=.ok t->dH (G (startT N.length ts))=.ok t):d_ P w K mg base mq (k+1) f fd ps (spT K h):=by
 refine Fn.ok S (λvs H Q E q=>?_) (λfO A outer s H vs Q E I q=>?_)
 ·obtain⟨B,ts,hb,r,t,e,_⟩:=q;rw[r.length];exact len ts t e
 ·obtain⟨B,ts,hb,r,t,e,q⟩:=q;obtain⟨G,L,M⟩:=kQ fO A outer s H E I;refine⟨_,L,B,B,H,B,startT N.length ts,d9.refl hb vp.refl,cF.start r,?_⟩;have b:=M ts t e;cases l:G (startT N.length ts)with
  |ok o=>
   rw[l]at b;cases o with
   |nx Y=>cases b;exact λdu B' H' g n=>q .cx H' g.same .cx
   |ret u=>cases b;exact λv B' H' g n=>q v H' g.same n
   |_=>cases b
  |_=>rw[l]at b;cases b
end
theorem NK:uR X (binaryOp .Add) (λx y H Q=>∃(a b:Addr) (xs ys:List V),x=.ref a/\y=.ref b/\jl X.K H a xs/\jl X.K H b ys/\xs.length+ys.length<=sizeLine/\(xs=[]->Q (.ref b) H)/\(ys=[]->Q (.ref a) H)/\∀p,H p=none->Q (.ref p) (upd H p (.tup (xs++ys)))):=by
 intro U s Z H x y v u Q I g l h;obtain⟨a,b,xs,ys,rfl,rfl,ha,hb,hz,L,M,S⟩:=h;by_cases r:xs=[]
 ·subst r;cases(show v=Value.ref a from g);cases(show u=Value.ref b from l);obtain⟨i1,r1,p1,_⟩:=I.tuple ha;obtain⟨i2,r2,p2,_⟩:=I.tuple hb;cases r1;obtain⟨dd,n,sl,h1⟩:=uW p1;obtain⟨q,n2,YZ,h2⟩:=uW p2;exact concat_meets ⟨_,h1,rfl⟩ ⟨_,h2,rfl⟩ noFill_tuple_add seq_tuple_add PySem.F.slot_tuple_add PySem.F.entry_tuple_add (PySem.F.args_tuple_add_2 _ _) (tuple_addW0 a b _ _ n n2 dd q sl YZ rfl) ⟨h1,h2,⟨.ref b,H,I,rfl,L rfl⟩⟩
 ·exact Nf U s Z H _ _ v u Q I g l ⟨a,b,xs,ys,rfl,rfl,ha,hb,r,hz,M,λ_ p hp=>S p hp⟩
def Rep.up {v:V}{t:Tr}(r:Rep K (bZ B H) v t):Rep K (raw B H) v t:=r.same fy
def jl.up {xs:List V}(h:jl K (bZ B H) a xs):jl K H a xs:=bf.tup bG h
def d7{o:HO}(h:bZ B H a=some o):H a=some o:=bG _ _ h
def Rep.R4 {p:Addr}{vs:List V}(hb:HB B H)(hp:H p=none)(r:bM K (bZ B H) vs ts):Rep K (bZ B (upd H p (.tup vs))) (.ref p) (.tup ts):=.tup (.of (hb.new hp)) (r.same (bI (bf.upd hp)))
def Rep.zd {p:Addr}{vs:List V}(hb:HB B H)(hp:H p=none)(r:bM K (bZ B H) vs ts):Rep K (bZ B (upd H p (.lst vs))) (.ref p) (.lst ts):=.lst (hb.new hp) (r.same (bI (bf.upd hp)))
def CB{H:Vw}(h:bM K H [] ts):ts=[]:=by cases h;rfl
def R5(h:x.length+av.length<=cY):(x++av).length<=cY:=by rw[oO];exact h
def xQ:Tr->Tr->Rs Tr
 |.int i,.int j=>.ok (.int (i+j))
 |.str a,.str b=>if a.length+b.length<=cY then .ok (.str (a++b))else .bad
 |.tup a,.tup b=>if a.length+b.length<=eM then .ok (.tup (a++b))else .bad
 |.lst a,.lst b=>if a.length+b.length<=eM then .ok (.lst (a++b))else .bad
 |_,_=>.bad
def gD{c:Prop}[Decidable c]{t:ag}{k:ag->Prop}(h:Fi X H (if c then Rs.ok t else .bad) k):c/\k t:=by
 by_cases b:c
 ·rw[aV b]at h;exact⟨b,h⟩
 ·rw[bb b]at h;exact h.elim
theorem iB:BV X (binaryOp .Add) xQ:=by
 intro U s Z H x y v u Q I n r ⟨B,tx,ty,hb,r1,r2,q⟩;unfold xQ at q;split at q
 ·exact Q9 U s Z H _ _ v u Q I n r ⟨_,_,r1.int_inv,r2.int_inv,q _ H (bf.refl H) (.int _)⟩
 ·have f:=gD q;exact Eg U s Z H _ _ v u Q I n r ⟨_,_,r1.str_inv.1,r2.str_inv.1,cB f.1 lN,f.2 _ H (bf.refl H) (.str _ (R5 f.1))⟩
 ·have f:=gD q;obtain⟨a,as,L,h1,g⟩:=r1.dR;obtain⟨b,bs,M,h2,l⟩:=r2.dR;exact NK U s Z H _ _ v u Q I n r ⟨_,_,_,_,L,M,h1.up,h2.up,by rw[g.length,l.length,<-iZ];exact f.1,λe=>f.2 _ H (bf.refl H) (by subst e;rw[CB g,<-M];exact r2),λe=>f.2 _ H (bf.refl H) (by subst e;rw[CB l,j9,<-L];exact r1),λp hp=>f.2 _ _ (bf.upd hp) (.R4 hb hp (g.append l))⟩
 ·have f:=gD q;obtain⟨a,as,L,h1,g⟩:=r1.lst_inv;obtain⟨b,bs,M,h2,l⟩:=r2.lst_inv;exact JP U s Z H _ _ v u Q I n r ⟨_,_,_,_,L,M,d7 h1,d7 h2,by rw[g.length,l.length,<-iZ];exact f.1,λp hp=>f.2 _ _ (bf.upd hp) (.zd hb hp (g.append l))⟩
 ·exact fe q
noncomputable def HK:Tr->Tr->Rs Tr
 |.int i,.int j=>if 0<j then .ok (.int (i % j))else .bad
 |_,_=>.bad
theorem CC:BV X (binaryOp .Mod) HK:=by
 intro U s Z H x y v u Q I b g ⟨B,tx,ty,hb,r1,r2,q⟩;unfold HK at q;split at q
 ·have f:=gD q;exact Ra U s Z H _ _ v u Q I b g ⟨_,_,r1.int_inv,r2.int_inv,f.1,f.2 _ H (bf.refl H) (.int _)⟩
 ·exact fe q
def xR(i j:Int):Prop:=(-18446744073709551616<i/\i<18446744073709551616)\/(-18446744073709551616<j/\j<18446744073709551616)
def xR.cm {i j:Int}(h:xR i j):JC i j:=by
 unfold xR at h;unfold JC;omega
instance (i j:Int):Decidable (xR i j):=by unfold xR;infer_instance
def HL:Tr->Tr->Rs Tr
 |.int i,.int j=>if xR i j then .ok (.int (i*j))else .bad
 |.str z,.int n=>if 0<=n/\n<=1000/\z.length<=1000 then .ok (.str (Txt.mul z n))else .bad
 |.lst ts,.int n=>if 0<=n/\n<=1000/\ts.length*n.toNat<=eM then .ok (.lst (List.replicate n.toNat ts).flatten)else .bad
 |_,_=>.bad
def NL:uR X (binaryOp .Mult) (λx y H Q=>∃(l:Addr) (k:Int) (xs:List V),x=.ref l/\y=.int k/\H l=some (.lst xs)/\-(2 ^63)<=k/\k<2 ^63/\xs.length*k.toNat<=sizeLine/\∀p,H p=none->Q (.ref p) (upd H p (.lst (List.replicate k.toNat xs).flatten))):=Ru
def NM{n:Int}(h0:0<=n)(q:n<=1000)(hz:x.length<=1000):(Txt.mul x n).length<=cY:=by
 have e:=PyProof.Rows.len_mul x n;split at e
 ·have:((Txt.mul x n).length:Int)=0:=e;unfold cY;omega
 ·have h2:(x.length:Int)*n<=1000*1000:=Int.mul_le_mul (by omega) q h0 (by decide);have b:((Txt.mul x n).length:Int)=(x.length:Int)*n:=e;unfold cY;omega
theorem Kd:BV X (binaryOp .Mult) HL:=by
 intro U s Z H x y v u Q I b g ⟨B,tx,ty,hb,r1,r2,q⟩;unfold HL at q;split at q
 ·have f:=gD q;exact Q_ U s Z H _ _ v u Q I b g ⟨_,_,r1.int_inv,r2.int_inv,f.1.cm,f.2 _ H (bf.refl H) (.int _)⟩
 ·have f:=gD q;exact Nx U s Z H _ _ v u Q I b g ⟨_,_,r1.str_inv.1,r2.int_inv,PyProof.Rows.mulOk_of 1000 1000 f.1.2.2 f.1.2.1 (Int.le_trans (by decide) f.1.1) (by decide) (by decide),f.2 _ H (bf.refl H) (.str _ (NM f.1.1 f.1.2.1 f.1.2.2))⟩
 ·have f:=gD q;obtain⟨a,as,n,h1,l⟩:=r1.lst_inv;exact NL U s Z H _ _ v u Q I b g ⟨_,_,_,n,r2.int_inv,d7 h1,Int.le_trans (by decide) f.1.1,Int.lt_of_le_of_lt f.1.2.1 (by decide),by rw[l.length,<-iZ];exact f.1.2.2,λp hp=>f.2 _ _ (bf.upd hp) (.zd hb hp (l.rep _))⟩
 ·exact fe q
mutual
noncomputable def eqT:Tr->Tr->Bool
 |.cx,.cx=>true
 |.bl a,.bl b=>a==b
 |.bl a,.int b=>(if a then 1 else 0)==b
 |.int a,.bl b=>a==(if b then 1 else 0)
 |.int a,.int b=>a==b
 |.str a,.str b=>a==b
 |.tup a,.tup b=>EA a b
 |.lst a,.lst b=>EA a b
 |_,_=>false
noncomputable def EA:List Tr->List Tr->Bool
 |[],[]=>true
 |x::xs,y::ys=>eqT x y&&EA xs ys
 |_,_=>false
end
mutual
noncomputable def r8:Tr->Bool
 |.cx=>true
 |.bl _=>true
 |.int _=>true
 |.str _=>true
 |.tup ts=>xT ts
 |.lst ts=>xT ts
 |_=>false
noncomputable def xT:List Tr->Bool
 |[]=>true
 |t::ts=>r8 t&&xT ts
end
mutual
noncomputable def dT:Tr->Nat
 |.tup ts=>R6 ts+1
 |.lst ts=>R6 ts+1
 |_=>0
noncomputable def R6:List Tr->Nat
 |[]=>0
 |t::ts=>max (dT t) (R6 ts)
end
theorem pO:∀{ts:List Tr},xT ts=true->∀t∈ts,r8 t=true
 |[],_,t,h=>nomatch h
 |u::us,h,t,m=>by
  rw[xT,bU]at h;rcases bE.mp m with rfl|m
  ·exact h.1
  ·exact pO h.2 t m
theorem AU:∀{ts:List Tr},∀t∈ts,dT t<=R6 ts
 |[],t,h=>nomatch h
 |u::us,t,m=>by
  rw[R6];rcases bE.mp m with rfl|m
  ·exact Nat.le_max_left _ _
  ·exact cB (AU t m) (Nat.le_max_right _ _)
theorem CD:∀(xs ys:List Tr),((List.range (min xs.length ys.length)).all (λj=>eqT (xs.getD j .cx) (ys.getD j .cx))&&xs.length==ys.length)=EA xs ys
 |[],[]=>rfl
 |[],y::ys=>rfl
 |x::xs,[]=>rfl
 |x::xs,y::ys=>by
  have b:=CD xs ys;rw[EA,<-b,dt,dt,Nat.succ_min_succ,List.range_succ_eq_map,iz,px,Bool.and_assoc];congr 1;have g:(xs.length+1==ys.length+1)=(xs.length==ys.length):=by rw[sX,ff,ff];omega
  rw[g]
  rfl
def NN{u:Value}{k:Bool}(q:∀b t,af≠Value.float b t)(hs:af=u->k=true)(h:SeqAt.RcAt A s af u k):SeqAt.EqAt A s af u k:=λprog w E Q g=>by
 unfold eqBool;refine fw ?_
 refine mF (λl=>?_) (λ_=>?_)
 ·rw[hs (eq_of_beq l)]at g;exact aS (fE (bc g))
 ·cases af with
  |float b t=>exact absurd rfl (q b t)
  |_=>exact aS (h prog w E _ (o8 g))
section
variable {rB:Addr->Option Nat}
theorem vt(I:Inv X U Z H s){ws:List V}(q:jl X.K H a ar)(h2:H a=some (.lst ws)):False:=by
 obtain⟨_,_,⟨o,e,c,_⟩,_⟩:=I.tuple q;obtain⟨_,cn,n,_,b⟩:=I.cU a _ h2;rw[e]at b;cases b;exact absurd c (by show¬(Value.type "list"=.type "tuple");decide+kernel)
noncomputable def vT:V->Tr
 |.cx=>.cx
 |.bl b=>.bl b
 |.int i=>.int i
 |.str z=>.str z
 |_=>.at 0
def pP{W:Vw}{x:V}{t:Tr}(r:Rep K W x t)(p:r8 t=true):(∃ts,t=.tup ts)\/(∃ts,t=.lst ts)\/t=vT x:=by
 cases r<;>first|(cases p;done)|exact .inr (.inr rfl)|exact .inl ⟨_,rfl⟩|exact .inr (.inl ⟨_,rfl⟩)
def uf{W:Vw}{x:V}{t':Tr}(e:aC=vT x)(p:r8 aC=true)(p':r8 t'=true)(q:Rep K W x t'):aC=t':=by
 rcases pP q p' with⟨ts,rfl⟩|⟨ts,rfl⟩|b
 ·obtain⟨a,_,rfl,_⟩:=q.dR;rw[e]at p;cases p
 ·obtain⟨a,_,rfl,_⟩:=q.lst_inv;rw[e]at p;cases p
 ·rw[e,b]
theorem NO(I:Inv X U Z H s):∀(n:Nat) {x:V} {t t':Tr},dT t<=n->r8 t=true->r8 t'=true->Rep X.K (⟨H,rB⟩:Vw) x t->Rep X.K (⟨H,rB⟩:Vw) x t'->t=t':=by
 intro n
 induction n with
 |zero=>
  intro x t t' hd p p' r b;rcases pP r p with⟨ts,rfl⟩|⟨ts,rfl⟩|e
  ·exact absurd hd (Nat.not_succ_le_zero _)
  ·exact absurd hd (Nat.not_succ_le_zero _)
  ·exact uf e p p' b
 |succ n ih=>
  intro x t t' hd p p' r b;have go:∀{vs:List V} {ts zM:List Tr},R6 ts<=n->xT ts=true->xT zM=true->bM X.K (⟨H,rB⟩:Vw) vs ts->bM X.K (⟨H,rB⟩:Vw) vs zM->ts=zM:=by
   intro vs ts zM k1 k2 k3;have l:=λt m=>cB (AU (ts:=ts) t m) k1;have h2:=pO k2;have L:=pO k3
   clear hd p p' r b k1 k2 k3
   induction vs generalizing ts zM with
   |nil=>intro q q';cases q;cases q';rfl
   |cons v vs M=>
    intro(.cons qh qr) (.cons S qr');rw[List.forall_mem_cons]at l h2 L;rw[ih l.1 h2.1 L.1 qh S,M l.2 h2.2 L.2 qr qr']
  rcases pP r p with⟨ts,rfl⟩|⟨ts,rfl⟩|e
  ·rcases pP b p' with⟨zM,rfl⟩|⟨zM,rfl⟩|e
   ·obtain⟨a,vs,rfl,h,rr⟩:=r.dR;obtain⟨_,NP,e,h',g⟩:=b.dR;cases e;cases I.qI h h';rw[go (wJ hd) p p' rr g]
   ·obtain⟨a,vs,rfl,h,rr⟩:=r.dR;obtain⟨_,NP,e,h',g⟩:=b.lst_inv;cases e;exact(vt I h h').elim
   ·exact(uf e p' p r).symm
  ·rcases pP b p' with⟨zM,rfl⟩|⟨zM,rfl⟩|e
   ·obtain⟨a,vs,rfl,h,rr⟩:=r.lst_inv;obtain⟨_,NP,e,h',g⟩:=b.dR;cases e;exact(vt I h' h).elim
   ·obtain⟨a,vs,rfl,h,rr⟩:=r.lst_inv;obtain⟨_,NP,e,h',g⟩:=b.lst_inv;cases e;cases h.symm.trans h';rw[go (wJ hd) p p' rr g]
   ·exact(uf e p' p r).symm
  ·exact uf e p p' b
mutual
theorem CG:∀{t:Tr},r8 t=true->eqT t t=true
 |.cx,_=>rfl
 |.bl b,_=>by rw[eqT];exact bX b
 |.int i,_=>by rw[eqT];exact bX i
 |.str z,_=>by rw[eqT];exact bX z
 |.tup ts,h=>by rw[eqT];rw[r8]at h;exact uX h
 |.lst ts,h=>by rw[eqT];rw[r8]at h;exact uX h
 |.ty _,h=>by cases h
 |.vn _,h=>by cases h
 |.bW _,h=>by cases h
 |.at _,h=>by cases h
 |.vo _,h=>by cases h
 |.ob _ _,h=>by cases h
 |.zG _,h=>by cases h
theorem uX:∀{ts:List Tr},xT ts=true->EA ts ts=true
 |[],_=>rfl
 |t::ts,h=>by
  rw[xT,bU]at h;rw[EA,CG h.1,uX h.2]
  rfl
end
def F9{l:List ag}{x d:ag}(h:l[i]?=some x):l.getD i d=x:=by rw[eJ,h];rfl
inductive Sh(K:Frag)(G:Vw)(h:Heap):Tr->Value->Prop
 |cx:Sh K G h .cx .none
 |bl (b:Bool):Sh K G h (.bl b) (.bool b)
 |int (b:Int) (w:Tok):Sh K G h (.int b) (.int b w)
 |str (b:Str) (w:Tok):Sh K G h (.str b) (.str b w)
 |tup {a:Addr} {vs:List V} {ts:List Tr} {us:List Value} (q:h.IsTuple a us.toArray) (rr:bM K G vs ts) (rv:Vals vs us):Sh K G h (.tup ts) (.ref a)
 |lst {a:Addr} {vs:List V} {ts:List Tr} {us:List Value} (q:h.IsList a us.toArray) (rr:bM K G vs ts) (rv:Vals vs us):Sh K G h (.lst ts) (.ref a)
def AV(I:Inv X U Z H s){x:V}{v:Value}{t:Tr}(p:r8 t=true)(r:Rep X.K (⟨H,rB⟩:Vw) x t)(rx:RelV x v):Sh X.K ⟨H,rB⟩ s.heap t v:=by
 cases r with
 |cx=>cases(show v=Value.none from rx);exact .cx
 |bl b=>cases(show v=Value.bool b from rx);exact .bl b
 |int b=>obtain⟨w,rfl⟩:=(show∃t,v=Value.int b t from rx);exact .int b w
 |str b _=>obtain⟨w,rfl⟩:=(show∃t,v=Value.str b t from rx);exact .str b w
 |@tup a _ _ h g=>cases(show v=Value.ref a from rx);obtain⟨_,rv,q,_⟩:=I.tuple h;exact .tup q g rv
 |@lst a _ _ h g=>cases(show v=Value.ref a from rx);obtain⟨_,rv,q,_⟩:=I.list (.of h);exact .lst q.isList g rv
 |_=>cases p
def F_(I:Inv X U Z H s)(n:Nat){x y:V}{u:Value}{t:Tr}(hd:dT t<=n)(p:r8 t=true)(p':r8 aC=true)(r:Rep X.K (⟨H,rB⟩:Vw) x t)(r':Rep X.K (⟨H,rB⟩:Vw) y aC)(rx:RelV x af)(ry:RelV y u)(q:SeqAt.RcAt A s af u (eqT t aC)):SeqAt.EqAt A s af u (eqT t aC):=by
 refine NN (λb t e=>?_) (λe=>?_) q
 ·subst e;cases r<;>first|(obtain⟨_,z⟩:=rx;cases z;done)|(cases rx;done)
 subst e;rw[rx.inj ry]at r;rw[<-NO I n hd p p' r r'];exact CG p
def Ga{G:Vw}{A:Around}{u:Value}{t:Tr}(S:Sh K G s.heap t af)(S':Sh K G s.heap aC u)(q:A.units<cLine):(SeqAt.RcAt A s af u (eqT t aC)/\SeqAt.RcNeAt A s af u (!eqT t aC))\/∃ts zM,(t=.tup ts/\aC=.tup zM)\/(t=.lst ts/\aC=.lst zM):=by
 cases S<;>cases S'<;>first|exact .inr ⟨_,_,.inl ⟨rfl,rfl⟩⟩|exact .inr ⟨_,_,.inr ⟨rfl,rfl⟩⟩|(refine .inl ⟨?_,?_⟩<;>simp only[eqT,eL,dA]<;>with_reducible first|exact .none_none|exact .none_bool _|exact .none_int _ _|exact .none_str _ _|exact .none_tuple ‹_› q|exact .none_list ‹_› q|exact .bool_none _|exact .bool_bool _ _|exact .bool_int _ _ _|exact .bool_str _ _ _|exact .bool_tuple _ ‹_› q|exact .bool_list _ ‹_› q|exact .int_none _ _|exact .int_bool _ _ _|exact .int_int _ _ _ _|exact .int_str _ _ _ _|exact .int_tuple _ _ ‹_› q|exact .int_list _ _ ‹_› q|exact .str_none _ _|exact .str_bool _ _ _|exact .str_int _ _ _ _|exact .str_str _ _ _ _|exact .str_tuple _ _ ‹_› q|exact .str_list _ _ ‹_› q|exact .tuple_none ‹_› q|exact .tuple_bool _ ‹_› q|exact .tuple_int _ _ ‹_› q|exact .tuple_str _ _ ‹_› q|exact .tuple_list ‹_› ‹_› q|exact .list_none ‹_› q|exact .list_bool _ ‹_› q|exact .list_int _ _ ‹_› q|exact .list_str _ _ ‹_› q|exact .list_tuple ‹_› ‹_› q)
theorem R7(I:Inv X U Z H s):∀(n:Nat) {A:Around} {x y:V} {v u:Value} {t t':Tr},dT t<=n->r8 t=true->r8 t'=true->Rep X.K (⟨H,rB⟩:Vw) x t->Rep X.K (⟨H,rB⟩:Vw) y t'->RelV x v->RelV y u->A.units+n<cLine->SeqAt.RcAt A s v u (eqT t t')/\SeqAt.RcNeAt A s v u (!eqT t t'):=by
 intro n
 induction n with
 |zero=>
  intro A x y v u t t' hd p p' r r' rx ry hu;rcases Ga (AV I p r rx) (AV I p' r' ry) (A:=A) (by omega)with h|⟨_,_,⟨rfl,_⟩|⟨rfl,_⟩⟩
  ·exact h
  all_goals exact absurd hd (by rw[dT];omega)
 |succ n ih=>
  intro A x y v u t t' hd p p' r r' rx ry hu;have M:A.units<cLine:=by omega
  have a8:∀{vs NP:List V} {us EC:List Value} {ts zM:List Tr},R6 ts<=n->xT ts=true->xT zM=true->bM X.K (⟨H,rB⟩:Vw) vs ts->bM X.K (⟨H,rB⟩:Vw) NP zM->Vals vs us->Vals NP EC->∀(j:Nat) (h1:j<us.toArray.size) (h2:j<EC.toArray.size),
    SeqAt.EqAt A.in1 s us.toArray[j] EC.toArray[j] (eqT (ts.getD j .cx) (zM.getD j .cx)):=by
   intro vs NP us EC ts zM d1 q1 q2 g L rv b j h1 h2;replace h1:j<us.length:=h1;replace h2:j<EC.length:=h2;have k1:=bV (Nat.lt_of_lt_of_eq h1 rv.length.symm);have k2:=bV (Nat.lt_of_lt_of_eq h2 b.length.symm);obtain⟨t1,e1,p1⟩:=g.xF k1;obtain⟨t2,e2,p2⟩:=L.xF k2;obtain⟨w1,f1,g1⟩:=rv.get k1;obtain⟨w2,f2,g2⟩:=b.get k2;rw[bV h1]at f1;rw[bV h2]at f2;rw[List.getElem_toArray,List.getElem_toArray,Option.some.inj f1,Option.some.inj f2,F9 e1,F9 e2];have m1:=dZ e1;have q2:=pO q2 _ (dZ e2);have q1:=pO q1 _ m1;have d:=cB (AU _ m1) d1;exact F_ I n d q1 q2 p1 p2 g1 g2 (ih d q1 q2 p1 p2 g1 g2 (by show A.units+1+n<cLine;omega)).1
  have S:=AV I p r rx;have S':=AV I p' r' ry;rcases Ga S S' M with h|⟨ts,zM,⟨rfl,rfl⟩|⟨rfl,rfl⟩⟩
  ·exact h
  all_goals
   rw[dT]at hd;have it:=λ{vs NP us EC}=>@a8 vs NP us EC _ _ (Nat.le_of_add_le_add_right hd) p p';have e:=CD ts zM;rw[eqT]
  ·cases S with|tup q g rv=>
   cases S' with|tup q' L b=>
   rw[<-e,<-g.length,<-L.length,rv.length,b.length];exact⟨.tuples q q' M (it g L rv b),.tuples q q' M (it g L rv b)⟩
  cases S with|lst q g rv=>
  cases S' with|lst q' L b=>
  have l:=g.length;have l':=L.length;rw[rv.length]at l;rw[b.length]at l';by_cases hz:ts.length=zM.length
  ·rw[hz,Nat.min_self,bX,Bool.and_true,<-hz,<-l]at e;rw[<-e];exact⟨.lists q q' (by simp;omega) M (it g L rv b),.lists q q' (by simp;omega) M (it g L rv b)⟩
  ·rw[kc hz,xg]at e;rw[<-e];exact⟨.lists_lengths q q' (by simp;omega) M,.lists_lengths q q' (by simp;omega) M⟩
end
def eqC(a b:Tr):Rs Tr:=if r8 a=true/\r8 b=true/\dT a<=40 then .ok (.bl (eqT a b))else .bad
theorem dX(hu:X.A.units+40<cLine):BV X (compareOp .Eq) eqC:=by
 intro U s Z H x y v u Q I b g ⟨B,tx,ty,hb,r1,r2,q⟩;obtain⟨⟨p1,p2,hd⟩,k⟩:=gD q;exact(R7 I 40 hd p1 p2 r1.up r2.up b g hu).1 _ _ _ _ ⟨.bl _,H,I,rfl,k _ H (bf.refl H) (.bl _)⟩
section
variable {rB:Addr->Option Nat}
def Ke(I:Inv X U Z H s)(n:Nat){x y:V}{u:Value}{t:Tr}(hd:dT t<=n)(p:r8 t=true)(p':r8 aC=true)(r:Rep X.K (⟨H,rB⟩:Vw) x t)(q:Rep X.K (⟨H,rB⟩:Vw) y aC)(rx:RelV x af)(ry:RelV y u)(hu:A.units+n<cLine):SeqAt.EqAt A s af u (eqT t aC):=
 F_ I n hd p p' r q rx ry (R7 I n hd p p' r q rx ry hu).1
end
def MX(a b:Tr):Rs Tr:=if r8 a=true/\r8 b=true/\dT a<=40 then .ok (.bl (!eqT a b))else .bad
theorem HN(hu:X.A.units+40<cLine):BV X (compareOp .NotEq) MX:=by
 intro U s Z H x y v u Q I b g ⟨B,tx,ty,hb,r1,r2,q⟩;obtain⟨⟨p1,p2,hd⟩,k⟩:=gD q;exact(R7 I 40 hd p1 p2 r1.up r2.up b g hu).2 _ _ _ _ ⟨.bl _,H,I,rfl,k _ H (bf.refl H) (.bl _)⟩
noncomputable def ltC:Tr->Tr->Rs Tr
 |.int i,.int j=>.ok (.bl (decide (i<j)))
 |.str a,.str b=>.ok (.bl (decide (a.cps.toList<b.cps.toList)))
 |_,_=>.bad
noncomputable def leC:Tr->Tr->Rs Tr
 |.int i,.int j=>.ok (.bl (decide (i<=j)))
 |.str a,.str b=>.ok (.bl (!(decide (b.cps.toList<a.cps.toList))))
 |_,_=>.bad
def gtC:Tr->Tr->Rs Tr
 |.int i,.int j=>.ok (.bl (decide (j<i)))
 |_,_=>.bad
def geC:Tr->Tr->Rs Tr
 |.int i,.int j=>.ok (.bl (decide (j<=i)))
 |_,_=>.bad
theorem Kf:BV X (compareOp .Lt) ltC:=by
 intro U s Z H x y v u Q I b g ⟨B,tx,ty,hb,r1,r2,q⟩;unfold ltC at q;split at q
 ·exact Vq U s Z H _ _ v u Q I b g ⟨_,_,r1.int_inv,r2.int_inv,q _ H (bf.refl H) (.bl _)⟩
 ·exact Ho U s Z H _ _ v u Q I b g ⟨_,_,r1.str_inv.1,r2.str_inv.1,q _ H (bf.refl H) (.bl _)⟩
 ·exact fe q
theorem aay:BV X (compareOp .LtE) leC:=by
 intro U s Z H x y v u Q I b g ⟨B,tx,ty,hb,r1,r2,q⟩;unfold leC at q;split at q
 ·exact Vr U s Z H _ _ v u Q I b g ⟨_,_,r1.int_inv,r2.int_inv,q _ H (bf.refl H) (.bl _)⟩
 ·exact Hz U s Z H _ _ v u Q I b g ⟨_,_,r1.str_inv.1,r2.str_inv.1,q _ H (bf.refl H) (.bl _)⟩
 ·exact fe q
theorem R8:BV X (compareOp .Gt) gtC:=by
 intro U s Z H x y v u Q I b g ⟨B,tx,ty,hb,r1,r2,q⟩;unfold gtC at q;split at q
 ·exact Vs U s Z H _ _ v u Q I b g ⟨_,_,r1.int_inv,r2.int_inv,q _ H (bf.refl H) (.bl _)⟩
 ·exact fe q
theorem Wq:BV X (compareOp .GtE) geC:=by
 intro U s Z H x y v u Q I b g ⟨B,tx,ty,hb,r1,r2,q⟩;unfold geC at q;split at q
 ·exact Vt U s Z H _ _ v u Q I b g ⟨_,_,r1.int_inv,r2.int_inv,q _ H (bf.refl H) (.bl _)⟩
 ·exact fe q
noncomputable def Zj:Tr->Bool
 |.cx=>true
 |_=>false
def Gb{H:Vw}{x:V}{t:Tr}(r:Rep K H x t):decide (x=.cx)=Zj t:=by
 cases r<;>rfl
def Gd:Tr->Tr->Rs Tr
 |a,.cx=>.ok (.bl (Zj a))
 |.bl a,.bl b=>.ok (.bl (a==b))
 |_,_=>.bad
theorem CH:BV X (compareOp .Is) Gd:=by
 intro U s Z H x y v u Q I b g ⟨B,tx,ty,hb,r1,r2,q⟩;unfold Gd at q;split at q
 ·exact Rc U s Z H _ _ v u Q I b g ⟨r2.Ny,by rw[Gb r1];exact q _ H (bf.refl H) (.bl _)⟩
 ·exact RO U s Z H _ _ v u Q I b g ⟨_,_,r1.xK,r2.xK,q _ H (bf.refl H) (.bl _)⟩
 ·exact fe q
noncomputable def eZ(bB:List (Key×Tr))(k:Key):Option Tr:=(bB.find? λb=>decide (b.1=k)).map (·.2)
noncomputable def kh:Tr->Option Key
 |.int i=>some (.inl i)
 |.str z=>some (.inr z)
 |_=>none
def nJ{H:Vw}{x:V}{k:Key}(r:Rep K H x aC)(e:kh aC=some k):x=kV k:=by
 cases r with
 |int i=>cases e;rfl
 |str z h=>cases e;rfl
 |_=>cases e
theorem qL{H:Vw}(k:Key):∀{kvs:List (Key×V)} {bB:List (Key×Tr)},kvs.map (·.1)=bB.map (·.1)->bM K H (kvs.map (·.2)) (bB.map (·.2))->(eZ bB k=none/\mP kvs k=none)\/∃t v,eZ bB k=some t/\mP kvs k=some v/\Rep K H v t
 |[],[],_,_=>.inl ⟨rfl,rfl⟩
 |[],_::_,e,_=>by cases e
 |_::_,[],e,_=>by cases e
 |(k1,v1)::kvs,(k2,b)::bB,e,r=>by
  rw[bL,bL]at e;injection e with g l
  have n:k1=k2:=g;subst n;cases r with
  |cons h r=>
   by_cases q:k1=k
   ·refine .inr ⟨b,v1,?_,tY q,h⟩;unfold eZ;rw[j_,jj (show(k1,b).1=k from q)]
    rfl
   ·rw[t7 q];have I:eZ ((k1,b)::bB) k=eZ bB k:=by
     unfold eZ;rw[j_,fu (show¬(k1,b).1=k from q)]
    rw[I];exact qL k l r
def xU{H:Vw}{y:V}{t:Tr}{k:Key}(h:Rd H.H a (.dK kvs))(e:kvs.map (·.1)=aG.map (·.1))(r:bM K H (kvs.map (·.2)) (aG.map (·.2)))(q:Rep K H y t)(hk:kh t=some k):
  ∃o,pK H a y o/\((eZ aG k=none/\o=none)\/∃t v,eZ aG k=some t/\o=some v/\Rep K H v t):=by
 have b:=nJ q hk;subst b;refine⟨_,.inl ⟨kvs,k,h,rfl,rfl⟩,?_⟩;rcases qL k e r with⟨h1,h2⟩|⟨t,v,h1,h2,g⟩
 ·exact .inl ⟨h1,h2⟩
 ·exact .inr ⟨t,v,h1,h2,g⟩
def xV:Tr->Bool
 |.cx=>true
 |.bl _=>true
 |.int _=>true
 |.str _=>true
 |_=>false
def eU(x:Tr)(u:Value):Bool:=match u with
 |.none=>eqT .cx x
 |.bool b=>eqT (.bl b) x
 |.int i _=>eqT (.int i) x
 |.str z _=>eqT (.str z) x
 |_=>false
theorem ED{H:Vw}{y:V}{t x:Tr}(r:Rep K H y t)(f:xV t=true)(q:RelV y af):eU x af=eqT t x:=by
 cases r with
 |cx=>cases(show af=Value.none from q);rfl
 |bl b=>cases(show af=Value.bool b from q);rfl
 |int i=>obtain⟨w,rfl⟩:=(show∃t,af=Value.int i t from q);rfl
 |str z _=>obtain⟨w,rfl⟩:=(show∃t,af=Value.str z t from q);rfl
 |_=>cases f
theorem xW{H:Vw}{x:Tr}:∀{vs:List V} {ts:List Tr} {us:List Value},bM K H vs ts->ts.all xV=true->Vals vs us->us.any (eU x)=ts.any λy=>eqT y x
 |[],_,_,r,_,rv=>by cases r;cases rv;rfl
 |_::_,_,_,r,f,rv=>by
  cases r with
  |cons h r=>
   cases rv with
   |cons b rv=>
    rw[iz,bU]at f;rw[jk,jk,ED h f.1 b,xW r f.2 rv]
def NR{t:Tr}(f:xV t=true):dT t<=0/\r8 t=true:=by cases t<;>first|exact⟨bz _,rfl⟩|cases f
theorem pQ{rB:Addr->Option Nat}{A:Around}{x:V}{t:Tr}{v:Value}(I:Inv X U Z H s)(hu:A.units<cLine)(rx:Rep X.K (⟨H,rB⟩:Vw) x t)(p:r8 t=true)(rv:RelV x v):∀{vs:List V} {ts:List Tr} {us:List Value},bM X.K (⟨H,rB⟩:Vw) vs ts->ts.all xV=true->Vals vs us->∀u∈us,SeqAt.EqAt A s u v (eU t u)
 |[],_,_,r,_,q=>λu m=>by cases q;cases m
 |_::_,_,_,r,f,q=>λu m=>by
  cases r with
  |cons h r=>
   cases q with
   |cons b q=>
    rw[iz,bU]at f;rcases bE.mp m with rfl|m
    ·rw[ED h f.1 b];obtain⟨g,l⟩:=NR f.1;exact Ke I 0 g l p h rx b rv hu
    ·exact pQ I hu rx p rv r f.2 q u m
def Kg(x:Tr)(ts:List Tr):Rs Bool:=if r8 x=true/\ts.all xV=true then .ok (ts.any λy=>eqT y x)else .bad
def D4:Tr->Tr->Rs Tr
 |x,.tup ts=>RT (Kg x ts)
 |x,.lst ts=>RT (Kg x ts)
 |x,.bW bB=>match kh x with
  |some k=>.ok (.bl (eZ bB k).isSome)
  |none=>.bad
 |.str i,.str j=>.ok (.bl (!(Builtin.Str.occurrences j i 0 j.length 1).isEmpty))
 |_,_=>.bad
def NS:Tr->Tr->Rs Tr
 |x,.tup ts=>RT (HE (Kg x ts))
 |x,.lst ts=>RT (HE (Kg x ts))
 |x,.bW bB=>match kh x with
  |some k=>.ok (.bl (!(eZ bB k).isSome))
  |none=>.bad
 |.str i,.str j=>.ok (.bl (!(!(Builtin.Str.occurrences j i 0 j.length 1).isEmpty)))
 |_,_=>.bad
def wb{k:Bool->Prop}(q:Fi X H (Kg aC ts) k):r8 aC=true/\ts.all xV=true/\k (ts.any λy=>eqT y aC):=by
 unfold Kg at q;split at q
 ·rename_i h;exact⟨h.1,h.2,q⟩
 ·exact q.elim
def Ge{x y:V}{k:Key}(r:Rep K (bZ B H) y (.bW aG))(q:Rep K (bZ B H) x aC)(ek:kh aC=some k):∃a,y=.ref a/\∃o,pK H a x o/\o.isSome=(eZ aG k).isSome:=by
 cases r with
 |bW h e b=>
  obtain⟨o,g,l⟩:=xU (H:=raw _ _) (h.same bG) e (b.same fy) q.up ek;refine⟨_,rfl,o,g,?_⟩;rcases l with⟨h1,rfl⟩|⟨_,_,h1,rfl,_⟩
  ·rw[h1];rfl
  ·rw[h1];rfl
theorem nK(hu:X.A.units+1<cLine):BV X (compareOp .In) D4:=by
 intro U s Z H x y v u Q I b l ⟨B,tx,ty,hb,r1,r2,q⟩;unfold D4 at q;split at q
 ·have f:=wb (Fi.bind q);obtain⟨a,vs,rfl,h,rr⟩:=r2.dR;cases(show u=Value.ref a from l);obtain⟨cn,rv,pl,_⟩:=I.tuple h.up;refine SeqAt.in_tupleAt (eU tx) pl (λw hw=>pQ I hu r1.up f.1 b (rr.same fy) f.2.1 rv w (by simpa using hw)) ⟨.bl _,H,I,rfl,?_⟩;rw[show cn.toArray.any (eU tx)=cn.any (eU tx) by simp,xW rr f.2.1 rv];exact f.2.2 _ H (bf.refl H) (.bl _)
 ·have f:=wb (Fi.bind q);obtain⟨a,vs,rfl,h,rr⟩:=r2.lst_inv;cases(show u=Value.ref a from l);obtain⟨cn,rv,pl,_⟩:=I.list (.of (d7 h));refine SeqAt.in_listAt (eU tx) pl.isList (λw hw=>pQ I hu r1.up f.1 b (rr.same fy) f.2.1 rv w (by simpa using hw)) ⟨.bl _,H,I,rfl,?_⟩;rw[show cn.toArray.any (eU tx)=cn.any (eU tx) by simp,xW rr f.2.1 rv];exact f.2.2 _ H (bf.refl H) (.bl _)
 ·split at q
  ·rename_i n;obtain⟨a,rfl,g⟩:=Ge r2 r1 n;cases(show u=Value.ref a from l);obtain⟨o,g,r⟩:=g;refine aam hu I g b λs' L=>⟨.bl _,H,L,rfl,?_⟩;rw[r];exact q _ H (bf.refl H) (.bl _)
  ·exact fe q
 ·exact Hq U s Z H _ _ v u Q I b l ⟨_,_,r1.str_inv.1,r2.str_inv.1,q _ H (bf.refl H) (.bl _)⟩
 ·exact fe q
theorem ug(hu:X.A.units+1<cLine):BV X (compareOp .NotIn) NS:=by
 intro U s Z H x y v u Q I b l ⟨B,tx,ty,hb,r1,r2,q⟩;unfold NS at q;split at q
 ·have f:=wb (Fi.bind (Fi.bind q));obtain⟨a,vs,rfl,h,rr⟩:=r2.dR;cases(show u=Value.ref a from l);obtain⟨cn,rv,pl,_⟩:=I.tuple h.up;refine SeqAt.notIn_tupleAt (eU tx) pl (λw hw=>pQ I hu r1.up f.1 b (rr.same fy) f.2.1 rv w (by simpa using hw)) ⟨.bl _,H,I,rfl,?_⟩;rw[show cn.toArray.any (eU tx)=cn.any (eU tx) by simp,xW rr f.2.1 rv];exact f.2.2 _ H (bf.refl H) (.bl _)
 ·have f:=wb (Fi.bind (Fi.bind q));obtain⟨a,vs,rfl,h,rr⟩:=r2.lst_inv;cases(show u=Value.ref a from l);obtain⟨cn,rv,pl,_⟩:=I.list (.of (d7 h));refine SeqAt.notIn_listAt (eU tx) pl.isList (λw hw=>pQ I hu r1.up f.1 b (rr.same fy) f.2.1 rv w (by simpa using hw)) ⟨.bl _,H,I,rfl,?_⟩;rw[show cn.toArray.any (eU tx)=cn.any (eU tx) by simp,xW rr f.2.1 rv];exact f.2.2 _ H (bf.refl H) (.bl _)
 ·split at q
  ·rename_i n;obtain⟨a,rfl,g⟩:=Ge r2 r1 n;cases(show u=Value.ref a from l);obtain⟨o,g,r⟩:=g;refine Nm hu I g b λs' L=>⟨.bl _,H,L,rfl,?_⟩;rw[r];exact q _ H (bf.refl H) (.bl _)
  ·exact fe q
 ·exact AF U s Z H _ _ v u Q I b l ⟨_,_,r1.str_inv.1,r2.str_inv.1,q _ H (bf.refl H) (.bl _)⟩
 ·exact fe q
noncomputable def kS{α:Type}:Option α->Rs α
 |some a=>.ok a
 |none=>.bad
def jX:Tr->Tr->Rs Tr
 |.tup ts,.int i=>kS (uV ts i)
 |.lst ts,.int i=>kS (uV ts i)
 |.str z,.int i=>(kS (uV z.cps.toList i)).bind λc=>.ok (.str ⟨#[c]⟩)
 |.vn ns,.int i=>(kS (uV ns i)).bind λn=>.ok (.int n)
 |.bW bB,t=>(kS (kh t)).bind λk=>kS (eZ bB k)
 |_,_=>.bad
theorem bM.uV {H:Vw}{vs:List V}{i:Int}{t:Tr}(r:bM K H vs ts)(e:L2.uV ts i=some t):∃v,L2.uV vs i=some v/\Rep K H v t:=by
 unfold L2.uV at e⊢;rw[r.length];cases q:MK ts.length i with
 |none=>rw[q]at e;cases e
 |some j=>
  rw[q]at e;obtain⟨v,b,r1⟩:=r.get (show ts[j]?=some t from e);exact⟨v,b,r1⟩
def gs{X:Cx}{H:Hp}{o:Option ag}{k:ag->Prop}(h:Fi X H (kS o) k):∃a,o=some a/\k a:=by
 cases o with
 |none=>exact h.elim
 |some a=>exact⟨a,rfl,h⟩
section
variable {b:Expr}
def NT{β:Type}(f:ag->β)(xs:List ag)(i:Int):L2.uV (xs.map f) i=(L2.uV xs i).map f:=by
 unfold L2.uV;rw[bt];cases MK xs.length i with
 |none=>rfl
 |some j=>show(xs.map f)[j]?=_;rw[b_];rfl
def NU(c:Nat):(⟨#[c]⟩:Str).length<=cY:=by show 1<=cY;decide
def NV{x y:V}{t:Tr}{k:Key}(r:Rep K (bZ B H) x (.bW aG))(r2:Rep K (bZ B H) y aC)(ek:kh aC=some k)(q:eZ aG k=some t):∃tg w,x=.ref tg/\pK H tg y (some w)/\Rep K (bZ B H) w t:=by
 obtain⟨tg,kvs,b,h,e,rr⟩:=r.nG;refine⟨tg,?_⟩;rcases qL k e rr with⟨h1,_⟩|⟨t',w,h1,h2,g⟩
 ·cases q.symm.trans h1
 ·cases q.symm.trans h1;exact⟨w,b,.inl ⟨kvs,k,h.same bG,nJ r2 ek,h2.symm⟩,g⟩
theorem Wr(hu:X.A.units+1<cLine):VF X (rT X jX):=by
 intro value slice U s Z H x y v u Q I l r ⟨B,tx,ty,hb,r1,r2,q⟩ hs;unfold jX at q;split at q
 ·obtain⟨tg,vs,e,h,rr⟩:=r1.dR;obtain⟨t,b,k⟩:=gs q;obtain⟨w,M,L⟩:=rr.uV b;exact Rp value slice U s Z H _ _ v u Q I l r ⟨_,_,_,w,e,r2.int_inv,h.up,M,k w H (bf.refl H) L⟩ hs
 ·obtain⟨tg,vs,e,h,rr⟩:=r1.lst_inv;obtain⟨t,b,k⟩:=gs q;obtain⟨w,M,L⟩:=rr.uV b;exact FN value slice U s Z H _ _ v u Q I l r ⟨_,_,_,w,e,r2.int_inv,.of (d7 h),M,k w H (bf.refl H) L⟩ hs
 ·obtain⟨c,b,k⟩:=gs (Fi.bind q);exact Rq value slice U s Z H _ _ v u Q I l r ⟨_,_,c,r1.str_inv.1,r2.int_inv,cB r1.str_inv.2 lN,b,k _ H (bf.refl H) (.str _ (NU c))⟩ hs
 ·obtain⟨n,b,k⟩:=gs (Fi.bind q);obtain⟨tg,e,h⟩:=r1.FZ;exact FN value slice U s Z H _ _ v u Q I l r ⟨_,_,_,.int n,e,r2.int_inv,bf.seq bG h,by rw[NT,b];rfl,k _ H (bf.refl H) (.int n)⟩ hs
 ·obtain⟨k,S,qk⟩:=gs (Fi.bind q);obtain⟨t,b,qt⟩:=gs qk;obtain⟨tg,w,rfl,g,L⟩:=NV r1 r2 S b;cases(show v=Value.ref tg from l);exact tail_any (Cn I g) PySem.F.slot_dict_getitem.lookup (Hw hu I g r λw' s' I' rv=>⟨w,H,I',rv,qt w H (bf.refl H) L⟩) hs
 ·exact fe q
def aaz(hu:X.A.units+1<cLine)(ha:PE X tg (tP X F))(hb:PE X b (tP X G))(hs:tW b:=by exact λ_ _=>rfl):PE X (.Subscript tg b pos) (tP X λY=>HD jX (F Y) (G Y)):=
 (PM (Wr hu) ha hb hs).weak λ_ _ _ q=>uc q
inductive tO(X:Cx)(P:bT->Rs (Option Int))(Z:St)(H:Hp)(Q:Option Int->Hp->Prop):Prop
 |mk (B:fg) (Y:bT):HB B H->cF X.K B H Z Y->(Fi X H (P Y) fun o=>∀H',bf H H'->Q o H')->tO X P Z H Q
def Ji(r:Rs Tr):Rs (Option Int):=r.bind λt=>match t with
 |.int i=>.ok (some i)
 |_=>.bad
theorem R9:PO X none (tO X λ_=>.ok none):=λU s Z H Q I ⟨B,Y,hb,r,q⟩=>Nc U s Z H Q I (q H (bf.refl H))
theorem R_(h:PE X e (tP X F)):PO X (some e) (tO X λY=>Ji (F Y)):=λU s Z H Q I ⟨B,Y,hb,r,q⟩=>
 Nd h U s Z H Q I ⟨B,Y,hb,r,q.bind.mono λt b v H' s' g=>by
  split at b
  ·exact⟨_,g.int_inv,b H' s'⟩
  ·exact b.elim⟩
def AW{α:Type}(xs:List α)(lo hi:Option Int):List α:=(xs.drop (HT.ir xs.length 0 lo)).take (HT.ir xs.length xs.length hi - HT.ir xs.length 0 lo)
def bM.cut {H:Vw}{vs:List V}(r:bM K H vs ts)(lo hi:Option Int):bM K H (Cj vs lo hi) (AW ts lo hi):=by
 unfold Cj AW;rw[r.length];exact(r.drop _).take _
def nL(n:Nat)(lo hi:Option Int):Bool:=HT.ir n 0 lo==0&&HT.ir n n hi==n
def slT:Tr->Option Int->Option Int->Rs Tr
 |.tup ts,lo,hi=>if nL ts.length lo hi=true then .bad else .ok (.tup (AW ts lo hi))
 |.lst ts,lo,hi=>.ok (.lst (AW ts lo hi))
 |.str z,lo,hi=>if(Txt.slice z lo hi).length<=cY then .ok (.str (Txt.slice z lo hi))else .bad
 |_,_,_=>.bad
inductive rSl(X:Cx)(x:V)(lo:Option Int)(hi:Option Int)(H:Hp)(Q:VK):Prop
 |mk (B:fg) (t:Tr):HB B H->Rep X.K (bZ B H) x t->(Fi X H (slT t lo hi) fun t=>∀v H',bf H H'->Rep X.K (bZ B H') v t->Q v H')->rSl X x lo hi H Q
theorem aaA:UJ X (rSl X):=by
 intro U s Z H x v l n lo hi sl Q I L hs pl pu ⟨B,t,hb,r,q⟩;cases r with
 |tup h b=>
  rename_i tg vs ts;have g:Fi X H (if nL ts.length lo hi=true then Rs.bad else .ok (Tr.tup (AW ts lo hi))) _:=q;by_cases hw:nL ts.length lo hi=true
  ·rw[aV hw]at g;exact fe g
  ·rw[bb hw]at g;refine Rn U s Z H _ v l n lo hi sl Q I L hs pl pu ⟨_,_,rfl,h.up,λz=>hw ?_,λp hp=>g _ _ (bf.upd hp) (.R4 hb hp (b.cut lo hi))⟩;rw[b.length]at z;unfold nL;rw[z.1,z.2,bX,bX];rfl
 |lst h b=>exact Nh U s Z H _ v l n lo hi sl Q I L hs pl pu ⟨_,_,rfl,.of (d7 h),λp hp=>q _ _ (bf.upd hp) (.zd hb hp (b.cut lo hi))⟩
 |str z hz=>
  obtain⟨M,k⟩:=gD q;exact RQ U s Z H _ v l n lo hi sl Q I L hs pl pu ⟨z,rfl,cB hz lN,k _ H (bf.refl H) (.str _ M)⟩
 |_=>exact fe q
variable {P1 P2:bT->Rs (Option Int)}{lo hi:Option Expr}{p2:Pos}
noncomputable def NW:List Tr->Rs Tr
 |[.str z]=>.ok (.int (z.length:Int))
 |[.tup ts]=>.ok (.int (ts.length:Int))
 |[.lst ts]=>.ok (.int (ts.length:Int))
 |[.vn ns]=>.ok (.int (ns.length:Int))
 |_=>.bad
theorem Ws:lO X (.builtin "len") NW:=by
 intro U s Z H xs us Q I b ⟨B,ts,hb,r,q⟩;unfold NW at q;split at q
 ·obtain⟨x,e,r⟩:=fT r;exact tT U s Z H _ us Q I b ⟨_,_,e,by rw[r.str_inv.1];exact⟨cB r.str_inv.2 lN,rfl⟩,q _ H (bf.refl H) (.int _)⟩
 ·obtain⟨x,e,r⟩:=fT r;obtain⟨tg,vs,rfl,h,rr⟩:=r.dR;exact tT U s Z H _ us Q I b ⟨_,_,e,.inr ⟨_,h.up,rfl⟩,q _ H (bf.refl H) (by rw[rr.length];exact .int _)⟩
 ·obtain⟨x,e,r⟩:=fT r;obtain⟨tg,vs,rfl,h,rr⟩:=r.lst_inv;exact tT U s Z H _ us Q I b ⟨_,_,e,.inl ⟨_,.of (d7 h),rfl⟩,q _ H (bf.refl H) (by rw[rr.length];exact .int _)⟩
 ·obtain⟨x,e,r⟩:=fT r;obtain⟨tg,rfl,h⟩:=r.FZ;exact tT U s Z H _ us Q I b ⟨_,_,e,.inl ⟨_,bf.seq bG h,rfl⟩,q _ H (bf.refl H) (by rw[bt];exact .int _)⟩
 ·exact fe q
noncomputable def P4:List Tr->Rs Tr
 |[.tup ts]=>.ok (.lst ts)
 |[.lst ts]=>.ok (.lst ts)
 |_=>.bad
noncomputable def EE:List Tr->Rs Tr
 |[.tup ts]=>.ok (.tup ts)
 |[.lst ts]=>.ok (.tup ts)
 |_=>.bad
theorem g7:lO X (.type "tuple") EE:=by
 intro U s Z H xs us Q I b ⟨B,ts,hb,r,q⟩;unfold EE at q;split at q
 ·obtain⟨x,e,r⟩:=fT r;obtain⟨tg,vs,rfl,h,rr⟩:=r.dR;exact rn U s Z H _ us Q I b ⟨_,_,e,.inr ⟨h.up,q _ H (bf.refl H) (.tup h rr)⟩⟩
 ·obtain⟨x,e,r⟩:=fT r;obtain⟨tg,vs,rfl,h,rr⟩:=r.lst_inv;exact rn U s Z H _ us Q I b ⟨_,_,e,.inl ⟨.of (d7 h),λp hp=>q _ _ (bf.upd hp) (.R4 hb hp rr)⟩⟩
 ·exact q.elim
noncomputable def xX:Tr->String
 |.cx=>"NoneType"
 |.bl _=>"bool"
 |.int _=>"int"
 |.str _=>"str"
 |.ty _=>"type"
 |.tup _=>"tuple"
 |.lst _=>"list"
 |.vn _=>"list"
 |.bW _=>"dict"
 |.at _=>"object"
 |.vo _=>"dict"
 |.ob _ _=>"object"
 |.zG _=>"object"
def Zk(t:Tr)(c:String):Bool:=xX t==c||(xX t=="bool"&&c=="int")
noncomputable def kinds:List String:=["int","str","bool","tuple","list","dict"]
def Gf(K:Frag):∀tg∈["NoneType","bool","int","str","tuple","list","dict"],∀c∈kinds,PySem.W.kitOne K (.type tg) (.type c)=some (tg==c||(tg=="bool"&&c=="int")):=by
 intro tg b c g;simp only[kinds,bE,cN,cO]at b g;rcases b with rfl|rfl|rfl|rfl|rfl|rfl|rfl<;>rcases g with rfl|rfl|rfl|rfl|rfl|rfl<;>first|rfl|(unfold PySem.W.kitOne;exact aV (by decide))
def Wt:Tr->Bool
 |.ty _|.at _|.ob _ _|.zG _=>true
 |_=>false
def R':List Tr->Rs Tr
 |[t,.ty c]=>if Wt t=false/\kinds.contains c=true then .ok (.bl (Zk t c))else .bad
 |_=>.bad
theorem NX{rB:Addr->Option Nat}{x:V}(I:Inv X U Z H s)(r:Rep X.K (⟨H,rB⟩:Vw) x aC)(h0:Wt aC=false)(q:RelV x af)(hc:ay∈kinds)(h:∀tk,Q (.bool (Zk aC ay)) {s with toks:=tk}):
  wpAny (model X.prog X.w) A (call (.builtin "isinstance") [af,.type ay]) Q E s:=by
 have g:=λtg M=>Gf X.K tg M ay hc;cases r with
 |cx=>exact mO I q .cx (g _ (by decide)) h
 |bl b=>exact mO I q (.bl b) (g _ (by decide)) h
 |int i=>exact mO I q (.int i) (g _ (by decide)) h
 |str z hz=>exact mO I q (.str z) (g _ (by decide)) h
 |ty n=>cases h0
 |«at» h=>cases h0
 |ob h e L=>cases h0
 |zG h ay=>cases h0
 |@vo tg kvs bB l e L=>
  cases(show af=Value.ref tg from q);obtain⟨_,_,xs,_,o,es,ep,h1,h2,_⟩:=(show cV X.prog X.w H s.heap tg (.dT kvs)from I.cU tg _ l);exact fc sQ I.lZ ⟨o,h1,h2.1⟩ (g "dict" (by decide)) (λz=>nomatch z) h
 |@tup tg vs ts l L=>
  cases(show af=Value.ref tg from q);obtain⟨cn,rv,⟨o,h1,h2,_⟩,_⟩:=I.tuple l;exact fc PySem.W.kitx_tuple I.lZ ⟨o,h1,h2⟩ (g "tuple" (by decide)) (λz=>nomatch z) h
 |lst l L=>exact mO I q (.lst l) (g _ (by decide)) h
 |@vn tg ns l=>
  cases(show af=Value.ref tg from q);obtain⟨cn,rv,⟨o,n,h1,h2,_⟩,_⟩:=I.list l;exact fc wU I.lZ ⟨o,h1,h2⟩ (g "list" (by decide)) (λz=>nomatch z) h
 |@bW tg kvs bB l e L=>
  cases(show af=Value.ref tg from q);obtain⟨_,_,vs,_,p⟩:=(show cV X.prog X.w H s.heap tg (.dK kvs)from l.ok I.cU);obtain⟨o,es,ep,h1,h2,_⟩:=p;exact fc sQ I.lZ ⟨o,h1,h2.1⟩ (g "dict" (by decide)) (λz=>nomatch z) h
theorem zN:lO X (.builtin "isinstance") R':=by
 intro U s Z H xs us Q I b ⟨B,ts,hb,r,q⟩;unfold R' at q;split at q
 ·obtain⟨⟨h0,h1⟩,k⟩:=gD q;obtain⟨x,y,rfl,r1,r2⟩:=zI r;obtain⟨v,u,rfl,v1,v2⟩:=vals2 b;cases r2;cases v2;exact NX I r1.up h0 v1 (by simpa using h1) λg=>⟨.bl _,H,I.tok _,rfl,k _ H (bf.refl H) (.bl _)⟩
 ·exact q.elim
variable {name:Str}{dD:Pos}{id:String}{h:Str->List Tr->Rs Tr}
end
def Sa:Tr->Rs Tr
 |.int i=>.ok (.int (-i))
 |_=>.bad
theorem Wu(ha:PE X e (tP X F)):PE X (.UnaryOp .USub e pos) (tP X λY=>(F Y).bind Sa):=
 (Vp Rb ha).weak λZ H Q ⟨B,Y,hb,r,q⟩=>⟨B,Y,hb,r,q.bind.mono λt b v H' s' g=>by
  cases g with
  |int i=>exact⟨i,rfl,b _ H' s' (.int _)⟩
  |_=>exact fe b⟩
def dC(q:dc i A):A.units+40<cLine:=by have:=q.units;omega
def rD(n m:Nat)(G:bT->Rs Out)(ts:List Tr):Rs Tr:=if ts.length=n then dH (G (startT m ts))else .bad
def NZ{n:Nat}{G:bT->Rs Out}(h:rD n i G ts=.ok aC):ts.length=n:=by
 unfold rD at h;split at h
 ·assumption
 ·cases h
def Sb{G:bT->Rs Out}{t:Tr}(h:rD i az G ts=.ok t):dH (G (startT az ts))=.ok t:=by
 unfold rD at h;split at h
 ·exact h
 ·cases h
noncomputable def l6(bB:List (Key×Tr))(k:Key)(t:Tr):List (Key×Tr):=
 if(bB.any λb=>decide (b.1=k))=true then bB.map (λb=>if b.1=k then(b.1,t)else b)else bB++[(k,t)]
def l7(bB more:List (Key×Tr)):List (Key×Tr):=more.foldl (λacc b=>l6 acc b.1 b.2) bB
structure dY(K:Frag)(H:Vw)(kvs:List (Key×V))(bB:List (Key×Tr)):Prop where
 keys:kvs.map (·.1)=bB.map (·.1)
 vals:bM K H (kvs.map (·.2)) (bB.map (·.2))
section
variable {H H':Vw}
theorem dY.nil:dY K H [] []:=⟨rfl,.nil⟩
theorem dY.same {bB:List (Key×Tr)}(s:eX H H')(h:dY K H kvs bB):dY K H' kvs bB:=⟨h.keys,h.vals.same s⟩
theorem dY.cons {k:Key}{v:V}{t:Tr}{bB:List (Key×Tr)}(r:Rep K H v t)(h:dY K H kvs bB):dY K H ((k,v)::kvs) ((k,t)::bB):=⟨by rw[bL,bL,h.keys],.cons r h.vals⟩
def dY.inv {k:Key}{v:V}{bB:List (Key×Tr)}(h:dY K H ((k,v)::kvs) bB):∃t r,bB=(k,t)::r/\Rep K H v t/\dY K H kvs r:=by
 obtain⟨e,r⟩:=h
 match bB,e,r with
 |(k2,t)::c9,e,r=>
  rw[bL,bL]at e;injection e with b g
  have l:k=k2:=b;subst l;cases r with
  |cons h1 h2=>exact⟨t,c9,rfl,h1,g,h2⟩
theorem dY.any (k:Key):∀{kvs:List (Key×V)} {bB:List (Key×Tr)},dY K H kvs bB->(kvs.any λq=>decide (q.1=k))=bB.any λq=>decide (q.1=k)
 |[],bB,h=>by
  have e:=h.keys;cases bB with
  |nil=>rfl
  |cons a b=>cases e
 |(j,v)::kvs,bB,h=>by
  obtain⟨t,r,rfl,_,h2⟩:=h.inv;rw[jk,jk,dY.any k h2]
theorem dY.map (k:Key){y:V}{u:Tr}(ry:Rep K H y u):∀{kvs:List (Key×V)} {bB:List (Key×Tr)},dY K H kvs bB->dY K H (kvs.map λq=>if q.1=k then(q.1,y)else q) (bB.map λq=>if q.1=k then(q.1,u)else q)
 |[],bB,h=>by
  have e:=h.keys;cases bB with
  |nil=>exact .nil
  |cons a b=>cases e
 |(j,v)::kvs,bB,h=>by
  obtain⟨t,r,rfl,h1,h2⟩:=h.inv;rw[bL,bL];by_cases e:j=k
  ·rw[aV (show(j,v).1=k from e),aV (show(j,t).1=k from e)];exact .cons ry (dY.map k ry h2)
  ·rw[bb (show¬(j,v).1=k from e),bb (show¬(j,t).1=k from e)];exact .cons h1 (dY.map k ry h2)
theorem dY.snoc (k:Key){y:V}{u:Tr}(q:Rep K H y u):∀{kvs:List (Key×V)} {bB:List (Key×Tr)},dY K H kvs bB->dY K H (kvs++[(k,y)]) (bB++[(k,u)])
 |[],bB,h=>by
  have e:=h.keys;cases bB with
  |nil=>exact .cons q .nil
  |cons a b=>cases e
 |(j,v)::kvs,bB,h=>by
  obtain⟨t,r,rfl,h1,h2⟩:=h.inv;exact .cons h1 (dY.snoc k q h2)
def dY.put (k:Key){y:V}{u:Tr}(q:Rep K H y u){bB:List (Key×Tr)}(h:dY K H kvs bB):dY K H (putK kvs k y) (l6 bB k u):=by
 unfold putK l6;rw[h.any k];by_cases e:(bB.any λb=>decide (b.1=k))=true
 ·rw[aV e,aV e];exact h.map k q
 ·rw[bb e,bb e];exact h.snoc k q
theorem dY.merge:∀{more:List (Key×V)} {EF:List (Key×Tr)} {kvs:List (Key×V)} {bB:List (Key×Tr)},dY K H more EF->dY K H kvs bB->dY K H (iY kvs more) (l7 bB EF)
 |[],EF,kvs,bB,h,q=>by
  have e:=h.keys;cases EF with
  |nil=>exact q
  |cons a b=>cases e
 |(k,v)::more,EF,kvs,bB,h,q=>by
  obtain⟨t,r,rfl,h1,h2⟩:=h.inv;exact dY.merge (more:=more) (EF:=r) h2 (q.put k h1)
end
def cF.bar {Y:bT}{p:Addr}{o:HO}(h:cF K B H Z Y)(hp:H p=none):cF K (mS B p) (upd H p o) Z Y:=by
 refine⟨h.len,λi t e=>?_,λi ts e=>?_,h.ap⟩
 ·obtain⟨v,b,r⟩:=h.sh i t e;exact⟨v,b,r.same (kR hp)⟩
 ·obtain⟨D,ys,b,l,g,r⟩:=h.ow i ts e;exact⟨D,ys,b,F6.hd _ l,by rw[bh (bR g hp)];exact g,r.same (kR hp)⟩
def P5(k v:Rs Tr)(r:Rs (List (Tr×Tr))):Rs (List (Tr×Tr)):=k.bind λx=>v.bind λy=>r.bind λps=>.ok ((x,y)::ps)
def xY:List (Tr×Tr)->Rs (List (Key×Tr))
 |[]=>.ok []
 |(k,t)::r=>(kS (kh k)).bind λk=>(xY r).bind λl=>.ok ((k,t)::l)
def Wv(r:Rs (List (Tr×Tr))):Rs Tr:=r.bind λps=>if ps.length<=15 then(xY ps).bind λbB=>.ok (.bW (l7 [] bB))else .bad
inductive xZ(K:Frag)(H:Vw):List (V×V)->List (Tr×Tr)->Prop where
 |nil:xZ K H [] []
 |cons {x y:V} {t u:Tr} {ps:List (V×V)} {qs:List (Tr×Tr)} (h1:Rep K H x t) (h2:Rep K H y u) (r:xZ K H ps qs):xZ K H ((x,y)::ps) ((t,u)::qs)
theorem xZ.length {H:Vw}{ps:List (V×V)}{qs:List (Tr×Tr)}(h:xZ K H ps qs):ps.length=qs.length:=by
 induction h with
 |nil=>rfl
 |cons _ _ _ b=>rw[dt,dt,b]
def zO{X:Cx}{H:Vw}{H0:Hp}{k:List (Key×Tr)->Prop}{ps:List (V×V)}{qs:List (Tr×Tr)}(h:xZ K H ps qs):Fi X H0 (xY qs) k->∃kvs bB,k bB/\ps=kvs.map (λkv=>(kV kv.1,kv.2))/\dY K H kvs bB:=by
 induction h generalizing k with
 |nil=>exact λq=>⟨[],[],q,rfl,.nil⟩
 |cons b h2 r g=>
  intro q;obtain⟨key,l,n⟩:=gs (Fi.bind q);obtain⟨kvs,bB,k1,I,L⟩:=g (Fi.bind n);have e:=nJ b l;subst e;exact⟨(key,_)::kvs,_,k1,by rw[bL,I],.cons h2 L⟩
section
variable {a f:Expr}{dD:Pos}{E:bT->Rs Tr}{keys:List (Option Expr)}{P:bT->Rs (List (Tr×Tr))}
structure QP(X:Cx)(pos:Pos)(keys:List (Option Expr))(es:List Expr)(P:bT->Rs (List (Tr×Tr))):Prop where
 h:∃AL,UK X pos keys es AL/\∀Z H Q,(∃B Y,HB B H/\cF X.K B H Z Y/\Fi X H (P Y) fun Sd=>∀N0 H',bf H H'->xZ X.K (bZ B H') N0 Sd->Q N0 H')->xx AL Z H Q
theorem P6:QP X pos [] [] λ_=>.ok []:=⟨[],FT,λZ H Q ⟨B,Y,hb,r,q⟩=>q [] H (bf.refl H) .nil⟩
theorem xZ.same {H H':Vw}(s:eX H H'){ps:List (V×V)}{qs:List (Tr×Tr)}(h:xZ K H ps qs):xZ K H' ps qs:=by
 induction h with
 |nil=>exact .nil
 |cons b h2 r g=>exact .cons (b.same s) (h2.same s) g
theorem N1(hk:PE X e (tP X F))(hv:PE X o (tP X G))(hr:QP X pos keys es P):QP X pos (some e::keys) (o::es) λY=>P5 (F Y) (G Y) (P Y):=by
 obtain⟨S,h1,h2⟩:=hr.h;refine⟨_,Cp hk hv h1,λZ H Q ⟨B,Y,hb,r,q⟩=>?_⟩;refine⟨B,Y,hb,r,q.bind.mono λx b u H1 s1 g=>⟨B,Y,hb.same s1,r.same s1,(b.bind.same s1).mono λy l w H2 s2 n=>h2 _ _ _ ⟨B,Y,hb.same (s1.trans s2),r.same (s1.trans s2),(l.bind.same (s1.trans s2)).mono λps I N0 L s3 M=>?_⟩⟩⟩;exact I _ L ((s1.trans s2).trans s3) (.cons (g.same (bI (s2.trans s3))) (n.same (bI s3)) M)
theorem Se(h:QP X pos keys es P)(uP:keys.all (·.isSome)=true:=by rfl) (hl:keys.length=es.length:=by rfl) (h0:keys.isEmpty=false:=by rfl) (Nr:keys.length<=15:=by decide):PE X (.Dict keys es pos) (tP X λY=>Wv (P Y)):=by
 obtain⟨AL,h1,h2⟩:=h.h;refine(FU h1 uP hl (λz=>by rw[z]at h0;cases h0) Nr).weak λZ H Q ⟨B,Y,hb,r,q⟩ p hp=>?_
 refine h2 Z _ _ ⟨mS B p,Y,F5 hb hp,r.bar hp,(q.bind.same (bf.upd hp)).mono λL b N0 H2 s2 r2=>?_⟩;by_cases hz:L.length<=15
 ·rw[aV hz]at b;obtain⟨kvs,bB,k1,l,M⟩:=zO r2 (Fi.bind b);refine⟨s2 _ _ bK,kvs,l,?_,?_⟩
  ·have n:=cT List.length l;rw[bt,r2.length]at n;rw[<-n];exact hz
  ·have g:=hb.free hp;have I:=(dY.merge M dY.nil);refine k1 _ _ (((bf.upd hp).trans s2).AN hp) (.bW (.inl (by rw[fS g];exact bK)) I.keys (I.vals.same ?_));have S:bZ (mS B p) (upd H2 p (.dK (iY [] kvs)))=bZ (mS B p) H2:=ue;rw[<-S];exact Cz
 ·rw[bb hz]at b;exact fe b
def Kh(a b:Rs Tr):Rs Tr:=a.bind λx=>match x with
 |.bW bB=>b.bind λy=>(kS (kh y)).bind λk=>.ok ((eZ bB k).getD .cx)
 |_=>.bad
def Gg(a b c:Rs Tr):Rs Tr:=a.bind λx=>match x with
 |.bW bB=>b.bind λy=>c.bind λz=>(kS (kh y)).bind λk=>.ok ((eZ bB k).getD z)
 |_=>.bad
def P7(hb:isCall o=false)(cD:bx [e]=true)(q:(b8.endLine==dD.line)=true):M1 X o x b8 e dD:=
 ⟨gq hb,by rw[jy cD];rfl,q,by rw[bJ _ _ (bj cD).1,starEach];rfl⟩
def P8(hb:isCall o=false)(cD:bx [e,f]=true)(q:(b8.endLine==dD.line)=true):M2 X o x b8 e f dD:=
 ⟨gq hb,by rw[jy cD];rfl,q,by rw[bJ _ _ (bj cD).1,bJ _ _ (bj (bj cD).2).1,starEach];rfl⟩
def Gh{y:V}{ov:Option V}(g:pK (bZ B H) au y ov):pK H au y ov:=by
 rcases g with⟨kvs,k,l,n,r⟩|⟨kvs,k,b,l,n,r,I⟩
 ·exact .inl ⟨kvs,k,l.same bG,n,r⟩
 ·exact .inr ⟨kvs,k,b,l.same bG,n,bG _ _ r,I⟩
theorem Sf(hu:X.A.units+1<cLine)(ho:PE X o (tP X F))(he:PE X e (tP X G))(hb:isCall o=false:=by rfl) (cD:bx [e]=true:=by rfl) (hl:(b8.endLine==dD.line)=true:=by rfl):PE X (.Call (.Attribute o "get" b8) [e] [] dD) (tP X λY=>Kh (F Y) (G Y)):=
 (JU hu ho he (P7 hb cD hl)).weak λZ H Q ⟨B,Y,hb,r,q⟩=>⟨B,Y,hb,r,q.bind.mono λx b v H1 s1 l=>by
  split at b
  ·obtain⟨_,_,rfl,h,e,rr⟩:=l.nG;refine⟨_,rfl,.inl ⟨_,h.same bG⟩,B,Y,hb.same s1,r.same s1,(Fi.bind b|>.same s1).mono λy n w H2 s2 I=>?_⟩;obtain⟨k,L,M⟩:=gs (Fi.bind n);obtain⟨S,g,ho⟩:=xU (Rd.same (bI s2).h h) e (rr.same (bI s2)) I L;refine⟨S,Gh g,M _ H2 (s1.trans s2) ?_⟩;rcases ho with⟨h1,rfl⟩|⟨t,w',h1,rfl,h3⟩
   ·rw[h1];exact .cx
   ·rw[h1];exact h3
  ·exact b.elim⟩
theorem Sg(hu:X.A.units+1<cLine)(ho:PE X o (tP X F))(he:PE X e (tP X G))(hf:PE X f (tP X E))(hb:isCall o=false:=by rfl) (cD:bx [e,f]=true:=by rfl) (hl:(b8.endLine==dD.line)=true:=by rfl):PE X (.Call (.Attribute o "get" b8) [e,f] [] dD) (tP X λY=>Gg (F Y) (G Y) (E Y)):=
 (JV hu ho he hf (P8 hb cD hl)).weak λZ H Q ⟨B,Y,hb,r,q⟩=>⟨B,Y,hb,r,q.bind.mono λx b v H1 s1 l=>by
  split at b
  ·obtain⟨_,_,rfl,h,e,rr⟩:=l.nG;refine⟨_,rfl,.inl ⟨_,h.same bG⟩,B,Y,hb.same s1,r.same s1,(Fi.bind b|>.same s1).mono λy n w H2 s2 I=>⟨B,Y,hb.same (s1.trans s2),r.same (s1.trans s2),(Fi.bind n|>.same (s1.trans s2)).mono λz L w3 M s3 S=>?_⟩⟩;obtain⟨k,ek,qk⟩:=gs (Fi.bind L);obtain⟨ov,g,ho⟩:=xU (Rd.same (bI (s2.trans s3)).h h) e (rr.same (bI (s2.trans s3))) (I.same (bI s3)) ek;refine⟨ov,Gh g,qk _ M ((s1.trans s2).trans s3) ?_⟩;rcases ho with⟨h1,rfl⟩|⟨t,w',h1,rfl,h3⟩
   ·rw[h1];exact S
   ·rw[h1];exact h3
  ·exact b.elim⟩
def AX(K:Frag)(w:World)(mg:Str->Option Value)(x:Str)(bB:List (Str×Tr)):Prop:=
 ∃a kvs,mg x=some (.ref a)/\Cs K w a kvs/\∀z,(valueAt kvs z=none/\bB.lookup z=none)\/∃u v t,valueAt kvs z=some u/\RelV v u/\bB.lookup z=some t/\∀H,Rep K H v t
def Si(bB:List (Str×Tr)):Tr->Rs Tr
 |.str z=>kS (bB.lookup z)
 |_=>.bad
variable {bB:List (Str×Tr)}
theorem Ww(g:AX X.K X.w X.mg x bB)(ha:PE X a (tP X F))(hg:Gl X x:=by rfl) (hd:Db x:=by decide) (hs:Nn a:=by exact λ_ _=>rfl):PE X (.Subscript (.Name x p) a pos) (tP X λY=>(F Y).bind (Si bB)):=by
 obtain⟨ad,kvs,hm,D,hz⟩:=g;refine(J7 (AE (v:=.ref ad) hg hm rfl hd) ha hs).weak λZ H Q ⟨B,Y,hb,r,q⟩=>?_
 refine⟨B,Y,hb,r,q.bind.mono λt b v H1 s1 r1=>?_⟩;unfold Si at b;split at b
 ·rename_i z;obtain⟨t,l,k⟩:=gs b;rcases hz z with⟨h1,h2⟩|⟨u,v,t',h1,n,h2,I⟩
  ·cases l.symm.trans h2
  ·cases l.symm.trans h2;exact⟨ad,z,kvs,u,v,rfl,r1.str_inv.1,D,h1,n,k v H1 s1 (I _)⟩
 ·exact b.elim
def HP:List Tr->Rs (List Bool)
 |[]=>.ok []
 |.bl b::ts=>(HP ts).bind λzs=>.ok (b::zs)
 |_=>.bad
theorem Gi{H:Vw}{H0:Hp}{k:List Bool->Prop}:∀{ts:List Tr} {vs:List V},bM K H vs ts->Fi X H0 (HP ts) k->∃bs,k bs/\vs=bs.map V.bl
 |[],_,r,q=>by cases r;exact⟨[],q,rfl⟩
 |t::ts,_,r,q=>by
  cases r with
  |cons h r=>
   cases h with
   |bl b=>
    obtain⟨bs,k1,e⟩:=Gi (k:=λzs=>k (b::zs)) r (Fi.bind q);exact⟨b::bs,k1,by rw[e];rfl⟩
   |_=>exact fe q
def N2:List Tr->Rs Tr
 |[.lst ts]=>(HP ts).bind λbs=>.ok (.bl (bs.all id))
 |_=>.bad
theorem Wx(hc:X.calm=true):lO X (.builtin "all") N2:=by
 intro U s Z H xs us Q I b ⟨B,ts,hb,r,q⟩;unfold N2 at q;split at q
 ·obtain⟨x,rfl,h⟩:=fT r;obtain⟨a,vs,rfl,g,rr⟩:=h.lst_inv;obtain⟨bs,k,rfl⟩:=Gi rr (Fi.bind q);exact J5 hc U s Z H _ us Q I b ⟨_,bs,rfl,.of (d7 g),k _ H (bf.refl H) (.bl _)⟩
 ·exact fe q
end
inductive EG(K:Frag)(w:World):List DictEntry->List (Str×Value)->List (Str×Tr)->Prop
 |nil:EG K w [] [] []
 |cons {z:Str} {t:Tok} {v:V} {u:Value} {tr:Tr} {es:List DictEntry} {kvs:List (Str×Value)} {bB:List (Str×Tr)}:RelV v u->(∀H,Rep K H v tr)->EG K w es kvs bB->
   EG K w (⟨PyData.keyHash w.params z,.str z t,u⟩::es) ((z,u)::kvs) ((z,tr)::bB)
variable {es:List DictEntry}{kvs:List (Str×Value)}{bB:List (Str×Tr)}
theorem EG.keys (prog:Program)(h:EG K w es kvs bB):∀e∈es,∃k,(PySem.strKind prog w).is k e.key=true/\e.hash=(PySem.strKind prog w).hash k:=by
 induction h with
 |nil=>intro e he;cases he
 |@cons z t v u g es kvs bB _ _ _ b=>
  intro e he;rcases bE.mp he with rfl|he
  ·exact⟨z,by simp[PySem.strKind,Value.isStrOf],rfl⟩
  ·exact b e he
theorem EG.pairs (prog:Program)(h:EG K w es kvs bB):Pairs (PySem.strKind prog w) es kvs:=by
 induction h with
 |nil=>exact .nil
 |cons _ _ _ b=>exact .cons (by simp[PySem.strKind,Value.isStrOf]) rfl b
theorem EG.at (h:EG K w es kvs bB)(y:Str):(valueAt kvs y=none/\bB.lookup y=none)\/∃u v t,valueAt kvs y=some u/\RelV v u/\bB.lookup y=some t/\∀H,Rep K H v t:=by
 induction h with
 |nil=>exact .inl ⟨rfl,rfl⟩
 |@cons z t v u tr es kvs bB b hp _ g=>
  by_cases e:z=y
  ·subst e;exact .inr ⟨u,v,tr,by simp[valueAt],b,by simp[List.lookup],hp⟩
  ·have l:valueAt ((z,u)::kvs) y=valueAt kvs y:=by simp[valueAt,e]
   have n:List.lookup y ((z,tr)::bB)=bB.lookup y:=by
    have:(y==z)=false:=jh.mpr λk=>e k.symm;simp[List.lookup,this]
   rw[l,n];exact g
def EG.gd {ep:Nat}(h:EG K w es kvs bB)(hm:mg x=some (.ref a))(q:K.lookup a=some ⟨.type "dict",none,.dict es.toArray ep,#[]⟩) (hs:(a==sysModules)=false) (hn:(kvs.map (·.1)).Nodup):AX K w mg x bB:=
 ⟨a,kvs,hm,⟨hs,_,_,_,q,⟨rfl,rfl,rfl⟩,rfl,λprog=>⟨λe he=>h.keys prog e (by simpa using he),h.pairs prog,hn⟩⟩,h.at⟩
inductive Ao where
 |lst (ts:List Tr)|bW (bB:List (Key×Tr))|ins (x:Str) (fs:List (Str×Tr))|vo (bB:List (List Key×Tr))|D5 (x:Str)
abbrev Ab:=List Ao
def r9(K:Frag)(B:fg)(H:Hp)(a:Addr):Ao->Prop
 |.lst ts=>B.hd a=true/\∃vs,H a=some (.lst vs)/\bM K (bZ B H) vs ts
 |.bW bB=>B.hd a=true/\∃kvs,H a=some (.dK kvs)/\dY K (bZ B H) kvs bB
 |.vo bB=>B.hd a=true/\∃kvs,H a=some (.dT kvs)/\kvs.map (·.1)=bB.map (·.1)/\bM K (bZ B H) (kvs.map (·.2)) (bB.map (·.2))
 |.ins x fs=>B.hd a=true/\∃dx b,H a=some (.ins (clsAt K x) dx b)/\H dx=some (.own a)/\B.ix dx=none/\b.map (·.1)=fs.map (·.1)/\bM K (bZ B H) (b.map (·.2)) (fs.map (·.2))
 |.D5 x=>B.hd a=true/\∃g:Obj,H a=some (.ext λh=>h.get? a=some g)/\g.cls=.ref (clsAt K x)
structure HA(K:Frag)(B:fg)(A:Ab)(H:Hp):Prop where
 hb:HB B H
 ob:∀i o,A[i]?=some o->∃a,B.ix a=some i/\r9 K B H a o
 inj:∀a b i,B.ix a=some i->B.ix b=some i->a=b
 lt:∀a i,B.ix a=some i->i<A.length
structure Grows(B:fg)(H:Hp)(B':fg)(H':Hp):Prop where
 jK:eX (bZ B H) (bZ B' H')
 kp:∀b o,B.ix b=none->H b=some o->H' b=some o
 hd:∀b,B.ix b=none->B.hd b=true->B'.hd b=true
 nw:∀b i,B'.ix b=some i->B.ix b=none->H b=none
section
variable {B' B1 B2:fg}{H' H2:Hp}{A:Ab}
theorem r9.same {o:Ao}(h:r9 K B H a o)(s:bf H H'):r9 K B H' a o:=by
 cases o with
 |lst ts=>obtain⟨h0,vs,h1,h2⟩:=h;exact⟨h0,vs,s _ _ h1,h2.same (bI s)⟩
 |bW bB=>obtain⟨h0,vs,h1,h2⟩:=h;exact⟨h0,vs,s _ _ h1,h2.same (bI s)⟩
 |vo bB=>obtain⟨h0,vs,h1,h2,b⟩:=h;exact⟨h0,vs,s _ _ h1,h2,b.same (bI s)⟩
 |D5 x=>obtain⟨h0,oe,h1,h2⟩:=h;exact⟨h0,oe,s _ _ h1,h2⟩
 |ins c fs=>obtain⟨h0,dx,ib,h1,h2,b,g,l⟩:=h;exact⟨h0,dx,ib,s _ _ h1,s _ _ h2,b,g,l.same (bI s)⟩
theorem r9.hd {o:Ao}(h:r9 K B H a o):B.hd a=true:=by cases o<;>exact h.1
def r9.mem {o:Ao}(h:r9 K B H a o):∃x,H a=some x/\(∀vs,x≠ .tup vs)/\∀q u,x≠ .lB q u:=by
 cases o with
 |lst ts=>obtain⟨h0,vs,h1,h2⟩:=h;exact⟨_,h1,(λ_ e=>by cases e),(λ_ _ e=>by cases e)⟩
 |bW bB=>obtain⟨h0,vs,h1,h2⟩:=h;exact⟨_,h1,(λ_ e=>by cases e),(λ_ _ e=>by cases e)⟩
 |vo bB=>obtain⟨h0,vs,h1,h2⟩:=h;exact⟨_,h1,(λ_ e=>by cases e),(λ_ _ e=>by cases e)⟩
 |D5 x=>obtain⟨h0,oe,h1,h2⟩:=h;exact⟨_,h1,(λ_ e=>by cases e),(λ_ _ e=>by cases e)⟩
 |ins c fs=>obtain⟨h0,dx,ib,h1,h2⟩:=h;exact⟨_,h1,(λ_ e=>by cases e),(λ_ _ e=>by cases e)⟩
theorem HA.same (h:HA K B A H)(s:bf H H'):HA K B A H':=
 ⟨h.hb.same s,λi o e=>by obtain⟨a,h1,h2⟩:=h.ob i o e;exact⟨a,h1,h2.same s⟩,h.inj,h.lt⟩
def HA.get (h:HA K B A H){i:Nat}{o:Ao}(e:B.ix a=some i)(q:A[i]?=some o):r9 K B H a o:=by
 obtain⟨b,h1,h2⟩:=h.ob i o q;rw[h.inj a b i e h1];exact h2
def HA.ex (h:HA K B A H){i:Nat}(e:B.ix a=some i):∃o,A[i]?=some o/\r9 K B H a o:=by
 have l:=h.lt a i e;exact⟨A[i],bV l,h.get e (bV l)⟩
def HA.free (h:HA K B A H){p:Addr}(hp:H p=none):B.ix p=none:=by
 cases e:B.ix p with
 |none=>rfl
 |some i=>
  obtain⟨o,_,q⟩:=h.ex e;obtain⟨x,b,_⟩:=q.mem;rw[hp]at b;cases b
def Grows.of (s:bf H H'):Grows B H B H':=⟨bI s,λb o _ e=>s b o e,λ_ _ e=>e,λb i e n=>by rw[n]at e;cases e⟩
theorem Grows.refl:Grows B H B H:=.of (bf.refl H)
theorem Grows.trans (hb:HB B H)(a:Grows B H B1 ac)(b:Grows B1 ac B2 H2):Grows B H B2 H2:=by
 have key:∀c,B.ix c=none->(∃o,H c=some o)->B1.ix c=none:=λc n ⟨o,e⟩=>by
  cases q:B1.ix c with
  |none=>rfl
  |some i=>have:=a.nw c i q n;rw[e]at this;cases this
 refine⟨a.jK.trans b.jK,λc o n e=>b.kp c o (key c n ⟨o,e⟩) (a.kp c o n e),λc n e=>?_,λc i e n=>?_⟩
 ·exact b.hd c (key c n (hb c e)) (a.hd c n e)
 ·cases q:B1.ix c with
  |none=>
   have:=b.nw c i e q;cases g:H c with
   |none=>rfl
   |some o=>rw[a.kp c o n g]at this;cases this
  |some j=>exact a.nw c j q n
noncomputable def pR(B:fg)(p:Addr)(i:Nat):fg:=⟨λb=>B.hd b||b==p,λb=>if b=p then some i else B.ix b⟩
theorem qM:(pR B a i).hd a=true:=by show(B.hd a||a==a)=true;rw[bX,Bool.or_true]
def iC{p:Addr}:(pR B p i).ix p=some i:=aV rfl
def iD{b:Addr}(h:b≠a):(pR B a i).ix b=B.ix b:=bb h
def uh{b:Addr}(h:b≠a):(pR B a i).hd b=B.hd b:=by show(B.hd b||b==a)=_;rw[kc h,pv]
def Ki{p:Addr}(hp:H p=none)(hx:B.ix p=none)(s:bf H H'):eX (bZ B H) (bZ (pR B p i) H'):=⟨λb u e=>by
 have l:=bG b u e;have g:b≠p:=bR l hp;have r:B.hd b=false:=by
  cases q:B.hd b with
  |false=>rfl
  |true=>
   have n:(if B.hd b=true then none else H b)=some u:=e;rw[q,aV rfl]at n;cases n
 rw[fS (by rw[uh g];exact r)];exact s b u l,λb j e=>by
 have g:b≠p:=λz=>by rw[z]at e;rw[show(bZ B H).ix p=B.ix p from rfl,hx]at e;cases e
 show(pR B p i).ix b=some j;rw[iD g];exact e⟩
theorem HA.push {p:Addr}{o:Ao}(h:HA K B A H)(hp:H p=none)(s:bf H H')(ho:r9 K (pR B p A.length) H' p o):Grows B H (pR B p A.length) H'/\HA K (pR B p A.length) (A++[o]) H':=by
 have hx:=h.free hp;have r:eX (bZ B H) (bZ (pR B p A.length) H'):=Ki hp hx s;have up:∀{a:Addr} {u:Ao},a≠p->r9 K B H a u->r9 K (pR B p A.length) H' a u:=λ{a u} M q=>by
  have I:(pR B p A.length).hd a=true:=by rw[uh M];exact q.hd
  cases u with
  |lst ts=>obtain⟨h0,vs,h1,h2⟩:=q;exact⟨I,vs,s _ _ h1,h2.same r⟩
  |bW bB=>obtain⟨h0,vs,h1,h2⟩:=q;exact⟨I,vs,s _ _ h1,h2.same r⟩
  |vo bB=>obtain⟨h0,vs,h1,h2,h3⟩:=q;exact⟨I,vs,s _ _ h1,h2,h3.same r⟩
  |D5 x=>obtain⟨h0,oe,h1,h2⟩:=q;exact⟨I,oe,s _ _ h1,h2⟩
  |ins c fs=>
   obtain⟨h0,dx,ib,h1,h2,h3,h4,h5⟩:=q;exact⟨I,dx,ib,s _ _ h1,s _ _ h2,by rw[iD (bR h2 hp)];exact h3,h4,h5.same r⟩
 refine⟨⟨r,λb u _ e=>s b u e,λb _ e=>?_,λb i e n=>?_⟩,⟨λb e=>?_,λi u e=>?_,λa b i l g=>?_,λa i e=>?_⟩⟩
 ·show(B.hd b||b==p)=true;rw[e,tq]
 ·by_cases q:b=p
  ·rw[q];exact hp
  ·rw[iD q,n]at e;cases e
 ·by_cases q:b=p
  ·rw[q];obtain⟨x,g,_⟩:=ho.mem;exact⟨x,g⟩
  ·rw[uh q]at e;obtain⟨x,g⟩:=h.hb b e;exact⟨x,s _ _ g⟩
 ·by_cases q:i<A.length
  ·rw[oM q]at e;obtain⟨a,l,g⟩:=h.ob i u e;have M:a≠p:=λz=>by rw[z,hx]at l;cases l
   exact⟨a,by rw[iD M];exact l,up M g⟩
  ·rw[wD (Nat.le_of_not_lt q)]at e;have hi:i - A.length=0:=by
    cases z:i - A.length with
    |zero=>rfl
    |succ k=>rw[z]at e;cases e
   rw[hi]at e;cases e;have:i=A.length:=by omega
   subst this;exact⟨p,iC,ho⟩
 ·by_cases S:a=p
  ·by_cases L:b=p
   ·rw[S,L]
   ·rw[S,iC]at l;cases l;rw[iD L]at g;exact absurd (h.lt b _ g) (eP _)
  ·by_cases L:b=p
   ·rw[L,iC]at g;cases g;rw[iD S]at l;exact absurd (h.lt a _ l) (eP _)
   ·rw[iD S]at l;rw[iD L]at g;exact h.inj a b i l g
 ·rw[eO,List.length_singleton];by_cases q:a=p
  ·rw[q,iC]at e;cases e;exact o4 _
  ·rw[iD q]at e;exact lJ (h.lt a i e)
def jo{u:HO}(h:B.hd a=true):bZ B (upd H a u)=bZ B H:=by
 unfold bZ;congr 1;funext b;by_cases q:b=a
 ·subst q;rw[aV h,aV h]
 ·rw[bh q]
def HA.write {o:Ao}{u:HO}(h:HA K B A H)(e:B.ix a=some i)(ho:r9 K B (upd H a u) a o):Grows B H B (upd H a u)/\HA K B (A.set i o) (upd H a u):=by
 have hd:B.hd a=true:=ho.hd;have l:bZ B (upd H a u)=bZ B H:=jo hd;refine⟨⟨by rw[l];exact eX.refl _,λb x n q=>?_,λ_ _ q=>q,λb j q n=>by rw[n]at q;cases q⟩,⟨λb q=>?_,λj x q=>?_,h.inj,λb j q=>by rw[kK];exact h.lt b j q⟩⟩
 ·have g:b≠a:=λz=>by rw[z,e]at n;cases n
  rw[bh g];exact q
 ·by_cases z:b=a
  ·subst z;exact⟨u,bK⟩
  ·rw[bh z];exact h.hb b q
 ·rcases fH q with⟨rfl,_,rfl⟩|⟨S,q⟩
  ·exact⟨a,e,ho⟩
  ·obtain⟨b,L,r⟩:=h.ob j x q;have g:b≠a:=λz=>by rw[z,e]at L;cases L;exact S rfl
   refine⟨b,L,?_⟩;cases x with
   |lst ts=>obtain⟨h0,vs,h1,h2⟩:=r;exact⟨h0,vs,by rw[bh g];exact h1,by rw[l];exact h2⟩
   |bW bB=>obtain⟨h0,vs,h1,h2⟩:=r;exact⟨h0,vs,by rw[bh g];exact h1,by rw[l];exact h2⟩
   |vo bB=>obtain⟨h0,vs,h1,h2,I⟩:=r;exact⟨h0,vs,by rw[bh g];exact h1,h2,by rw[l];exact I⟩
   |D5 x=>obtain⟨h0,oe,h1,h2⟩:=r;exact⟨h0,oe,by rw[bh g];exact h1,h2⟩
   |ins c fs=>
    obtain⟨h0,dx,ib,h1,h2,I,h4,h5⟩:=r;have M:dx≠a:=λz=>by rw[z,e]at I;cases I
    exact⟨h0,dx,ib,by rw[bh g];exact h1,by rw[bh M];exact h2,I,h4,by rw[l];exact h5⟩
end
mutual
def vN:Tr->Bool
 |.at _=>false
 |.tup ts=>jz ts
 |.lst ts=>jz ts
 |.bW bB=>Gj bB
 |.vo bB=>Gk bB
 |.ob _ fs=>Gm fs
 |_=>true
def jz:List Tr->Bool
 |[]=>true
 |t::ts=>vN t&&jz ts
def Gj:List (Key×Tr)->Bool
 |[]=>true
 |p::r=>P9 p&&Gj r
def P9:Key×Tr->Bool
 |(_,t)=>vN t
def Gk:List (List Key×Tr)->Bool
 |[]=>true
 |p::r=>P_ p&&Gk r
def P_:List Key×Tr->Bool
 |(_,t)=>vN t
def Gm:List (Str×Tr)->Bool
 |[]=>true
 |p::r=>P' p&&Gm r
def P':Str×Tr->Bool
 |(_,t)=>vN t
end
theorem zP:∀(bB:List (Key×Tr)),Gj bB=jz (bB.map (·.2))
 |[]=>rfl
 |(k,t)::r=>by rw[Gj,P9,bL,jz,zP r]
theorem zQ:∀(bB:List (List Key×Tr)),Gk bB=jz (bB.map (·.2))
 |[]=>rfl
 |(k,t)::r=>by rw[Gk,P_,bL,jz,zQ r]
theorem zR:∀(bB:List (Str×Tr)),Gm bB=jz (bB.map (·.2))
 |[]=>rfl
 |(k,t)::r=>by rw[Gm,P',bL,jz,zR r]
mutual
noncomputable def Jj:Tr->Bool
 |.cx=>true
 |.bl _=>true
 |.int _=>true
 |.str _=>true
 |.ty _=>true
 |.at _=>true
 |.tup ts=>mT ts
 |_=>false
noncomputable def mT:List Tr->Bool
 |[]=>true
 |t::ts=>Jj t&&mT ts
end
def aY:Nat->Ab->Tr->Tr
 |0,_,t=>t
 |n+1,A,.at i=>match A[i]? with
  |some (.lst ts)=>.lst (ts.map (aY n A))
  |some (.bW bB)=>.bW (bB.map λp=>(p.1,aY n A p.2))
  |some (.vo bB)=>.vo (bB.map λp=>(p.1,aY n A p.2))
  |some (.ins c fs)=>.ob c (fs.map λp=>(p.1,aY n A p.2))
  |some (.D5 x)=>.zG x
  |none=>.at i
 |_+1,_,t=>t
def fg.un (B:fg):fg:=⟨λb=>B.hd b&&(B.ix b).isNone,B.ix⟩
section
variable {B':fg}{A:Ab}
def Qa:vp B.un B:=⟨λb e=>by
 have g:(B.hd b&&(B.ix b).isNone)=true:=e;rw[bU]at g;exact g.1,λ_ _ e=>e⟩
def i7:eX (bZ B H) (bZ B.un H):=xG Qa
def CI(h:HB B H):HB B.un H:=λb e=>h b (Qa.hd b e)
def CJ(e:B.ix a=some i):(bZ B.un H).H a=H a:=fS (by show(B.hd a&&(B.ix a).isNone)=false;rw[e];exact xg _)
theorem pS{W W':Vw}{f:Tr->Tr}(h:∀{v t},Rep K W v t->Rep K W' v (f t)):∀{vs:List V} {ts:List Tr},bM K W vs ts->bM K W' vs (ts.map f)
 |[],_,r=>by cases r;exact .nil
 |_::_,_,r=>by cases r with|cons b r=>exact .cons (h b) (pS h r)
theorem jA(ha:HA K B A H):∀(n:Nat) {v:V} {t:Tr},Rep K (bZ B H) v t->Rep K (bZ B.un H) v (aY n A t)
 |0,v,t,r=>by rw[aY];exact r.same i7
 |n+1,v,t,r=>by
  cases r with
  |@«at» a i h=>
   have e:B.ix a=some i:=h;obtain⟨o,q,g⟩:=ha.ex e;rw[aY,q];cases o with
   |lst ts=>
    obtain⟨h0,vs,h1,h2⟩:=g;exact .lst (by rw[CJ e];exact h1) (pS (λr=>jA ha n r) h2)
   |bW bB=>
    obtain⟨h0,kvs,h1,h2⟩:=g;refine .bW (.inl (by rw[CJ e];exact h1)) (by rw[h2.keys,cL];rfl) ?_
    have:=pS (λr=>jA ha n r) h2.vals;rw[cL]at this⊢;exact this
   |D5 x=>obtain⟨h0,oe,h1,h2⟩:=g;exact .zG (by rw[CJ e];exact h1) h2
   |vo bB=>
    obtain⟨h0,kvs,h1,h2,l⟩:=g;refine .vo (by rw[CJ e];exact h1) (by rw[h2,cL];rfl) ?_
    have:=pS (λr=>jA ha n r) l;rw[cL]at this⊢;exact this
   |ins c fs=>
    obtain⟨h0,dx,ib,h1,h2,l,I,L⟩:=g;refine .ob (by rw[CJ e];exact h1) (by rw[I,cL];rfl) ?_
    have:=pS (λr=>jA ha n r) L;rw[cL]at this⊢;exact this
  |cx=>exact .cx
  |bl b=>exact .bl b
  |int i=>exact .int i
  |str z h=>exact .str z h
  |ty m=>exact .ty m
  |vn h=>exact .vn (i7.h.seq h)
  |tup h r=>exact .tup (i7.h.tup h) (r.same i7)
  |lst h r=>exact .lst (i7.h _ _ h) (r.same i7)
  |bW h e r=>exact .bW (h.same i7.h) e (r.same i7)
  |vo h e r=>exact .vo (i7.h _ _ h) e (r.same i7)
  |ob h e r=>exact .ob (i7.h _ _ h) e (r.same i7)
  |zG h c=>exact .zG (i7.h _ _ h) c
def Sj(ha:HA K B A H){x:HO}(e:(bZ B.un H).H a=some x)(hx:(∃vs,x=.tup vs)\/∃o u,x=.lB o u):(bZ B H).H a=some x:=by
 have b:=bG a x e;cases q:B.hd a with
 |false=>rw[fS q];exact b
 |true=>
  cases z:B.ix a with
  |none=>
   have g:(if B.un.hd a=true then none else H a)=some x:=e;rw[show B.un.hd a=(B.hd a&&(B.ix a).isNone)from rfl,q,z]at g;cases g
  |some i=>
   obtain⟨o,_,n⟩:=ha.ex z;obtain⟨y,l,r,I⟩:=n.mem;rw[b]at l;cases l;rcases hx with⟨vs,rfl⟩|⟨o,u,rfl⟩
   ·exact absurd rfl (r vs)
   ·exact absurd rfl (I o u)
structure lQ(W W':Vw):Prop where
 h:∀a x,W.H a=some x->((∃vs,x=.tup vs)\/∃o u,x=.lB o u)->W'.H a=some x
 x:∀a i,W.ix a=some i->W'.ix a=some i
theorem lQ.un (q:HA K B A H):lQ (bZ B.un H) (bZ B H):=⟨λa x e b=>Sj q e b,λ_ _ e=>e⟩
def lQ.trans {W W1 W2:Vw}(a:lQ W W1)(b:lQ W1 W2):lQ W W2:=⟨λc x e g=>b.h c x (a.h c x e g) g,λc i e=>b.x c i (a.x c i e)⟩
def lQ.new {p:Addr}{x:HO}(hx:B.ix p=none)(hp:H p=some x)(n1:∀vs,x≠ .tup vs)(n2:∀o u,x≠ .lB o u):lQ (bZ B H) (bZ (pR B p i) H):=⟨λa y e n=>by
 have b:=bG a y e;have g:a≠p:=λz=>by
  rw[z,hp]at b;cases b;rcases n with⟨vs,z⟩|⟨o,u,z⟩
  ·exact n1 vs z
  ·exact n2 o u z
 have r:B.hd a=false:=by
  cases q:B.hd a with
  |false=>rfl
  |true=>
   have l:(if B.hd a=true then none else H a)=some y:=e;rw[q,aV rfl]at l;cases l
 rw[fS (by rw[uh g];exact r)];exact b,λa j e=>by
 have g:a≠p:=λz=>by rw[z]at e;rw[show(bZ B H).ix p=B.ix p from rfl,hx]at e;cases e
 show(pR B p i).ix a=some j;rw[iD g];exact e⟩
def Gn{W W':Vw}(s:lQ W W'){v:V}{t:Tr}(h:Rep K W v t):Jj t=true->Rep K W' v t:=by
 refine Rep.rec (motive_1:=λv t _=>Jj t=true->Rep K W' v t) (motive_2:=λvs ts _=>mT ts=true->bM K W' vs ts) ?_ ?_ ?_ ?_ ?_ ?_ ?_ ?_ ?_ ?_ ?_ ?_ ?_ ?_ ?_ h
 ·exact λ_=>.cx
 ·exact λb _=>.bl b
 ·exact λi _=>.int i
 ·exact λz h _=>.str z h
 ·exact λn _=>.ty n
 ·exact λh f=>nomatch f
 ·intro a vs ts h _ r f;refine .tup ?_ (r f)
  rcases h with(h|⟨o,h⟩)|h
  ·exact .inl (.inl (s.h _ _ h (.inl ⟨_,rfl⟩)))
  ·exact .inl (.inr ⟨o,s.h _ _ h (.inr ⟨_,_,rfl⟩)⟩)
  ·exact .inr h
 ·exact λh _ _ f=>nomatch f
 ·exact λh _ _ _ f=>nomatch f
 ·exact λh _=>.at (s.x _ _ h)
 ·exact λh _ _ _ f=>nomatch f
 ·exact λh _ _ _ f=>nomatch f
 ·exact λh c f=>nomatch f
 ·exact λ_=>.nil
 ·intro v t vs ts _ _ g l f;rw[mT,bU]at f;exact .cons (g f.1) (l f.2)
theorem pT{W W':Vw}(s:lQ W W'):∀{vs:List V} {ts:List Tr},bM K W vs ts->mT ts=true->bM K W' vs ts
 |[],_,r,_=>by cases r;exact .nil
 |_::_,_,r,f=>by
  cases r with
  |cons h r=>
   rw[mT,bU]at f;exact .cons (Gn s h f.1) (pT s r f.2)
def zS(q:HA K B A H){v:V}{t:Tr}(h:Rep K (bZ B.un H) v t)(f:Jj t=true):Rep K (bZ B H) v t:=Gn (.un q) h f
def Rep.Kj {W W':Vw}(s:bf W.H W'.H){v:V}{t:Tr}(h:Rep K W v t):vN t=true->Rep K W' v t:=by
 refine Rep.rec (motive_1:=λv t _=>vN t=true->Rep K W' v t) (motive_2:=λvs ts _=>jz ts=true->bM K W' vs ts) ?_ ?_ ?_ ?_ ?_ ?_ ?_ ?_ ?_ ?_ ?_ ?_ ?_ ?_ ?_ h
 ·exact λ_=>.cx
 ·exact λb _=>.bl b
 ·exact λi _=>.int i
 ·exact λz h _=>.str z h
 ·exact λn _=>.ty n
 ·exact λh _=>.vn (s.seq h)
 ·exact λh _ g f=>.tup (s.tup h) (g f)
 ·exact λh _ g f=>.lst (s _ _ h) (g f)
 ·intro a kvs bB h e _ g f;refine .bW (Rd.same s h) e (g ?_);rw[vN,zP]at f;exact f
 ·exact λh f=>nomatch f
 ·intro a kvs bB h e _ g f;refine .vo (s _ _ h) e (g ?_);rw[vN,zQ]at f;exact f
 ·intro a c dx I fs h e _ g f;refine .ob (s _ _ h) e (g ?_);rw[vN,zR]at f;exact f
 ·exact λh c _=>.zG (s _ _ h) c
 ·exact λ_=>.nil
 ·intro v t vs ts _ _ l r f;rw[jz,bU]at f;exact .cons (l f.1) (r f.2)
theorem bM.Kj {W W':Vw}(s:bf W.H W'.H):∀{vs:List V} {ts:List Tr},bM K W vs ts->jz ts=true->bM K W' vs ts
 |[],_,r,_=>by cases r;exact .nil
 |_::_,_,r,f=>by
  cases r with
  |cons h r=>
   rw[jz,bU]at f;exact .cons (h.Kj s f.1) (bM.Kj s r f.2)
end
def Wy(A:Ab):Cell->Cell
 |.sh t=>.sh (aY 5 A t)
 |c=>c
def dm(A:Ab)(Y:bT):bT:=Y.map (Wy A)
theorem cF.N3 {A:Ab}{Y:bT}(ha:HA K B A H)(n:fI Y)(h:cF K B H Z Y):cF K B.un H Z (dm A Y):=by
 have no:∀i ts,(dm A Y)[i]? ≠some (Cell.ow ts):=λi ts e=>by
  unfold dm at e;rw[b_]at e;cases q:Y[i]? with
  |none=>rw[q]at e;cases e
  |some c=>
   rw[q]at e;cases c with
   |no=>cases e
   |sh t=>cases e
   |ow us=>exact n i us q
 refine⟨by unfold dm;rw[bt];exact h.len,λi t e=>?_,λi ts e=>absurd e (no i ts),λi j ts us D _ e=>absurd e (no i ts)⟩;unfold dm at e;rw[b_]at e;cases q:Y[i]? with
 |none=>rw[q]at e;cases e
 |some c=>
  rw[q]at e;cases c with
  |no=>cases e
  |ow us=>exact absurd q (n i us)
  |sh u=>
   obtain⟨v,b,r⟩:=h.sh i u q;have g:aY 5 A u=t:=by
    have l:=Option.some.inj e;exact(Cell.sh.inj l)
   rw[<-g];exact⟨v,b,jA ha 5 r⟩
def cF.grow {B':fg}{H':Hp}{Y:bT}(h:cF K B H Z Y)(n:fI Y)(g:Grows B H B' H'):cF K B' H' Z Y:=
 ⟨h.len,λi t e=>by obtain⟨v,b,r⟩:=h.sh i t e;exact⟨v,b,r.same g.jK⟩,λi ts e=>absurd e (n i ts),λi j ts us D _ e=>absurd e (n i ts)⟩
theorem cV.get {h:Heap}{o:HO}(x:cV P w H h a o):∃u,h.get? a=some u:=by
 cases o with
 |lst xs=>obtain⟨_,_,_,_,e⟩:=x;exact⟨_,e⟩
 |tup xs=>obtain⟨_,_,_,o,e,_⟩:=x;exact⟨o,e⟩
 |dK kvs=>obtain⟨_,_,_,_,o,_,_,e,_⟩:=x;exact⟨o,e⟩
 |dT kvs=>obtain⟨_,_,_,_,o,_,_,e,_⟩:=x;exact⟨o,e⟩
 |set S n=>obtain⟨o,_,_,_,e,_⟩:=x;exact⟨o,e⟩
 |ins C dx fs=>obtain⟨_,_,_,e,_⟩:=x;exact⟨_,e⟩
 |own y=>exact x
 |xd fs=>obtain⟨_,⟨_,_,_,e,_⟩,_⟩:=x;exact⟨_,e⟩
 |Y6 lo hi=>obtain⟨_,_,_,e⟩:=x;exact⟨_,e⟩
 |lB b u=>obtain⟨e,_⟩:=x;exact⟨_,e⟩
 |Pt ps=>exact⟨_,(show h.get? a=some _ from x)⟩
 |met f y=>exact⟨_,(show h.get? a=some _ from x)⟩
 |ext g=>obtain⟨_,e,_⟩:=x;exact e
structure Qb(h0:Heap)(H:Hp)(h:Heap)(a:Addr)(cls:Value):Prop where
 ob:∃oe vs a0,h.get? a=some oe/\oe.cls=cls/\oe.data=.fields vs/\vs[0]?=some a0/\
  (vs[1]?=some .none\/∃T oT ts,vs[1]?=some (.ref T)/\T≠a/\h0.get? T=none/\H T=none/\h.get? T=some oT/\oT.data=.fields ts/\ts[3]?=some .none)
 fr:H a=none
 nw:h0.get? a=none
def XS(X:Cx)(H:Hp)(cls e:Value)(s:Shared):Prop:=∃a U Z h0,e=.ref a/\Inv X U Z H s/\Qb h0 H s.heap a cls/\(∀b,h0.get? b=none->X.gj.heap.get? b=none)/\(∀p∈X.pn,∃o,h0.get? p.1=some o)/\∀b,s.heap.get? b=none->h0.get? b=none
def EX(X:Cx):XK:=λcls _ H=>∀e s,XS X H cls e s->X.xe e s
def uY(P:Program)(w:World):Ce:=λouter H s E e s'=>∃a cls H',e=.ref a/\s'.os=s.os/\AllBare s'.gens/\Un (jV outer) [] H H' s.heap s'.heap/\rV P w H' s'.heap/\Qb s.heap H' s'.heap a cls/\E cls none H'
def Qb.Wz {h0 h1 h:Heap}{cls:Value}(u:Qb h1 H h a cls)(k:∀b,h1.get? b=none->h0.get? b=none):Qb h0 H h a cls:=by
 obtain⟨⟨l,vs,a0,r,I,L,M,g⟩,f,n⟩:=u;refine⟨⟨l,vs,a0,r,I,L,M,?_⟩,f,k a n⟩;rcases g with g|⟨T,oT,ts,S,q,q3,q4⟩
 ·exact .inl g
 ·exact .inr ⟨T,oT,ts,S,q,k T q3,q4⟩
def Inv.CK (I:Inv X U Z H s)(hx:X.ex=[]){b:Addr}(n:s.heap.get? b=none):X.gj.heap.get? b=none:=by
 cases q:X.gj.heap.get? b with
 |none=>rfl
 |some o=>
  obtain⟨o',e⟩:=I.base.there b o q (by rw[hx];simp);rw[n]at e;cases e
theorem mU(hx:X.ex=[]):Passes (uY X.prog X.w) X (EX X):=by
 intro U Z H s e s' I z;obtain⟨a,cls,H',rfl,os,bare,un,cU,Gp,q⟩:=z;have ce:CE X.stack X.prog X.w H s (λ_ H2=>H2=H') .none s':=⟨.cx,H',os,bare,un,cU,rfl,rfl⟩;obtain⟨v,H2,g,_,rfl⟩:=I.after ce;exact q (.ref a) s' ⟨a,U,Z,s.heap,rfl,g,Gp,λb n=>I.CK hx n,λp hp=>⟨_,(I.pin p (j7 _ hp)).1⟩,λb n=>by
  cases z:s.heap.get? b with
  |none=>rfl
  |some o=>obtain⟨o',e⟩:=un.there b o z (by simp);rw[n]at e;cases e⟩
section
variable {base:Heap}{outer:List Env}{E:XK}
theorem Kk{cls e:Value}{s':Shared}(x:XS (oG (uY P w) P w K mg base ps av ax au af A outer s H E) ac cls e s')(q:E cls none ac):(oG (uY P w) P w K mg base ps av ax au af A outer s H E).xe e s':=by
 obtain⟨a,U,Z,h00,rfl,I,aaB,old,_,_⟩:=x;have Gp:=aaB.Wz (h0:=s.heap) old;obtain⟨⟨oe,vs,a0,he,AD,hd,h0,h1⟩,fr,nw⟩:=Gp
 let env:=envOfC av ax s.heap.objs.size au af
 have UR:(A.deeper env).frames=some (env::outer):=I.ok.frames;have hk:s'.heap.FunFrames base (env::outer):=I.stack;have US:∀L∈jV (env::outer),ac L=none/\∃o,s'.heap.get? L=some o/\∀ws,o.data≠ .fields ws:=λL r=>⟨I.v7 L r,(hk.mem r).2⟩;have haf:a∉jV (env::outer):=λm=>by
  obtain⟨_,o,g,l⟩:=US a m;rw[he]at g;cases g;exact l vs hd
 have fin:∀(hs:List Addr) (h':Heap),(∀b∈hs,ac b=none/\(b∈jV (env::outer)\/s.heap.get? b=none))->(∀b∈jV (env::outer),b∈hs)->a∈hs->(∀b∈hs,b∈jV (env::outer)\/b=a\/ac b=none)->
   Heap.LeftW (PySem.W.hideAll s'.heap hs) (env::outer) a cls a0 s'.heap h'->uY P w outer H s E (.ref a) {s' with heap:=h'}:=by
  intro hs h' hh QM abx _ ⟨k1,k2,k3,k4⟩;have kp:∀b o,b∉hs->s'.heap.get? b=some o->h'.get? b=some o:=λb o nb e=>k1 b o (mv _ e nb);have old:∀b o,s.heap.get? b=some o->b∉jV outer->b∉hs:=λb o e M m=>by
   rcases(hh b m).2 with z|z
   ·unfold jV at z;rw[oS]at z;have S:b∈s.heap.objs.size::jV outer:=z;rcases bE.mp S with S|S
    ·exact absurd (bu e) (by rw[S];exact eP _)
    ·exact M S
   ·rw[e]at z;cases z
  have sl:∀b o,s'.heap.get? b=some o->b∈jV outer->∃sl,h'.get? b=some {o with slots:=sl}:=λb o e m=>by
   obtain⟨_,o2,l,M⟩:=US b (by unfold jV at m⊢;rw[oS];exact ck _ m);rw[e]at l;cases l;exact k4 b o e M
  have pins:Un (jV outer) [] H ac s.heap s'.heap:=I.base;refine⟨a,cls,ac,rfl,I.os,I.bare,⟨λb o e n M nx=>?_,λb o e n m nx=>?_,pins.free,λb o e nx=>?_,pins.mL,pins.lC,pins.nE⟩,λb o e=>?_,⟨?_,fr,nw⟩,q⟩
  ·exact kp b o (old b o e M) (pins.keep b o e n M nx)
  ·obtain⟨s1,g⟩:=pins.slot b o e n m nx;obtain⟨s2,l⟩:=sl b _ g m;exact⟨s2,l⟩
  ·obtain⟨o1,g⟩:=pins.there b o e nx;by_cases m:b∈jV outer
   ·obtain⟨s2,l⟩:=sl b o1 g m;exact⟨_,l⟩
   ·exact⟨o1,kp b o1 (old b o e m) g⟩
  ·refine(I.cU b o e).pD (λc u hc z=>kp c u (λm=>?_) z) (λ_ z=>z) λ_ _ z=>z;have n:=(hh c m).1;rcases hc with rfl|hc
   ·rw[n]at e;cases e
   ·rw[n]at hc;cases hc
  ·obtain⟨oe2,vs2,T,oT,ts,q1,⟨q2,q3⟩,q4,q5,q6,q7,q8,q9,q10⟩:=k3;refine⟨oe2,vs2,a0,q1,q2,q4,q3,.inr ⟨T,oT,ts,q5,q7,?_,?_,q8,q9,q10⟩⟩
   ·by_cases m:T∈hs
    ·rcases(hh T m).2 with z|z
     ·obtain⟨o3,e3,n3⟩:=(k2.mem z).2;rw[q8]at e3;cases e3;exact absurd q9 (n3 ts)
     ·exact z
    ·cases z:s.heap.get? T with
     |none=>rfl
     |some o=>
      obtain⟨o1,g⟩:=pins.there T o z (by simp);rw[mv _ g m]at q6;cases q6
   ·by_cases m:T∈hs
    ·exact(hh T m).1
    ·cases z:ac T with
     |none=>rfl
     |some o=>
      obtain⟨u,g⟩:∃u,s'.heap.get? T=some u:=(I.cU T o z).get;rw[mv _ g m]at q6;cases q6
 have lD:∀e∈(env::outer),∀b,e.frame=some b->b∈jV (env::outer):=λe he b hb=>lI.mpr ⟨e,he,hb⟩;show wpAny (model P w) (A.deeper env) (leaving env (.ref a)) (λ_ Rm=>uY P w outer H s E (.ref a) Rm) _ s';rcases h1 with h1|⟨T,oT,ts,h1,hTa,hT0,MM,hT,Zl,h3⟩
 ·let hs:=a::jV (env::outer)
  refine wpAny_leaving_firstW (base:=PySem.W.hideAll s'.heap hs) UR (oQ hk λe he b hb=>ck _ (lD e he b hb)) rfl he (λb o z=>mw _ z) (lG _ (cz ..)) hd h1 h0 λh' r=>?_
  rw[AD]at r;refine fin hs h' (λb m=>?_) (λb m=>ck _ m) (cz ..) (λb m=>?_) r
  ·rcases bE.mp m with rfl|m
   ·exact⟨fr,.inr nw⟩
   ·exact⟨(US b m).1,.inl m⟩
  ·rcases bE.mp m with rfl|m
   ·exact .inr (.inl rfl)
   ·exact .inl m
 ·let hs:=a::T::jV (env::outer)
  refine wpAny_leaving_nextW (base:=PySem.W.hideAll s'.heap hs) (cls:=cls) (a0:=a0) UR (oQ hk λe he b hb=>ck _ (ck _ (lD e he b hb))) rfl
   ⟨oe,vs,T,oT,ts,he,⟨AD,h0⟩,hd,h1,lG _ (ck _ (cz ..)),hTa,hT,Zl,h3⟩ (λb o z=>mw _ z) (lG _ (cz ..)) λh' r=>?_
  refine fin hs h' (λb m=>?_) (λb m=>ck _ (ck _ m)) (cz ..) (λb m=>?_) r
  ·rcases bE.mp m with rfl|m
   ·exact⟨fr,.inr nw⟩
   ·rcases bE.mp m with rfl|m
    ·exact⟨MM,.inr hT0⟩
    ·exact⟨(US b m).1,.inl m⟩
  ·rcases bE.mp m with rfl|m
   ·exact .inr (.inl rfl)
   ·rcases bE.mp m with rfl|m
    ·exact .inr (.inr MM)
    ·exact .inl m
end
inductive Rz(α:Type) where
 |bad|ok (a:α) (A:Ab)|exc (c:Tr) (A:Ab)
variable {aH:bT->Ab->Rz (List Tr)}{aI aJ:bT->Ab->Rz Tr}{aK:bT->Ab->Rz Out}
noncomputable def Rz.bind {α β:Type}(r:Rz α)(f:α->Ab->Rz β):Rz β:=match r with
 |.ok a A=>f a A
 |.exc c A=>.exc c A
 |.bad=>.bad
def gM(xc:Tr->Ab->Prop){α:Type}(r:Rz α)(k:α->Ab->Prop):Prop:=match r with
 |.ok a A=>k a A
 |.exc c A=>xc c A
 |.bad=>False
section
variable {β:Type}{r:Rz ag}{k k':ag->Ab->Prop}{xc UN:Tr->Ab->Prop}
def gM.mono (h:gM xc r k)(w:∀a A,k a A->k' a A):gM xc r k':=by
 cases r with
 |ok a A=>exact w a A h
 |_=>exact h
def gM.imp (h:gM xc r k)(w:∀c A,xc c A->UN c A):gM UN r k:=by
 cases r with
 |ok a A=>exact h
 |exc c A=>exact w c A h
 |bad=>exact h
theorem gM.bind {f:ag->Ab->Rz β}{k:β->Ab->Prop}(h:gM xc (r.bind f) k):gM xc r λa A=>gM xc (f a A) k:=by
 cases r with
 |_=>exact h
end
def gE{α:Type}(r:Rs α)(A:Ab):Rz α:=match r with
 |.ok a=>.ok a A
 |_=>.bad
def mV{X:Cx}{H:Hp}{xc:Tr->Ab->Prop}{r:Rs ag}{A:Ab}{k:ag->Ab->Prop}(q:gM xc (gE r A) k):Fi X H r λa=>k a A:=by
 cases r with
 |ok a=>exact q
 |exc c=>exact fe q
 |bad=>exact q
def WA(K:Frag):Tr->Value
 |.str x=>.ref (clsAt K x)
 |_=>.none
def XE(X:Cx)(B:fg)(H:Hp):Tr->Ab->Prop:=λc A=>∀B' H',Grows B H B' H'->HA X.K B' A H'->EX X (WA X.K c) none H'
def XE.grow {B':fg}{H':Hp}{c:Tr}{A:Ab}(hb:HB B H)(h:XE X B H c A)(g:Grows B H B' H'):XE X B' H' c A:=λB2 H2 g2 b=>h B2 H2 (g.trans hb g2) b
inductive tE(X:Cx)(F:bT->Ab->Rz Tr)(Z:St)(H:Hp)(Q:VK):Prop
 |mk (B:fg) (A:Ab) (Y:bT):HA X.K B A H->cF X.K B H Z Y->fI Y->(gM (XE X B H) (F Y A) fun t A'=>∀v B' H',Grows B H B' H'->HA X.K B' A' H'->Rep X.K (bZ B' H') v t->Q v H')->tE X F Z H Q
inductive Qc(X:Cx)(F:bT->Ab->Rz Bool)(Z:St)(H:Hp)(Q:Bool->Hp->Prop):Prop
 |mk (B:fg) (A:Ab) (Y:bT):HA X.K B A H->cF X.K B H Z Y->fI Y->(gM (XE X B H) (F Y A) fun b A'=>∀B' H',Grows B H B' H'->HA X.K B' A' H'->Q b H')->Qc X F Z H Q
inductive MN(X:Cx)(F:bT->Ab->Rz (List Tr))(Z:St)(H:Hp)(Q:List V->Hp->Prop):Prop
 |mk (B:fg) (A:Ab) (Y:bT):HA X.K B A H->cF X.K B H Z Y->fI Y->(gM (XE X B H) (F Y A) fun ts A'=>∀vs B' H',Grows B H B' H'->HA X.K B' A' H'->bM X.K (bZ B' H') vs ts->Q vs H')->MN X F Z H Q
def Sk(H H':Hp)(p:Addr):Prop:=H p=none/\∀o u,H' p≠some (.lB o u)
theorem Sk.lst {H':Hp}{p:Addr}(h:H p=none)(r:Rep K (bZ B H') (.ref p) (.lst ts)):Sk H H' p:=by
 cases r with
 |lst e _=>exact⟨h,λo u z=>by rw[bG _ _ e]at z;cases z⟩
theorem Sk.upd {H1:Hp}{p:Addr}{x:HO}(h:H p=none)(q:∀o u,x≠ .lB o u):Sk H (L2.upd H1 p x) p:=⟨h,λo u z=>by rw[bK]at z;cases z;exact q _ _ rfl⟩
inductive tF(X:Cx)(F:bT->Rs Tr)(Z:St)(H:Hp)(Q:VK):Prop
 |mk (B:fg) (Y:bT):HB B H->cF X.K B H Z Y->(Fi X H (F Y) fun t=>∀v H',bf H H'->Rep X.K (bZ B H') v t->(∀p,v=.ref p->Sk H H' p)->Q v H')->tF X F Z H Q
def r_(r:Rs Tr)(A:Ab):Rz Tr:=match r with
 |.ok t=>if Jj t=true then .ok t A else .bad
 |_=>.bad
def uZ(r:Rs Tr)(A:Ab):Rz Tr:=match r with
 |.ok (.lst ts)=>if mT ts=true then .ok (.at A.length) (A++[.lst ts])else .bad
 |.ok (.bW bB)=>if mT (bB.map (·.2))=true then .ok (.at A.length) (A++[.bW bB])else .bad
 |.ok (.vo bB)=>if mT (bB.map (·.2))=true then .ok (.at A.length) (A++[.vo bB])else .bad
 |_=>.bad
def CL{Q:VK}(q:tE X (λY A=>gE (F Y) A) Z H Q):tP X F Z H Q:=by
 obtain⟨B,A,Y,ha,r,_,q⟩:=q;exact⟨B,Y,ha.hb,r,(mV q).mono λt b v H' s g=>b v B H' (.of s) (ha.same s) g⟩
theorem Sl(h:PE X e (tP X F)):PE X e (tE X λY A=>gE (F Y) A):=h.weak λZ H Q q=>CL q
theorem Sm(h:PE X e (tP X F)):PE X e (tE X λY A=>r_ (F (dm A Y)) A):=
 h.weak λZ H Q ⟨B,A,Y,ha,r,n,q⟩=>⟨B.un,dm A Y,CI ha.hb,r.N3 ha n,by
   have q:gM (XE X B H) (r_ (F (dm A Y)) A) _:=q;cases e:F (dm A Y)with
   |bad=>rw[e]at q;exact q
   |exc c=>rw[e]at q;exact fe q
   |ok t=>
    rw[e]at q;intro v H' s g;by_cases f:Jj t=true
    ·have b:gM _ (if Jj t=true then Rz.ok t A else .bad) _:=q;rw[aV f]at b;exact b v B H' (.of s) (ha.same s) (zS (ha.same s) g f)
    ·have b:gM _ (if Jj t=true then Rz.ok t A else .bad) _:=q;rw[bb f]at b;exact fe b⟩
theorem N4(h:PT X e (tQ X aF)):PT X e (Qc X λY A=>gE (aF (dm A Y)) A):=
 h.weak λZ H Q ⟨B,A,Y,ha,r,n,q⟩=>⟨B.un,dm A Y,CI ha.hb,r.N3 ha n,(mV q).mono λt b H' s=>b B H' (.of s) (ha.same s)⟩
def ig{c:Prop}[Decidable c]{xc:Tr->Ab->Prop}{r:Rz ag}{k:ag->Ab->Prop}(h:gM xc (if c then r else .bad) k):c/\gM xc r k:=by
 by_cases q:c
 ·rw[aV q]at h;exact⟨q,h⟩
 ·rw[bb q]at h;exact fe h
def se{Q:VK}(q:tE X (λY A=>uZ (F (dm A Y)) A) Z H Q):tF X F Z H Q:=by
  obtain⟨B,A,Y,ha,r,n,q⟩:=q;refine⟨B.un,dm A Y,CI ha.hb,r.N3 ha n,?_⟩;have q:gM (XE X B H) (uZ (F (dm A Y)) A) _:=q;cases e:F (dm A Y)with
  |bad=>rw[e]at q;exact q
  |exc c=>rw[e]at q;exact fe q
  |ok t=>
   rw[e]at q;intro v H' s M fr;have I:=ha.same s;cases M with
   |@lst p vs ts h b=>
    have hp:=(fr p rfl).1;obtain⟨f,l⟩:=ig q;have h1:H' p=some (.lst vs):=bG _ _ h;obtain⟨g,h2⟩:=ha.push (o:=.lst ts) hp s ⟨qM,vs,h1,pT ((lQ.un I).trans (.new (ha.free hp) h1 (λ_ z=>by cases z) λ_ _ z=>by cases z)) b f⟩;exact l _ _ H' g h2 (.at iC)
   |@bW p kvs bB h L b=>
    have hp:=(fr p rfl).1;obtain⟨f,l⟩:=ig q;have h1:H' p=some (.dK kvs):=by
     rcases h.same bG with h|⟨o,h⟩
     ·exact h
     ·exact((fr p rfl).2 _ _ h).elim
    obtain⟨g,h2⟩:=ha.push (o:=.bW bB) hp s ⟨qM,kvs,h1,L,pT ((lQ.un I).trans (.new (ha.free hp) h1 (λ_ z=>by cases z) λ_ _ z=>by cases z)) b f⟩;exact l _ _ H' g h2 (.at iC)
   |@vo p kvs bB h L b=>
    have hp:=(fr p rfl).1;obtain⟨f,l⟩:=ig q;have h1:H' p=some (.dT kvs):=bG _ _ h;obtain⟨g,h2⟩:=ha.push (o:=.vo bB) hp s ⟨qM,kvs,h1,L,pT ((lQ.un I).trans (.new (ha.free hp) h1 (λ_ z=>by cases z) λ_ _ z=>by cases z)) b f⟩;exact l _ _ H' g h2 (.at iC)
   |_=>exact fe q
theorem WB(h:PE X e (tF X F)):PE X e (tE X λY A=>uZ (F (dm A Y)) A):=h.weak λZ H Q q=>se q
def vv(X:Cx)(D:Ends)(B0:fg)(H0:Hp):Out->Ab->Prop
 |.nx Y,A=>∀b B' H',Grows B0 H0 B' H'->HA X.K B' A H'->cF X.K B' H' b Y->fI Y->D.nx b H'
 |.ret t,A=>∀v B' H',Grows B0 H0 B' H'->HA X.K B' A H'->Rep X.K (bZ B' H') v t->D.rt v H'
 |.bk Y,A=>∀b B' H',Grows B0 H0 B' H'->HA X.K B' A H'->cF X.K B' H' b Y->fI Y->D.bk b H'
 |.ct Y,A=>∀b B' H',Grows B0 H0 B' H'->HA X.K B' A H'->cF X.K B' H' b Y->fI Y->D.ct b H'
inductive tZ(X:Cx)(G:bT->Ab->Rz Out)(D:Ends)(Z:St)(H:Hp):Prop
 |mk (B0:fg) (H0:Hp) (B:fg) (A:Ab) (Y:bT):HB B0 H0->Grows B0 H0 B H->HA X.K B A H->cF X.K B H Z Y->fI Y->gM (XE X B0 H0) (G Y A) (vv X D B0 H0)->tZ X G D Z H
section
variable {b c:Expr}{F:bT->Ab->Rz Tr}{G':bT->Ab->Rz Out}{P:bT->Ab->Rz Bool}
def EH(r:Rz Out)(aK:bT->Ab->Rz Out):Rz Out:=r.bind λo A=>match o with
 |.nx Y=>aK Y A
 |.ret t=>.ok (.ret t) A
 |.bk Y=>.ok (.bk Y) A
 |.ct Y=>.ok (.ct Y) A
theorem WC:oK X [] (tZ X λY A=>.ok (.nx Y) A):=FF.weak λD Z H ⟨B0,H0,B,A,Y,hb,g,ha,r,n,q⟩=>q Z B H g ha r n
theorem Sn(h1:PS X ai (tZ X aK))(h2:oK X ah (tZ X G')):oK X (ai::ah) (tZ X λY A=>EH (aK Y A) G'):=
 (Cc h1 h2).weak λD Z H ⟨B0,H0,B,A,Y,hb,g,ha,r,n,q⟩=>⟨B0,H0,B,A,Y,hb,g,ha,r,n,q.bind.mono λo A1 b=>by
  cases o with
  |nx iu=>exact λM B' H' g' l I L=>⟨B0,H0,B',A1,iu,hb,g',l,I,L,b⟩
  |ret t=>exact b
  |bk iu=>exact b
  |ct iu=>exact b⟩
def WD(q:PS X ai (tZ X aK)):oK X [ai] (tZ X aK):=FG q
def WE:PE X e (tE X λ_ _=>.bad):=λ_ _ _ _ _ _ ⟨_,_,_,_,_,_,q⟩=>(show False from q).elim
def pU{B0:fg}{A:Ab}{Y:bT}{k:Tr->Ab->Prop}(hb:HB B0 ac)(g:Grows B0 ac B H)(ha:HA X.K B A H)(r:cF X.K B H Z Y)(n:fI Y)(q:gM (XE X B0 ac) (F Y A) k){Q:VK}
  (hq:∀t A' v B' H',k t A'->Grows B0 ac B' H'->HA X.K B' A' H'->cF X.K B' H' Z Y->Rep X.K (bZ B' H') v t->Grows B H B' H'->Q v H'):tE X F Z H Q:=
 ⟨B,A,Y,ha,r,n,(q.imp λc A' x=>x.grow hb g).mono λt A' b v B' H' g' l I=>hq t A' v B' H' b (g.trans hb g') l (r.grow n g') I g'⟩
def So{B0:fg}{A:Ab}{Y:bT}{k:Bool->Ab->Prop}(hb:HB B0 ac)(g:Grows B0 ac B H)(ha:HA X.K B A H)(r:cF X.K B H Z Y)(n:fI Y)(q:gM (XE X B0 ac) (P Y A) k){Q:Bool->Hp->Prop}
  (hq:∀t A' B' H',k t A'->Grows B0 ac B' H'->HA X.K B' A' H'->cF X.K B' H' Z Y->Q t H'):Qc X P Z H Q:=
 ⟨B,A,Y,ha,r,n,(q.imp λc A' x=>x.grow hb g).mono λt A' b B' H' g' l=>hq t A' B' H' b (g.trans hb g') l (r.grow n g')⟩
def AY(i:Nat)(r:Rz Tr)(Y:bT):Rz Out:=r.bind λt A=>.ok (.nx (Y.set i (.sh t))) A
theorem WG(he:PE X e (tE X F))(hN:X.N.Nodup:=by assumption) (hi:X.N[i]?=some x:=by rfl) (hx:Loc X.env.scope x:=by first|exact Or.inl rfl|exact Or.inr rfl) (hs:r6 e=false:=by rfl) (hf:y3 X x:=by first|exact .inl rfl|exact .inr rfl|assumption):
  PS X (.Assign [.Name x p] e pos) (tZ X λY A=>AY i (F Y A) Y):=
 (Jz hN hi hx he (xH hs) hf).weak λD Z H ⟨B0,H0,B,A,Y,hb,g,ha,r,n,q⟩=>pU hb g ha r n q.bind λt A' v B' H' b g' l I L _=>b _ B' H' g' l (I.set i L) (n.set i t)
def Kl(r:Rz Tr):Rz Out:=r.bind λt A=>.ok (.ret t) A
theorem WH(he:PE X e (tE X F)):PS X (.Return (some e) pos) (tZ X λY A=>Kl (F Y A)):=
 (Jw he).weak λD Z H ⟨B0,H0,B,A,Y,hb,g,ha,r,n,q⟩=>pU hb g ha r n q.bind λt A' v B' H' b g' l L I _=>b v B' H' g' l I
theorem Sq:PS X (.Return none pos) (tZ X λ_ A=>.ok (.ret .cx) A):=
 M0.weak λD Z H ⟨B0,H0,B,A,Y,hb,g,ha,r,n,q⟩=>q .cx B H g ha .cx
def pV(r:Rz Tr)(Y:bT):Rz Out:=r.bind λ_ A=>.ok (.nx Y) A
theorem Sr(he:PE X e (tE X F))(hs:r6 e=false:=by rfl):PS X (.Expr e pos) (tZ X λY A=>pV (F Y A) Y):=
 (MZ he (xH hs)).weak λD Z H ⟨B0,H0,B,A,Y,hb,g,ha,r,n,q⟩=>pU hb g ha r n q.bind λt A' v B' H' b g' l I L _=>b _ B' H' g' l I n
def Zm(c:Rz Bool)(am b:Ab->Rz Out):Rz Out:=c.bind λk A=>if k then am A else b A
theorem aaC(hc:PT X c (Qc X P))(h1:oK X ah (tZ X aK))(h2:oK X aj (tZ X G')):PS X (.If c ah aj pos) (tZ X λY A=>Zm (P Y A) (aK Y) (G' Y)):=
 (Pz hc h1 h2).weak λD Z H ⟨B0,H0,B,A,Y,hb,g,ha,r,n,q⟩=>So hb g ha r n q.bind λk A' B' H' b g' l I=>by
  cases k with
  |true=>exact RJ ⟨B0,H0,B',A',Y,hb,g',l,I,n,b⟩
  |false=>exact RI ⟨B0,H0,B',A',Y,hb,g',l,I,n,b⟩
def Km(T:oH)(r:Rz Tr)(Y:bT):Rz Out:=r.bind λt A=>(gE (T t Y) A).bind λb A=>.ok (.nx b) A
def Kn{T:oH}{B0:fg}{A:Ab}{Y:bT}{v:V}{t:Tr}{k:bT->Ab->Prop}(hT:jL T)(hb:HB B0 ac)(g:Grows B0 ac B H)(ha:HA X.K B A H)(r:cF X.K B H Z Y)(n:fI Y)(rv:Rep X.K (bZ B H) v t){xc:Tr->Ab->Prop}(q:gM xc (gE (T t Y) A) k){Q:St->Hp->Prop}
  (hq:∀iu du H',k iu A->Grows B0 ac B H'->HA X.K B A H'->cF X.K B H' du iu->fI iu->bf H H'->Q du H'):tG X T v Z H Q:=by
 refine⟨B,Y,t,ha.hb,r,rv,?_⟩;cases e:T t Y with
 |ok iu=>rw[e]at q;exact λdu H' s b=>hq iu du H' q (g.trans hb (.of s)) (ha.same s) b (hT t Y iu n e) s
 |exc c=>rw[e]at q;exact fe q
 |bad=>rw[e]at q;exact q
theorem WI{T:oH}(hg:PG X tg (tG X T))(hT:jL T)(he:PE X e (tE X F))(hs:swapsWithSole [tg] e pos.line X.env=pure false:=by rfl) (hw:swappedStores [tg] e X.env=pure none:=by rfl)
  (h1:(assignEach [tg] X.env).map (·.2)=[assign tg X.env]:=by rfl):PS X (.Assign [tg] e pos) (tZ X λY A=>Km T (F Y A) Y):=
 (Jy he hg hs hw h1).weak λD Z H ⟨B0,H0,B,A,Y,hb,g,ha,r,n,q⟩=>pU hb g ha r n q.bind λt A' v B' H' b g' l I L _=>
  Kn hT hb g' l I n L (gM.bind b) λiw M H2 S g2 pW r2 n2 _=>S M B' H2 g2 pW r2 n2
def sf(T:oH)(aK:bT->Ab->Rz Out):List Tr->bT->Ab->Rz Out
 |[],Y,A=>.ok (.nx Y) A
 |t::ts,Y,A=>(gE (T t Y) A).bind λg A=>(aK g A).bind λo A=>match o with
  |.nx b=>sf T aK ts b A
  |.ct b=>sf T aK ts b A
  |.bk b=>.ok (.nx b) A
  |.ret t=>.ok (.ret t) A
def Gq(T:oH)(aK:bT->Ab->Rz Out)(l:Rz (List Tr))(Y:bT):Rz Out:=l.bind λts A=>sf T aK ts Y A
theorem WJ{T:oH}(hi:PI X tg am (tI X L))(hg:PG X tg (tG X T))(hT:jL T)(hb:oK X ah (tZ X aK))(hp:PassesOwn (model X.prog X.w) X.A X.env X.xe:=by first|exact pj|exact xh) (hc:X.calm=true:=by rfl)
  (hs:isSet am=false:=by rfl):PS X (.For tg am ah [] pos) (tZ X λY A=>Gq T aK (gE (L Y) A) Y):=
 (Ed hp hc hi hg hb (gn hs)).weak λD Z H ⟨B0,H0,B,A,Y,BW,g,ha,r,n,q⟩=>⟨B,Y,ha.hb,r,(mV (gM.bind q)).mono λts qt J H1 s1 gt=>by
  have g1:Grows B0 H0 B H1:=g.trans BW (.of s1);have AZ:HB B H1:=ha.hb.same s1;refine⟨λi m du H'=>m=ts.length - i/\i<=ts.length/\∃B' A' iu,Grows B H1 B' H'/\HA X.K B' A' H'/\cF X.K B' H' du iu/\fI iu/\gM (XE X B0 H0) (sf T aK (ts.drop i) iu A') (vv X D B0 H0),⟨_,rfl,d5 _,B,A,Y,.refl,ha.same s1,r.same s1,n,qt⟩,?_⟩
  rintro i m du H' ⟨rfl,hi,B',A',iu,g',jW,r',n',q'⟩
  by_cases gm:i<ts.length
  ·rw[oN gm]at q';refine .inr ⟨gt.go i B' H' gm g'.jK jW.hb,λv8 H2=>∃B2 A2 b,Grows B H1 B2 H2/\HA X.K B2 A2 H2/\cF X.K B2 H2 v8 b/\fI b/\gM (XE X B0 H0) (sf T aK (ts.drop (i+1)) b A2) (vv X D B0 H0),
    λv8 H2 x=>⟨ts.length - (i+1),by omega,rfl,gm,x⟩,λx H2 hx=>?_⟩
   obtain⟨s2,t,et,rt⟩:=gt.FI i B' H' x H2 gm g'.jK jW.hb hx;have R0:ts[i]=t:=by rw[bV gm]at et;exact Option.some.inj et
   rw[R0]at q';have g2:Grows B H1 B' H2:=g'.trans AZ (.of s2);refine Kn hT AZ g2 (jW.same s2) (r'.same s2) n' rt (gM.bind q') λrA M6 H3 q1 g3 Gr r3 n3 _=>?_
   refine⟨B,H1,B',A',rA,AZ,g3,Gr,r3,n3,((gM.bind q1).imp λc A'' x=>x.grow BW g1).mono λo A4 qo=>?_⟩;cases o with
   |nx b=>exact λKo l H4 I M S n4=>⟨l,A4,b,I,M,S,n4,qo⟩
   |ct b=>exact λKo l H4 I M S n4=>⟨l,A4,b,I,M,S,n4,qo⟩
   |bk b=>exact λKo l H4 I M S n4=>qo Ko l H4 (g1.trans BW I) M S n4
   |ret t=>exact λv l H4 I M S=>qo v l H4 (g1.trans BW I) M S
  ·have e:i=ts.length:=by omega
   subst e;rw[o7]at q';exact .inl ⟨gt.stop B' H' g'.jK,q' du B' H' (g1.trans BW g') jW r' n'⟩⟩
end
section
variable {a:Expr}
def Gs(r:Rz Tr)(l:Ab->Rz (List Tr)):Rz (List Tr):=r.bind λx A=>(l A).bind λxs A=>.ok (x::xs) A
theorem Kp:PA X [] (MN X λ_ A=>.ok [] A):=rX.weak λZ H Q ⟨B,A,Y,ha,r,n,q⟩=>q [] B H .refl ha .nil
theorem Gu(h1:PE X a (tE X aI))(hr:PA X aA (MN X aH))(hs:isStar a=false:=by rfl):PA X (a::aA) (MN X λY A=>Gs (aI Y A) (aH Y)):=
 (lM h1 hr (bJ _ _ hs)).weak λZ H Q ⟨B,A,Y,ha,r,n,q⟩=>⟨B,A,Y,ha,r,n,q.bind.mono λx A1 b v B1 H1 g1 g l=>⟨B1,A1,Y,g,r.grow n g1,n,((gM.bind b).imp λc A' x=>x.grow ha.hb g1).mono λxs A2 I vs B2 H2 g2 L M=>I _ B2 H2 (g1.trans ha.hb g2) L (.cons (l.same g2.jK) M)⟩⟩
def WrZ(X:Cx)(r:V->List V->Hp->VK->Prop)(h:Nat->List Tr->Ab->Rz Tr):Prop:=
 ∀(B:fg) (A:Ab) (H:Hp) (a:Addr) (i:Nat) (xs:List V) (ts:List Tr) (Q:VK),HA X.K B A H->B.ix a=some i->bM X.K (bZ B H) xs ts->
  gM (XE X B H) (h i ts A) (λt A'=>∀v B' H',Grows B H B' H'->HA X.K B' A' H'->Rep X.K (bZ B' H') v t->Q v H')->r (.ref a) xs H Q
def WK(A:Ab)(i:Nat):Bool:=match A[i]? with
 |some (.lst _)=>true
 |_=>false
def Ss{A:Ab}(q:HA K B A H)(e:B.ix au=some i)(h:WK A i=true):∃xs,H au=some (.lst xs):=by
 obtain⟨o,b,g⟩:=q.ex e;unfold WK at h;rw[b]at h;cases o with
 |lst ts=>obtain⟨_,vs,h1,_⟩:=g;exact⟨vs,h1⟩
 |_=>cases h
def mtL(h:Nat->List Tr->Ab->Rz Tr)(r:Rz Tr)(l:Ab->Rz (List Tr)):Rz Tr:=r.bind λt A=>match t with
 |.at i=>if WK A i=true then(l A).bind λts A=>h i ts A else .bad
 |_=>.bad
variable {r:V->List V->Hp->VK->Prop}{h:Nat->List Tr->Ab->Rz Tr}
theorem WL(slot:Slot "list" av ay)(Ni:typeOf (.builtin ay)=pure (.type "method_descriptor"))(hm:MtM X ay r)(hz:WrZ X r h)(ho:PE X o (tE X aI))(ha:PA X (e::aA) (MN X aH))(pa:PlainAttrs "list":=by exact sH)
  (pH:isCall o=false:=by rfl) (cD:bx (e::aA)=true:=by rfl) (hn:(e::aA).length<30:=by decide) (fQ:(b8.endLine==p.line)=true:=by rfl):
  PE X (.Call (.Attribute o av b8) (e::aA) [] p) (tE X λY A=>mtL h (aI Y A) (aH Y)):=
 (FO pa slot Ni hm ho ha (gq pH) (by rw[jy cD,jj (show(e::aA).length+([]:List Keyword).length+(if([]:List Keyword).isEmpty then 0 else 1)<30 from hn)];rfl) fQ (bJ _ _ (bj cD).1) (cP (bj cD).2)).weak λZ H Q ⟨B,A,Y,ha,r,n,q⟩=>⟨B,A,Y,ha,r,n,q.bind.mono λt A1 b v B1 H1 g1 l L=>by
  split at b
  ·rename_i i;obtain⟨a,rfl,I⟩:=L.nH;obtain⟨M,S⟩:=ig b;obtain⟨xs,g⟩:=Ss l I M;exact⟨.inl ⟨rfl,xs,lL.of g⟩,B1,A1,Y,l,r.grow n g1,n,((gM.bind S).imp λc A' x=>x.grow ha.hb g1).mono λts A2 qs vs B2 H2 g2 pW rs=>hz B2 A2 H2 a i vs ts Q pW (g2.jK.x _ _ I) rs ((qs.imp λc A' x=>x.grow ha.hb (g1.trans ha.hb g2)).mono λt A3 b v B3 H3 g3 Gr r3=>b v B3 H3 ((g1.trans ha.hb g2).trans ha.hb g3) Gr r3)⟩
  ·exact b.elim⟩
def Su(i:Nat):List Tr->Ab->Rz Tr
 |[t],A=>match A[i]? with
  |some (.lst ts)=>if ts.length<eM then .ok .cx (A.set i (.lst (ts++[t])))else .bad
  |_=>.bad
 |_,_=>.bad
def u0:WrZ X FP Su:=by
 intro B A H a i xs ts Q b l rs q;unfold Su at q;split at q
 ·obtain⟨y,rfl,r1⟩:=fT rs;split at q
  ·rename_i n;obtain⟨hz,q⟩:=ig q;obtain⟨hd,vs,h1,h2⟩:=b.get l n;obtain⟨g,r⟩:=b.write (o:=.lst (_++[_])) (u:=.lst (vs++[y])) l ⟨hd,_,bK,by rw[jo hd];exact h2.append (.cons r1 .nil)⟩;exact⟨a,vs,y,rfl,rfl,h1,by rw[h2.length,<-iZ];exact hz,q .cx B _ g r .cx⟩
  ·exact q.elim
 ·exact q.elim
end
def x6(r:Rz Out):Rs Tr:=match r with
 |.ok (.nx _) _=>.ok .cx
 |.ok (.ret t) A=>if vN (aY 3 A t)=true then .ok (aY 3 A t)else .bad
 |_=>.bad
def x8:fI (startT az ts):=λi us e=>by
 rcases qK e with q|⟨u,_,q⟩<;>cases q
theorem y4.okZ {base:Heap}{qual:Str}{st:Stmt}{f:Addr}{fd:FuncData}{N:List Str}{k:Nat}(Fn:y4 K x qual st f fd)(S:g6 N ps (bF st))(len:∀ts t,h ts=.ok t->ts.length=ps.length)
  (kQ:∀(fO:Value) (A:Around) (outer:List Env) (s:Shared) (H:Hp) (E:XK),dc k (A.deeper (envOfC qual (bF st) s.heap.objs.size f fO))->
   ∃G,oK (oG mq P w K mg base N qual (bF st) f fO A outer s H E).Jf (fM st) (tZ (oG mq P w K mg base N qual (bF st) f fO A outer s H E).Jf G)/\∀ts t,h ts=.ok t->jz ts=true/\x6 (G (startT N.length ts) [])=.ok t):d_ P w K mg base mq (k+1) f fd ps (spT K h):=by
 refine Fn.ok S (λvs H Q E q=>?_) (λfO A outer s H vs Q E hr q=>?_)
 ·obtain⟨B,ts,hb,r,t,e,_⟩:=q;rw[r.length];exact len ts t e
 ·obtain⟨B,ts,hb,r,t,e,q⟩:=q;obtain⟨G,hG,hE⟩:=kQ fO A outer s H E hr;obtain⟨na,l⟩:=hE ts t e
  let B0:fg:=⟨B.hd,λ_=>none⟩
  have M:HB B0 H:=hb;have I:HA K B0 [] H:=⟨M,λi o z=>by simp at z,(λa b i z=>by cases(show(none:Option Nat)=some i from z)),(λa i z=>by cases(show(none:Option Nat)=some i from z))⟩;have r0:bM K (bZ B0 H) vs ts:=bM.Kj (W:=bZ B H) (W':=bZ B0 H) (λ_ _ e=>e) r na;have sm:∀{B':fg} {H':Hp},Grows B0 H B' H'->bf H H':=λg b o z=>g.kp b o rfl z;refine⟨_,hG,B0,H,B0,[],startT N.length ts,M,.refl,I,cF.start r0,x8,?_⟩;cases eo:G (startT N.length ts) []with
  |ok o A1=>
   rw[eo]at l;cases o with
   |nx Y=>cases l;exact λdu B' H' g ha r' n'=>q .cx H' (sm g) .cx
   |ret u=>
    have n:(if vN (aY 3 A1 u)=true then Rs.ok (aY 3 A1 u)else .bad)=.ok t:=l;by_cases z:vN (aY 3 A1 u)=true
    ·rw[aV z]at n;cases n;intro v B' H' g ha r';refine q v H' (sm g) (Rep.Kj (λb o z=>?_) (jA ha 3 r') z);have z1:=bG b o z;cases L:B.hd b with
     |false=>rw[fS L];exact z1
     |true=>
      have h2:B'.hd b=true:=g.hd b rfl L;have h3:B'.ix b=none:=by
       cases h4:B'.ix b with
       |none=>rfl
       |some i=>have h5:=g.nw b i h4 rfl;obtain⟨o2,h6⟩:=hb b L;rw[h5]at h6;cases h6
      have z2:(if B'.un.hd b=true then none else H' b)=some o:=z;rw[show B'.un.hd b=(B'.hd b&&(B'.ix b).isNone)from rfl,h2,h3]at z2;cases z2
    ·rw[bb z]at n;cases n
   |_=>cases l
  |_=>rw[eo]at l;cases l
def CM(n m:Nat)(G:bT->Ab->Rz Out)(ts:List Tr):Rs Tr:=if ts.length=n/\jz ts=true then x6 (G (startT m ts) [])else .bad
def Kq{n:Nat}(h:CM n i aK ts=.ok aC):ts.length=n:=by
 unfold CM at h;split at h
 ·rename_i z;exact z.1
 ·cases h
def N5{t:Tr}(h:CM i az aK ts=.ok t):jz ts=true/\x6 (aK (startT az ts) [])=.ok t:=by
 unfold CM at h;split at h
 ·rename_i z;exact⟨z.2,h⟩
 ·cases h
section
theorem WM(h:PA X aA (Ct X L)):PE X (.List aA pos) (tF X λY=>zb (L Y)):=
 (JJ h).weak λZ H Q ⟨B,Y,hb,r,q⟩=>⟨B,Y,hb,r,q.bind.mono λts b vs H1 s1 g=>by
  by_cases hz:ts.length<=eM
  ·rw[aV hz]at b;refine⟨by rw[g.length,<-iZ];exact hz,λp hp=>b (.ref p) _ (s1.AN (s1.free hp)) (.lst ((hb.same s1).new hp) (g.same (bI (bf.upd hp)))) λp' e=>by cases e;exact .upd (s1.free hp) (λ_ _ z=>by cases z)⟩
  ·rw[bb hz]at b;exact b.elim⟩
theorem Sv:PE X (.Dict [] [] pos) (tF X λ_=>.ok (.bW [])):=
 JT.weak λZ H Q ⟨B,Y,hb,r,q⟩ p hp=>q (.ref p) _ (bf.upd hp) (.bW (.inl (hb.new hp)) rfl .nil) λp' e=>by cases e;exact .upd hp (λ_ _ z=>by cases z)
variable {scope:Scope}{N':List Str}{ix:List (Option Nat)}{elt c5:Expr}{ifs:List Expr}{T:oH}{W:bT->Rs (List Tr)}
def zT{Q:VK}(hT:jL T)(q:tF X (λY=>vq ix T aF F (W Y) Y) Z H Q):UM (tI X W) ix (P0 X.K T) (PZ X.K aF) (PY X.K F) Z H Q:=by
 obtain⟨B,Y,hb,r,q⟩:=q;refine⟨B,Y,hb,r,q.bind.mono λts b J H1 s1 gt D g=>?_⟩;by_cases hz:ts.length<=eM
 ·rw[aV hz]at b;exact wa hT (v_ ix Y) (hb.same s1) gt hz ((r.same s1).comp ix (kR g)) g (Fi.bind b) λys H' k s' l=>k _ H' (s1.trans s') l λp e=>by cases e;exact .lst (s1.free g) l
 ·rw[bb hz]at b;exact b.elim
theorem aaD(Lk:gL X N' ix scope)(hi:PI X tg c5 (tI X W))(lD:NI X scope N' tg elt ifs T aF F)(hT:jL T)(hc:X.calm=true:=by rfl) (hs:isSet c5=false:=by rfl):
  PE X (.ListComp elt [⟨tg,c5,ifs,0⟩] scope pos) (tF X λY=>vq ix T aF F (W Y) Y):=
 (J4 Lk hc hi lD.UQ (gn hs)).weak λZ H Q q=>zT hT q
theorem N6(Lk:gL X N' ix scope)(hit:PI X tg c5 (tI X W))(lD:NI X scope N' tg elt ifs T aF F)(hT:jL T)(hN:X.N.Nodup:=by assumption) (hc:X.calm=true:=by rfl) (hi:X.N[i]?=some x:=by rfl) (hx:Loc X.env.scope x:=by first|exact Or.inl rfl|exact Or.inr rfl)
  (Hy:swapsWith (.ListComp elt [⟨tg,c5,ifs,0⟩] scope pos) (some (.Name x p)) b8.line X.env=pure true:=by rfl) (hs:isSet c5=false:=by rfl) (hf:y3 X x:=by first|exact .inl rfl|exact .inr rfl|assumption):
  PS X (.Assign [.Name x p] (.ListComp elt [⟨tg,c5,ifs,0⟩] scope pos) b8) (tZ X λY A'=>AY i (uZ (vq ix T aF F (W (dm A' Y)) (dm A' Y)) A') Y):=
 (xE Lk hc hN hi hx hit lD.UQ Hy (gn hs) hf).weak λD Z H ⟨B0,H0,B,A',Y,hb,g,ha,r,n,q⟩=>zT hT (se (F:=λY=>vq ix T aF F (W Y) Y) (pU (F:=λY A'=>uZ (vq ix T aF F (W (dm A' Y)) (dm A' Y)) A') hb g ha r n q.bind λt A2 v B' H' b g' l I L _=>b _ B' H' g' l (I.set i L) (n.set i t)))
inductive rF(X:Cx)(h:List Tr->Rs Tr)(xs:List V)(H:Hp)(Q:VK):Prop
 |mk (B:fg) (ts:List Tr):HB B H->bM X.K (bZ B H) xs ts->(Fi X H (h ts) fun t=>∀v H',bf H H'->Rep X.K (bZ B H') v t->(∀p,v=.ref p->Sk H H' p)->Q v H')->rF X h xs H Q
theorem Kr(hc:gC X (.type ay) (rF X h))(hm:X.mg x=none)(ha:PA X (e::aA) (Ct X L))(hv:bootBuiltins x=some (.type ay):=by rfl) (hg:Gl X x:=by rfl) (hn:x≠"__name__":=by decide) (fF:Db x:=by decide)
  (cD:bx (e::aA)=true:=by rfl):PE X (.Call (.Name x p) (e::aA) [] pos) (tF X λY=>dG h (L Y)):=
 (uU hc hg hm hv ha hn fF (bJ _ _ (bj cD).1) (cP (bj cD).2)).weak λZ H Q ⟨B,Y,hb,r,q⟩=>⟨B,Y,hb,r,q.bind.mono λts b vs H1 s1 r1=>⟨B,ts,hb.same s1,r1,(b.same s1).mono λt b v H2 s2 g fr=>b v H2 (s1.trans s2) g λp e=>⟨s1.free (fr p e).1,(fr p e).2⟩⟩⟩
theorem N7:gC X (.type "list") (rF X P4):=by
 intro U s Z H xs us Q I b ⟨B,ts,hb,r,q⟩;unfold P4 at q;split at q
 ·obtain⟨x,e,r1⟩:=fT r;obtain⟨o,vs,rfl,h,rr⟩:=r1.dR;exact tX U s Z H _ us Q I b ⟨_,_,e,.inr h.up,λp hp=>q _ _ (bf.upd hp) (.zd hb hp rr) λp' e=>by cases e;exact .upd hp (λ_ _ z=>by cases z)⟩
 ·obtain⟨x,e,r1⟩:=fT r;obtain⟨o,vs,rfl,h,rr⟩:=r1.lst_inv;exact tX U s Z H _ us Q I b ⟨_,_,e,.inl (.of (d7 h)),λp hp=>q _ _ (bf.upd hp) (.zd hb hp rr) λp' e=>by cases e;exact .upd hp (λ_ _ z=>by cases z)⟩
 ·exact q.elim
end
section
variable {H1 H':Hp}{o:Obj}{kvs:List (Key×V)}
theorem Inv.frozen (I:Inv X U Z H s)(ha:H a=some (.dK kvs))(ho:s.heap.get? a=some o):Inv X U Z (upd H a (.lB o (.dK kvs))) s:=by
 have ne:∀{b:Addr} {u:HO},H b=some u->u≠ .dK kvs->b≠a:=λ{b u} e d z=>by subst z;rw[ha]at e;cases e;exact d rfl
 have nn:∀{b:Addr},H b=none->b≠a:=λ{b} e z=>by subst z;rw[ha]at e;cases e
 refine⟨I.ok,I.os,I.bare,⟨I.base.keep,I.base.slot,λb g e n l=>?_,I.base.there,λb xs e=>?_,λb g u e=>?_,λb ps e=>?_⟩,I.loc,I.cell,?_,λx c e=>?_,λp hp=>?_,λb u e=>?_,I.len⟩
 ·have q:=I.base.free b g e n l;rw[bh (nn q)];exact q
 ·have q:=I.base.mL b xs e;rw[bh (ne q (λz=>by cases z))];exact q
 ·have q:=I.base.lC b g u e;rw[bh (ne q (λz=>by cases z))];exact q
 ·obtain⟨m,q⟩:=I.base.nE b ps e;exact⟨m,by rw[bh (ne q (λz=>by cases z))];exact q⟩
 ·rw[bh (nn I.free)];exact I.free
 ·rw[bh (nn (I.fP x c e))];exact I.fP x c e
 ·obtain⟨p1,p2,r⟩:=I.pin p hp;exact⟨p1,by rw[bh (nn p2)];exact p2,r⟩
 ·have ow:∀c d,H c=some (.own d)->upd H a (.lB o (.dK kvs)) c=some (.own d):=λc d q=>by rw[bh (ne q (λz=>by cases z))];exact q
  have tu:∀c xs,H c=some (.tup xs)->upd H a (.lB o (.dK kvs)) c=some (.tup xs):=λc d q=>by rw[bh (ne q (λz=>by cases z))];exact q
  by_cases z:b=a
  ·subst z;rw[bK]at e;cases e;exact⟨ho,(I.cU b _ ha).pD (λ_ _ _ q=>q) (λc q=>ow c b q) tu⟩
  ·rw[bh z]at e;exact(I.cU b u e).pD (λ_ _ _ q=>q) (λc q=>ow c b q) tu
theorem Inv.Sw (I:Inv X U Z H s)(ha:H a=some (.lB o (.dK kvs)))(h0:∀o' u,X.Ca a≠some (.lB o' u)):Inv X U Z (upd H a (.dK kvs)) s:=by
 have ne:∀{b:Addr} {u:HO},H b=some u->u≠ .lB o (.dK kvs)->b≠a:=λ{b u} e d z=>by subst z;rw[ha]at e;cases e;exact d rfl
 have nn:∀{b:Addr},H b=none->b≠a:=λ{b} e z=>by subst z;rw[ha]at e;cases e
 refine⟨I.ok,I.os,I.bare,⟨I.base.keep,I.base.slot,λb g e n l=>?_,I.base.there,λb xs e=>?_,λb g u e=>?_,λb ps e=>?_⟩,I.loc,I.cell,?_,λx c e=>?_,λp hp=>?_,λb u e=>?_,I.len⟩
 ·have q:=I.base.free b g e n l;rw[bh (nn q)];exact q
 ·have q:=I.base.mL b xs e;rw[bh (ne q (λz=>by cases z))];exact q
 ·have q:=I.base.lC b g u e;rw[bh (λz=>by subst z;exact h0 _ _ e)];exact q
 ·obtain⟨m,q⟩:=I.base.nE b ps e;exact⟨m,by rw[bh (ne q (λz=>by cases z))];exact q⟩
 ·rw[bh (nn I.free)];exact I.free
 ·rw[bh (nn (I.fP x c e))];exact I.fP x c e
 ·obtain⟨p1,p2,r⟩:=I.pin p hp;exact⟨p1,by rw[bh (nn p2)];exact p2,r⟩
 ·have ow:∀c d,H c=some (.own d)->upd H a (.dK kvs) c=some (.own d):=λc d q=>by rw[bh (ne q (λz=>by cases z))];exact q
  have tu:∀c xs,H c=some (.tup xs)->upd H a (.dK kvs) c=some (.tup xs):=λc d q=>by rw[bh (ne q (λz=>by cases z))];exact q
  by_cases z:b=a
  ·subst z;rw[bK]at e;cases e;exact(I.cU b _ ha).2.pD (λ_ _ _ q=>q) (λc q=>ow c b q) tu
  ·rw[bh z]at e;exact(I.cU b u e).pD (λ_ _ _ q=>q) (λc q=>ow c b q) tu
structure zU(H H':Hp)(a:Addr)(u u':HO)(kvs:List (Key×V)):Prop where
 fr:H a=some u
 to:H'=upd H a u'
 ok:(u=.dK kvs/\∃o,u'=.lB o (.dK kvs))\/(u'=.dK kvs/\∃o,u=.lB o (.dK kvs))
variable {u u':HO}
def zU.ui (w:zU H H' a u u' kvs){b:Addr}{x:HO}(e:H b=some x)(q:∀k,x≠ .dK k)(h2:∀o k,x≠ .lB o (.dK k)):H' b=some x:=by
 rw[w.to,bh ?_]
 ·exact e
 ·intro z;subst z;rw[w.fr]at e;cases e;rcases w.ok with⟨g,_⟩|⟨_,o,g⟩
  ·exact q _ g
  ·exact h2 _ _ g
def l8{x:HO}(e:(bZ B H).H a=some x)(h:H a=some x->H' a=some x):(bZ B H').H a=some x:=by
 have b:(if B.hd a=true then none else H a)=some x:=e;show(if B.hd a=true then none else H' a)=some x;split at b
 ·cases b
 ·rename_i n;rw[bb n];exact h b
def zU.seq (w:zU H H' a u u' kvs){b:Addr}{xs:List V}(h:lL K (bZ B H).H b xs):lL K (bZ B H').H b xs:=by
 rcases h with(h|⟨o,h⟩)|h
 ·exact .inl (.inl (l8 h λe=>w.ui e (λ_ z=>by cases z) λ_ _ z=>by cases z))
 ·exact .inl (.inr ⟨o,l8 h λe=>w.ui e (λ_ z=>by cases z) λ_ _ z=>by cases z⟩)
 ·exact .inr h
def zU.tup (w:zU H H' a u u' kvs){b:Addr}{xs:List V}(h:jl K (bZ B H).H b xs):jl K (bZ B H').H b xs:=by
 rcases h with(h|⟨o,h⟩)|h
 ·exact .inl (.inl (l8 h λe=>w.ui e (λ_ z=>by cases z) λ_ _ z=>by cases z))
 ·exact .inl (.inr ⟨o,l8 h λe=>w.ui e (λ_ z=>by cases z) λ_ _ z=>by cases z⟩)
 ·exact .inr h
def zU.bW (w:zU H H' a u u' kvs){b:Addr}{ks:List (Key×V)}(h:Rd (bZ B H).H b (.dK ks)):Rd (bZ B H').H b (.dK ks):=by
 by_cases z:b=a
 ·subst z;have hb:B.hd b=false:=by
   cases q:B.hd b with
   |false=>rfl
   |true=>
    have n:(bZ B H).H b=none:=by show(if B.hd b=true then none else H b)=none;rw[aV q]
    rcases h with h|⟨o,h⟩<;>(rw[n]at h;cases h)
  have h':Rd H b (.dK ks):=by unfold Rd at h⊢;rw[fS hb]at h;exact h
  have l:ks=kvs:=by
   rcases h' with h|⟨o,h⟩<;>rw[w.fr]at h<;>rcases w.ok with⟨g,_⟩|⟨_,o',g⟩<;>rw[g]at h<;>cases h<;>rfl
  subst l;unfold Rd;rw[fS hb,w.to,bK];rcases w.ok with⟨_,o',g⟩|⟨g,_⟩
  ·rw[g];exact .inr ⟨o',rfl⟩
  ·rw[g];exact .inl rfl
 ·have r:(bZ B H').H b=(bZ B H).H b:=by
   show(if B.hd b=true then none else H' b)=(if B.hd b=true then none else H b);rw[w.to,bh z]
  unfold Rd;rw[r];exact h
def zU.rep (w:zU H H' a u u' kvs){v:V}{t:Tr}(h:Rep K (bZ B H) v t):Rep K (bZ B H') v t:=by
 refine Rep.rec (motive_1:=λv t _=>Rep K (bZ B H') v t) (motive_2:=λvs ts _=>bM K (bZ B H') vs ts) ?_ ?_ ?_ ?_ ?_ ?_ ?_ ?_ ?_ ?_ ?_ ?_ ?_ ?_ ?_ h
 ·exact .cx
 ·exact λb=>.bl b
 ·exact λi=>.int i
 ·exact λz h=>.str z h
 ·exact λn=>.ty n
 ·exact λh=>.vn (w.seq h)
 ·exact λh _ r=>.tup (w.tup h) r
 ·exact λh _ r=>.lst (l8 h λe=>w.ui e (λ_ z=>by cases z) λ_ _ z=>by cases z) r
 ·exact λh e _ r=>.bW (w.bW h) e r
 ·exact λh=>.at h
 ·exact λh e _ r=>.vo (l8 h λe=>w.ui e (λ_ z=>by cases z) λ_ _ z=>by cases z) e r
 ·exact λh e _ r=>.ob (l8 h λe=>w.ui e (λ_ z=>by cases z) λ_ _ z=>by cases z) e r
 ·exact λh c=>.zG (l8 h λe=>w.ui e (λ_ z=>by cases z) λ_ _ z=>by cases z) c
 ·exact .nil
 ·exact λ_ _ h r=>.cons h r
theorem zU.WN (w:zU H H' a u u' kvs):∀{vs:List V} {ts:List Tr},bM K (bZ B H) vs ts->bM K (bZ B H') vs ts
 |[],_,h=>by cases h;exact .nil
 |_::_,_,h=>by cases h with|cons h r=>exact .cons (w.rep h) (zU.WN w r)
def zU.HQ {Y:bT}(w:zU H H' a u u' kvs)(h:cF K B H Z Y):cF K B H' Z Y:=
 ⟨h.len,λi t e=>by obtain⟨v,b,r⟩:=h.sh i t e;exact⟨v,b,w.rep r⟩,
   λi ts e=>by obtain⟨D,ys,b,g,l,r⟩:=h.ow i ts e;exact⟨D,ys,b,g,w.ui l (λ_ z=>by cases z) (λ_ _ z=>by cases z),w.WN r⟩,h.ap⟩
def zU.hb (w:zU H H' a u u' kvs)(h:HB B H):HB B H':=λb e=>by
 obtain⟨o,q⟩:=h b e;by_cases z:b=a
 ·subst z;rw[w.to];exact⟨_,bK⟩
 ·exact⟨o,by rw[w.to,bh z];exact q⟩
def HR(X:Cx)(B:fg)(H H':Hp):Prop:=bf H H'\/∃H1 a o kvs,bf H H1/\B.hd a=false/\H1 a=some (.dK kvs)/\H'=upd H1 a (.lB o (.dK kvs))/\∀o u,X.Ca a≠some (.lB o u)
def kT(X:Cx)(H:Hp)(k:Hp->Prop):Prop:=k H\/∃a o kvs,H a=some (.lB o (.dK kvs))/\(∀o u,X.Ca a≠some (.lB o u))/\k (upd H a (.dK kvs))
def kT.inv {k:Hp->Prop}(q:kT X H k)(I:Inv X U Z H s):∃H',Inv X U Z H' s/\k H':=by
 rcases q with q|⟨a,o,kvs,e,h0,q⟩
 ·exact⟨H,I,q⟩
 ·exact⟨_,I.Sw e h0,q⟩
def PE.UT {t:TE}(h:PE X e t):PE X e (λZ H Q=>t Z H λv H'=>kT X H' (Q v)):=λU s Z H Q I q=>
 eC (h U s Z H _ I q) λu s' ⟨v,H',b,r,z⟩=>by
  obtain⟨H2,g,l⟩:=z.inv b;exact⟨v,H2,g,r,l⟩
def Ends.UT (X:Cx)(D:Ends):Ends:=⟨λZ H=>kT X H (D.nx Z),λv H=>kT X H (D.rt v),λZ H=>kT X H (D.bk Z),λZ H=>kT X H (D.ct Z)⟩
theorem PS.UT {st:Stmt}{t:TS}(h:PS X st t):PS X st (λD Z H=>t (D.UT X) Z H):=λU s Z H D I q=>
 eC (h U s Z H _ I q) λf s' z=>by
  cases f with
  |next=>obtain⟨du,H',b,z⟩:=z;obtain⟨H2,g,l⟩:=kT.inv z b;exact⟨du,H2,g,l⟩
  |brk=>obtain⟨du,H',b,z⟩:=z;obtain⟨H2,g,l⟩:=kT.inv z b;exact⟨du,H2,g,l⟩
  |cont=>obtain⟨du,H',b,z⟩:=z;obtain⟨H2,g,l⟩:=kT.inv z b;exact⟨du,H2,g,l⟩
  |ret u=>obtain⟨v,du,H',b,r,z⟩:=z;obtain⟨H2,g,l⟩:=kT.inv z b;exact⟨v,du,H2,g,r,l⟩
theorem HR.HQ {Y:bT}(h:HR X B H H')(r:cF K B H Z Y):cF K B H' Z Y:=by
 rcases h with s|⟨H1,a,o,kvs,s,b,ha,rfl,h0⟩
 ·exact r.same s
 ·exact zU.HQ (u:=.dK kvs) ⟨ha,rfl,.inl ⟨rfl,o,rfl⟩⟩ (r.same s)
theorem HR.hb (h:HR X B H H')(r:HB B H):HB B H':=by
 rcases h with s|⟨H1,a,o,kvs,s,b,ha,rfl,h0⟩
 ·exact r.same s
 ·exact zU.hb (u:=.dK kvs) ⟨ha,rfl,.inl ⟨rfl,o,rfl⟩⟩ (r.same s)
theorem HR.free {p:Addr}(h:HR X B H H')(e:H' p=none):H p=none:=by
 rcases h with s|⟨H1,a,o,kvs,s,b,ha,rfl,h0⟩
 ·exact s.free e
 ·refine s.free ?_
  by_cases z:p=a
  ·subst z;rw[bK]at e;cases e
  ·rw[bh z]at e;exact e
def HR.back {H2:Hp}{B2:fg}{C:fg}(h:HR X B H H')(si:d9 C B H' B2 H2):∃Hu,d9 C B H B2 Hu/\(∀{K:Frag} {B3:fg} {v:V} {t:Tr},Rep K (bZ B3 H2) v t->Rep K (bZ B3 Hu) v t)/\(∀{K:Frag} {Z:St} {Y:bT},cF K B2 H2 Z Y->cF K B2 Hu Z Y)/\∀k:Hp->Prop,k Hu->kT X H2 k:=by
 rcases h with s|⟨H1,a,o,kvs,s,L,ha,rfl,h0⟩
 ·exact⟨H2,⟨λb o c e=>si.kp b o c (s _ _ e),(bI s).trans si.jK,si.sub,si.hb⟩,λr=>r,λr=>r,λk q=>.inl q⟩
 ·have M:(bZ B (upd H1 a (.lB o (.dK kvs)))).H a=some (.lB o (.dK kvs)):=by rw[fS L];exact bK
  have g:=si.jK.h _ _ M;have I:H2 a=some (.lB o (.dK kvs)):=bG _ _ g;have w:zU H2 (upd H2 a (.dK kvs)) a (.lB o (.dK kvs)) (.dK kvs) kvs:=⟨I,rfl,.inr ⟨rfl,o,rfl⟩⟩;have l:B2.hd a=false:=by
   cases q:B2.hd a with
   |false=>rfl
   |true=>
    have n:(bZ B2 H2).H a=none:=by show(if B2.hd a=true then none else H2 a)=none;rw[aV q]
    rw[n]at g;cases g
  refine⟨upd H2 a (.dK kvs),⟨λb ob c e=>?_,⟨λb ob e=>?_,λb i e=>?_⟩,si.sub,w.hb si.hb⟩,λr=>w.rep r,λr=>w.HQ r,λk q=>.inr ⟨a,o,kvs,I,h0,q⟩⟩
  ·have q:=s _ _ e;by_cases z:b=a
   ·subst z;rw[ha]at q;cases q;exact bK
   ·rw[bh z];exact si.kp b ob c (by rw[bh z];exact q)
  ·by_cases z:b=a
   ·subst z;have q:=s _ _ (bG _ _ e);rw[ha]at q;cases q;rw[fS l];exact bK
   ·have q:(bZ B (upd H1 a (.lB o (.dK kvs)))).H b=some ob:=l8 e λe=>by rw[bh z];exact s _ _ e
    exact l8 (si.jK.h _ _ q) λe=>by rw[bh z];exact e
  ·exact si.jK.x b i e
def HR.Qd {H2:Hp}(h:HR X B H H')(hb:HB B H)(s2:bf H' H2):∃q,bf H q/\(∀{K:Frag} {B3:fg} {v:V} {t:Tr},Rep K (bZ B3 H2) v t->Rep K (bZ B3 q) v t)/\∀k:Hp->Prop,k q->kT X H2 k:=by
 obtain⟨q,g,r,_,k⟩:=h.back (C:=B) (B2:=B) (H2:=H2) ⟨λb o _ e=>s2 _ _ e,bI s2,.refl,(h.hb hb).same s2⟩;exact⟨q,g.same,r,k⟩
end
def Itd(a:Addr)(o:Obj)(kvs:List (Key×V)):It:=
 ⟨λi H=>H a=some (.lB o (.dK kvs))/\i<kvs.length,λi H x H'=>H'=H/\∃k v,kvs[i]?=some (k,v)/\x=kV k,λi H=>H a=some (.lB o (.dK kvs))/\kvs.length<=i⟩
def A5{kvs:List (Key×V)}{vs:List (Key×Value)}(r:KV kvs vs){k:Key}{v:V}(e:kvs[i]?=some (k,v)):∃u,vs[i]?=some (k,u):=by
 have b:Paired _ kvs vs:=r
 clear r
 induction b generalizing i with
 |nil=>simp at e
 |cons h t g=>
  cases i with
  |zero=>
   simp at e;subst e;rename_i q _ _;obtain⟨n,l⟩:=q;cases h.1;exact⟨l,rfl⟩
  |succ j=>exact g (by simpa using e)
def sg{kvs:List (ag×V)}{vs:List (ag×Value)}(r:KV kvs vs):kvs.length=vs.length:=by
 have b:Paired _ kvs vs:=r
 clear r
 induction b with
 |nil=>rfl
 |cons h t g=>rw[dt,dt,g]
theorem HS(a it:Addr)(o:Obj)(kvs:List (Key×V))(es:Array DictEntry)(ep:Nat)(hd:o.data=.dict es ep):Turn P w K tg (Itd a o kvs) [it] it (λi h=>h.IsKeyIter it a i kvs.length ep) where
 mem:=by simp
 obj:=λi h st b hb=>by
  have e:b=it:=by simpa using hb
  subst e;obtain⟨o,e,c,d⟩:=st;exact⟨o,e,λv z=>by rw[d]at z;cases z⟩
 keep:=λi h h' st k=>by
  obtain⟨o,e,c⟩:=st;exact⟨o,k it (by simp) o e,c⟩
 item:=by
  intro X r hw L hc i U s Z H E I hf st ⟨M,hi⟩;subst r hw L;obtain⟨g,hz,hs,vs,rv,o',AB,Jr,h1,h2,l,S⟩:=(show cV X.prog X.w H s.heap a (.lB o (.dK kvs))from I.cU a _ M);rw[g]at h1;cases h1;rw[hd]at l;cases l;obtain⟨f0,f1,f2,q,f4,f5⟩:=hf it (by simp);have n:=sg rv;have ex:kvs[i]?=some (kvs[i].1,kvs[i].2):=by simp[hi]
  obtain⟨u,hu⟩:=A5 rv ex;rw[n]at st;refine wpAny_pyNext_dict_item (knd:=cj X.prog X.w) st ⟨o,es,g,h2,hd,S⟩ hu λkey h' hk xo sb=>?_
  have I1:Inv X U Z H {s with heap:=h'}:=I.turned (t':=s.toks) (λb o hb e=>(sb.2 b hb).trans e) f0 f1 q f4 f5;obtain⟨oi,e,c,d⟩:=id xo;refine⟨key,rfl,zw (s:={s with heap:=h'}) e c d (by decide) ⟨kV kvs[i].1,H,I1,?_,⟨rfl,_,_,ex,rfl⟩,by rw[n];exact xo,λb hb=>(hf b hb).1⟩⟩;rcases dN hk with⟨j,t,e1,e2⟩|⟨y,t,e1,e2⟩
  ·rw[e1,e2];exact⟨t,rfl⟩
  ·rw[e1,e2];exact⟨t,rfl⟩
 done:=by
  intro X r hw L hc i U s Z H E I hf st ⟨M,hi⟩;subst r hw L;obtain⟨g,hz,hs,vs,rv,o',AB,Jr,h1,h2,l,S⟩:=(show cV X.prog X.w H s.heap a (.lB o (.dK kvs))from I.cU a _ M);rw[g]at h1;cases h1;rw[hd]at l;cases l;obtain⟨f0,f1,f2,q,f4,f5⟩:=hf it (by simp);have n:=sg rv;rw[n]at st;exact wpAny_pyNext_dict_end (knd:=cj X.prog X.w) (I.ok.hd hc) st ⟨o,es,g,h2,hd,S⟩ (List.getElem?_eq_none (by rw[<-n];exact hi)) λh' eb=>⟨rfl,I.turned (t':=s.toks) (λb o hb e=>eb b o hb e) f0 f1 q f4 f5⟩
 self:=λ_ _ _ _ _ st h=>wpAny_pyIter_keyiter st h
def zV:Key->Tr
 |.inl i=>.int i
 |.inr z=>.str z
def keyOk:Key->Bool
 |.inl _=>true
 |.inr z=>decide (z.length<=cY)
def zW{W:Vw}{k:Key}(h:keyOk k=true):Rep K W (kV k) (zV k):=by
 cases k with
 |inl i=>exact .int i
 |inr z=>exact .str z (eK h)
def CN(bB:List (Key×Tr)):Rs (List Tr):=if bB.all (λp=>keyOk p.1)=true then .ok (bB.map λp=>zV p.1)else .bad
def Ks(r:Rs Tr):Rs (List Tr):=r.bind λt=>match t with
 |.bW bB=>CN bB
 |_=>.bad
inductive tJ(X:Cx)(W:bT->Rs (List Tr))(Z:St)(H:Hp)(R:It->Hp->Prop):Prop
 |mk (B:fg) (Y:bT):HB B H->cF X.K B H Z Y->(Fi X H (W Y) fun ts=>∀J H',HR X B H H'->lP X.K B J H' ts->R J H')->tJ X W Z H R
theorem EJ{o:Obj}{kvs:List (Key×V)}(h:(bZ B H).H a=some (.lB o (.dK kvs)))(e:kvs.map (·.1)=aG.map (·.1))(hk:aG.all (λp=>keyOk p.1)=true):lP K B (Itd a o kvs) H (aG.map λp=>zV p.1):=by
 have l:kvs.length=aG.length:=by have q:=cT List.length e;rw[bt,bt]at q;exact q
 refine⟨λi B' H' hi s hb=>⟨bG _ _ (s.h _ _ h),by rw[bt]at hi;rw[l];exact hi⟩,λi B' H' x L hi s hb ⟨r,k,v,I,ex⟩=>?_,λB' H' s=>⟨bG _ _ (s.h _ _ h),by rw[bt,l];exact bz _⟩⟩;subst r ex;have b:(kvs.map (·.1))[i]?=some k:=by rw[b_,I];rfl
 rw[e,b_]at b;cases g:aG[i]? with
 |none=>rw[g]at b;cases b
 |some p=>
  rw[g]at b;have n:p.1=k:=Option.some.inj b;refine⟨bf.refl _,zV k,by rw[b_,g,<-n];rfl,zW ?_⟩;rw[<-n];exact dz.mp hk p (dZ g)
section
theorem WO(hl:PE X am (tP X F)):PI X tg am (tJ X λY=>Ks (F Y)):=by
 intro U s Z H R I ⟨B,Y,hb,r,q⟩;refine eC (hl U s Z H (λx H1=>∃(a:Addr) (kvs:List (Key×V)) (bB:List (Key×Tr)),x=.ref a/\bf H H1/\Rd (bZ B H1).H a (.dK kvs)/\kvs.map (·.1)=bB.map (·.1)/\bB.all (λp=>keyOk p.1)=true/\∀J H',HR X B H H'->lP X.K B J H' (bB.map λp=>zV p.1)->R J H') I ⟨B,Y,hb,r,q.bind.mono λt M v H1 s1 r1=>?_⟩) λv s1 ⟨x,H1,l,r1,a,kvs,bB,ex,sm,rd,ek,hk,k⟩=>?_
 ·skip
  split at M
  ·obtain⟨a,kvs,S,h,e,rr⟩:=r1.nG;obtain⟨z,q1⟩:=gD M;exact⟨a,kvs,_,S,s1,h,e,z,q1⟩
  ·exact M.elim
 ·subst ex;cases r1;have L:Rd H1 a (.dK kvs):=rd.same bG;have hv:B.hd a=false:=by
   cases z:B.hd a with
   |false=>rfl
   |true=>
    have n:(bZ B H1).H a=none:=by show(if B.hd a=true then none else H1 a)=none;rw[aV z]
    rcases rd with h|⟨o,h⟩<;>(rw[n]at h;cases h)
  obtain⟨hz,hs,vs,rv,o,es,ep,h1,h2,h3,h4⟩:=(show cV X.prog X.w H1 s1.heap a (.dK kvs)from L.ok l.cU);refine wpAny_pyIter_dict (knd:=cj X.prog X.w) hs ⟨o,es,h1,h2,h3,h4⟩ ?_
  have fin:∀{H2:Hp},Inv X U Z H2 s1->H2 a=some (.lB o (.dK kvs))->HR X B H H2->Y' X U Z tg R (.ref s1.heap.objs.size) {s1 with heap:=s1.heap.push {cls:=.type "dict_keyiterator",data:=.fields #[.ref a,.int 0 0,.int vs.length 0,.int ep 0]}}:=λ{H2} I2 e2 tf=>
   ⟨s1.heap.objs.size,[s1.heap.objs.size],_,Itd a o kvs,H2,rfl,I2.kept (t':=s1.toks) λb o e=>bP _ e,HS a _ o kvs es ep h3,⟨_,cp _ rfl,rfl,by rw[sg rv];rfl⟩,λb hb=>by
    have e:b=s1.heap.objs.size:=by simpa using hb
    subst e;exact I2.xn (bz _) (I2.cU.fresh (bz _)),k _ H2 tf (EJ (by rw[fS hv];exact e2) ek hk)⟩
  rcases L with g|⟨o',g⟩
  ·refine fin (l.frozen g h1) bK (.inr ⟨H1,a,o,kvs,sm,hv,g,rfl,λo' u S=>?_⟩);have q:=l.base.lC a o' u S;rw[g]at q;cases q
  ·have eo:o'=o:=by
    have q:=(show cV X.prog X.w H1 s1.heap a (.lB o' (.dK kvs))from l.cU a _ g).1;rw[h1]at q;cases q;rfl
   subst eo;exact fin l g (.inl sm)
variable {a b:Expr}{es:List Expr}{A:bT->Rs Bool}{scope:Scope}{N':List Str}{ix:List (Option Nat)}{elt c5:Expr}{ifs:List Expr}{T:oH}{W:bT->Rs (List Tr)}
def HU{Q:VK}(hT:jL T)(q:tP X (λY=>vq ix T A F (W Y) Y) Z H Q):UM (tJ X W) ix (P0 X.K T) (PZ X.K A) (PY X.K F) Z H (λv H'=>kT X H' (Q v)):=by
 obtain⟨B,Y,hb,r,q⟩:=q;refine⟨B,Y,hb,r,q.bind.mono λts b J H1 g gt D l=>?_⟩;by_cases hz:ts.length<=eM
 ·rw[aV hz]at b;exact wa hT (v_ ix Y) (g.hb hb) gt hz ((g.HQ r).comp ix (kR l)) l (Fi.bind b) λys H' k s' n=>by
   obtain⟨I,L,M,S⟩:=g.Qd hb s';exact S _ (k _ I L (M n))
 ·rw[bb hz]at b;exact b.elim
theorem WQ(Lk:gL X N' ix scope)(hi:PI X tg c5 (tJ X W))(lD:NI X scope N' tg elt ifs T A F)(hT:jL T)(hc:X.calm=true:=by rfl) (hs:isSet c5=false:=by rfl):
  PE X (.ListComp elt [⟨tg,c5,ifs,0⟩] scope pos) (tP X λY=>vq ix T A F (W Y) Y):=
 (J4 Lk hc hi lD.UQ (gn hs)).UT.weak λZ H Q q=>HU hT q
theorem Sx{G:bT->Rs Out}(hi:PI X tg c5 (tJ X W))(hg:PG X tg (tG X T))(hb:oK X ah (tS X G))(hp:PassesOwn (model X.prog X.w) X.A X.env X.xe:=by exact pj) (hc:X.calm=true:=by rfl)
  (hs:isSet c5=false:=by rfl):PS X (.For tg c5 ah [] pos) (tS X λY=>F3 T G (W Y) Y):=
 (Ed hp hc hi hg hb (gn hs)).UT.weak λD Z H ⟨C,B0,H0,B,Y,b,r,q⟩=>⟨B,Y,b.hb,r,(q.bind.here b).mono λts qt J H1 M gt=>by
  have si0:d9 B B H1 B H1:=d9.refl (M.hb b.hb) .refl;have fin:∀{c:Tr},xS X C B0 H0 c->False:=λ{c} xc=>xc B H b;have qt:=qJ.imp (UN:=λ_=>False) qt λc xc=>(fin xc).elim;refine⟨λi m du H'=>m=ts.length - i/\i<=ts.length/\∃B' iu,d9 C B H1 B' H'/\cF X.K B' H' du iu/\qJ (λ_=>False) (zc T G (ts.drop i) iu) (Eu X D C B0 H0),⟨_,rfl,d5 _,B,Y,d9.refl (M.hb b.hb) b.sub,M.HQ r,qt⟩,?_⟩
  rintro i m du H' ⟨rfl,hi,B',iu,l,r',q'⟩
  by_cases gm:i<ts.length
  ·rw[oN gm]at q';refine .inr ⟨gt.go i B' H' gm l.jK l.hb,λv8 H2=>∃B2 g,d9 C B H1 B2 H2/\cF X.K B2 H2 v8 g/\qJ (λ_=>False) (zc T G (ts.drop (i+1)) g) (Eu X D C B0 H0),
    λv8 H2 ⟨B2,g,x1,x2,x3⟩=>⟨ts.length - (i+1),by omega,rfl,gm,B2,g,x1,x2,x3⟩,λx H2 hx=>?_⟩
   obtain⟨s2,t,et,rt⟩:=gt.FI i B' H' x H2 gm l.jK l.hb hx;have R0:ts[i]=t:=by rw[bV gm]at et;exact Option.some.inj et
   rw[R0]at q';have si2:=l.go s2;have qq:qJ (λ_=>False) (T t iu) _:=qJ.bind q';refine⟨B',iu,t,si2.hb,r'.same s2,rt,(qJ.imp qq λc z=>z.elim).mono λrA q1 M6 H3 s3 r3=>?_⟩;have S:=si2.go s3;refine⟨C,B',H3,B',rA,d9.refl S.hb S.sub,r3,((qJ.bind q1).imp λc z=>z.elim).mono λo qo=>?_⟩;cases o with
   |nx g=>exact λKo n H4 I L=>⟨n,g,S.trans I,L,qo⟩
   |ct g=>exact λKo n H4 I L=>⟨n,g,S.trans I,L,qo⟩
   |bk g=>
    intro Ko n H4 I L;obtain⟨Hu,su,ru,rs,ku⟩:=M.back (S.trans I);exact ku _ (qo Ko n Hu (b.trans su) (rs L))
   |ret t=>
    intro v n H4 I L;obtain⟨Hu,su,ru,rs,ku⟩:=M.back (S.trans I);exact ku _ (qo v n Hu (b.trans su) (ru L))
  ·have e:i=ts.length:=by omega
   subst e;rw[o7]at q';obtain⟨Hu,su,ru,rs,ku⟩:=M.back l;exact .inl ⟨gt.stop B' H' l.jK,ku _ (q' du B' Hu (b.trans su) (rs r'))⟩⟩
end
theorem sj{α:Type}:∀(l:List α) (i:Nat) (hi:i<l.length),(l[i]::l.eraseIdx i).Perm l
 |x::r,0,_=>List.Perm.refl _
 |x::r,i+1,hi=>by
  have b:=sj r i (by simpa using hi);have g:i<r.length:=by simpa using hi
  show(r[i]::x::r.eraseIdx i).Perm (x::r);exact(List.Perm.swap _ _ _).trans (b.cons x)
def EK{M:Model}{src:Source}{Q:Nat->Shared->Prop}(q:az≠0)(h:∀i,i<az->∀d,Q i {s with drawn:=d}):wpAny M A (choose src az) Q E s:=λb p _=>by
 unfold choose;rw[Sem.wp];refine⟨q,?_⟩;rw[Sem.wp];exact h _ (Nat.mod_lt _ (Nat.pos_of_ne_zero q)) _
theorem rE{M:Model}{α:Type}:∀(n:Nat) (xs:List α) (s:Shared) (Q:List α->Shared->Prop),xs.length=n->(∀ys d,ys.Perm xs->Q ys {s with drawn:=d})->wpAny M A (drawOrder n xs) Q E s
 |0,xs,s,Q,b,h=>by
  cases xs with
  |nil=>exact bc (h [] s.drawn (List.Perm.refl _))
  |cons _ _=>cases b
 |n+1,[],s,Q,b,h=>by cases b
 |n+1,x::r,s,Q,b,h=>by
  unfold drawOrder;refine aS (EK (by simp) λi hi d=>?_);have g:(x::r)[i]?=some (x::r)[i]:=bV hi
  rw[g];dsimp only;refine aS (rE n _ _ _ (by rw[B6 hi];simpa using b) λys d' hp=>?_);refine bc (h _ d' ?_);exact(hp.cons _).trans (sj _ i hi)
noncomputable abbrev BX(w:World):Bool:=w.params.followText "set-order"
def ent(w:World)(p:Str×Tok):Int×Value:=(hashStr w p.1,.str p.1 p.2)
def lE(w:World)(h:Heap)(a:Addr)(ss:List Str):Prop:=
 ∃(o:Obj) (es:Array (Int×Value)) (ep:Nat) (t:SetTable) (l:List (Str×Tok)),h.get? a=some o/\o.ExactSet/\o.data=.set es ep t/\es.toList=l.map (ent w)/\(l.map (·.1)).Perm ss/\ss.Nodup/\es.size<scanBound/\
  t.fits es.size=true/\(BX w=true\/t.led=true)/\(es.size≠0->t.plain=false)
theorem HV{l:List (Str×Tok)}:ElemsOf (PySem.strKind P w) (l.map (ent w)):=λe he=>by
 obtain⟨p,_,rfl⟩:=cE.mp he;exact⟨⟨p.1,by simp[PySem.strKind,ent,Value.isStrOf],rfl⟩,rfl⟩
def lE.typeIs {ss:List Str}(h:lE w s.heap a ss):s.TypeIs (.ref a) "set":=by
 obtain⟨o,_,_,_,_,b,g,_⟩:=h;exact⟨o,b,g.1⟩
def ze(t:SetTable)(n:Nat):(t.orStandIn n).led=t.led:=by
 unfold SetTable.orStandIn;split<;>rfl
def N8(t:SetTable)(j:Nat):(t.put j).1.led=t.led:=by
 unfold SetTable.put
 rfl
def EL(t:SetTable)(es:Array (Int×Value))(h:Int)(x:Value):(layNew t es h x).2.1.led=t.led:=by
 unfold layNew;split
 ·dsimp only;rw[ze,N8]
 ·rfl
theorem EM{t t':SetTable}{hs:Array Int}{o:Array Nat}(h:t.relaid hs i=some (t',o)):t'.led=t.led/\t'.plain=t.plain:=by
 unfold SetTable.relaid SetTable.laid at h;simp only[bind,Option.bind]at h;split at h
 ·cases h
 ·cases h;exact⟨rfl,rfl⟩
def A6(t:SetTable)(es:Array (Int×Value))(n:Nat):(relayAll t es n).2.1.led=t.led/\(t.plain=false->(relayAll t es n).2.1.plain=false):=by
 unfold relayAll;split
 ·rename_i t' o e;have q:=EM e;dsimp only;split
  ·exact⟨q.1,λz=>q.2.trans z⟩
  ·exact⟨rfl,λ_=>rfl⟩
 ·exact⟨rfl,λ_=>rfl⟩
theorem zX(x:Str)(p:Str×Tok):(PySem.strKind P w).is x (ent w p).2=decide (x=p.1):=by
 have h:(PySem.strKind P w).is p.1 (ent w p).2=true:=by simp[PySem.strKind,ent,Value.isStrOf]
 exact KeyKind.is_eq_decide h x
def x9{h:Heap}{o:Obj}{es:Array (Int×Value)}{t:SetTable}(ho:h.get? a=some o)(hex:o.ExactSet)(hd:o.data=.set es i t){AB:Array (Int×Value)}{t':SetTable}{l':List (Str×Tok)}{BY:List Str}
  (he:AB.toList=l'.map (ent w)) (hp:(l'.map (·.1)).Perm BY) (hn:BY.Nodup) (hb:AB.size<scanBound) (hf:t'.fits AB.size=true) (hl:BX w=true\/t'.led=true) (oF:AB.size≠0->t'.plain=false):
  (h.update a (Obj.putSet AB t')).get? a=some {o with data:=.set AB (i+1) t'}/\lE w (h.update a (Obj.putSet AB t')) a BY:=by
 have b:(h.update a (Obj.putSet AB t')).get? a=some {o with data:=.set AB (i+1) t'}:=by
  have q:=sN (Obj.putSet AB t') ho (by rw[putSet_of AB t' hd];rfl);rw[putSet_of AB t' hd]at q;exact q
 exact⟨b,_,AB,i+1,t',l',b,hex,rfl,he,hp,hn,hb,hf,hl,oF⟩
def HW{l:List (Str×Tok)}{u:Tok}{es:List (Int×Value)}(hp:es.Perm (l.map (ent w)++[(hashStr w x,.str x u)])):∃l':List (Str×Tok),es=l'.map (ent w)/\l'.Perm (l++[(x,u)]):=by
 have e:l.map (ent w)++[(hashStr w x,Value.str x u)]=(l++[(x,u)]).map (ent w):=by rw[ke];rfl
 rw[e]at hp;have back:∀(Ay:List (Str×Tok)) (es:List (Int×Value)),es.Perm (Ay.map (ent w))->∃l':List (Str×Tok),es=l'.map (ent w)/\l'.Perm Ay:=by
  intro Ay es hp
  let f:Int×Value->Str×Tok:=λe=>match e.2 with
   |.str y t=>(y,t)
   |_=>(x,u)
  have fe:∀p,f (ent w p)=p:=λp=>rfl;have b:∀e∈es,ent w (f e)=e:=λe he=>by
   obtain⟨p,_,rfl⟩:=cE.mp (hp.mem_iff.mp he);rw[fe]
  refine⟨es.map f,?_,?_⟩
  ·rw[cL]
   conv=>lhs;rw[<-kN es]
   exact gW λe he=>(b e he).symm
  ·have h2:=hp.map f;rw[cL]at h2;have g:List.map (f∘ent w) Ay=Ay:=by
    conv=>rhs;rw[<-kN Ay]
    exact gW λp _=>fe p
   rw[g]at h2;exact h2
 exact back _ _ hp
def x_{l:List (Str×Tok)}{es:List (Int×Value)}(hp:es.Perm (l.map (ent w))):∃l':List (Str×Tok),es=l'.map (ent w)/\l'.Perm l:=by
 let f:Int×Value->Str×Tok:=λe=>match e.2 with
  |.str y t=>(y,t)
  |_=>(Str.empty,0)
 have fe:∀p,f (ent w p)=p:=λp=>rfl;have b:∀e∈es,ent w (f e)=e:=λe he=>by
  obtain⟨p,_,rfl⟩:=cE.mp (hp.mem_iff.mp he);rw[fe]
 refine⟨es.map f,?_,?_⟩
 ·rw[cL]
  conv=>lhs;rw[<-kN es]
  exact gW λe he=>(b e he).symm
 ·have h2:=hp.map f;rw[cL]at h2;have g:List.map (f∘ent w) l=l:=by
   conv=>rhs;rw[<-kN l]
   exact gW λp _=>fe p
  rw[g]at h2;exact h2
theorem CO{g:Bool->Sem Unit}(hg:∀(b:Bool) (dg:Shared) (Q':Unit->Shared->Prop),Q' () dg->wpAny (model P w) A (g b) Q' E dg){o:Obj}{es:Array (Int×Value)}{t:SetTable}
  (ho:s.heap.get? a=some o) (hex:o.ExactSet) (hd:o.data=.set es i t) {vO:Array (Int×Value)} {t2:SetTable} {l1:List (Str×Tok)}
  (he1:vO.toList=l1.map (ent w)) (hp1:(l1.map (·.1)).Perm ps) (hn1:ps.Nodup) (AZ:vO.size<scanBound) (hf2:t2.fits vO.size=true) (MT:BX w=true\/t2.led=true) (WR:t2.plain=false) {CQ:Bool} {R:Option Bool->Shared->Prop}
  (h:∀h',Heap.SameBut a s.heap h'->lE w h' a ps->R (some true) {s with heap:=h'}):
  wpAny (model P w) A (do
    storeSet a vO t2
    if(!CQ&&t2.tooFull)=true then do
       g (relayAll t2 vO (SetTable.grown vO.size)).2.2
       storeSet a (relayAll t2 vO (SetTable.grown vO.size)).1 (relayAll t2 vO (SetTable.grown vO.size)).2.1
       pure (some true)
     else pure (some true)) R E s:=by
 refine aS (wpAny_storeSet_of ho hd ?_ (xi AZ));obtain⟨M,WS⟩:=x9 (w:=w) ho hex hd he1 hp1 hn1 AZ hf2 MT λ_=>WR;have l:=oX s.heap a (Obj.putSet vO t2);split
 ·have hp:=relayAll_perm t2 vO (SetTable.grown vO.size);have I:=relayAll_fits t2 vO (SetTable.grown vO.size);have r:=A6 t2 vO (SetTable.grown vO.size);generalize relayAll t2 vO (SetTable.grown vO.size)=Rl at hp I r⊢;obtain⟨n,t3,abr⟩:=Rl;dsimp only at hp I r⊢;rw[he1]at hp;obtain⟨l2,e2,p2⟩:=x_ hp;have hsz:n.size=vO.size:=by
   have q:=hp.length_eq;rw[<-he1,gc,gc]at q;exact q
  have S:n.size<scanBound:=by rw[hsz];exact AZ
  refine aS (hg _ _ _ ?_);refine aS (wpAny_storeSet_of M rfl ?_ (xi S));obtain⟨_,L⟩:=x9 (w:=w) (h:=s.heap.update a (Obj.putSet vO t2)) M hex rfl e2 ((p2.map _).trans hp1) hn1 S I (MT.imp id λz=>r.1.trans z) λ_=>r.2 WR;exact bc (h _ (l.trans (oX _ a _)) L)
 ·exact bc (h _ l WS)
noncomputable def gG(ss:List Str)(x:Str):List Str:=if x∈ss then ss else ss++[x]
theorem aaE{ss:List Str}{u:Tok}{Q:Bool->Shared->Prop}(hS:lE w s.heap a ss)(CT:ss.length+1<scanBound)
  (h:∀b h',Heap.SameBut a s.heap h'->lE w h' a (gG ss x)->Q b {s with heap:=h'}):wpAny (model P w) A (setAddHashed a (.str x u) (hashStr w x)) Q E s:=by
 obtain⟨o,es,ep,t,l,ho,hex,hd,he,hp,hn,hb,hf,hl,oF⟩:=id hS;have I:ElemsOf (PySem.strKind P w) es.toList:=by rw[he];exact HV
 have b9:es.size=ss.length:=by
  have q:=cT List.length he;rw[gc,bt]at q;have q2:=hp.length_eq;rw[bt]at q2;omega
 have JE:(PySem.strKind P w).is x (.str x u)=true:=by simp[PySem.strKind,Value.isStrOf]
 unfold setAddHashed setAddHashedIn;refine fw (aS (kI ho hd hf ?_));dsimp only;rw[byScan_of (knd:=PySem.strKind P w) rfl hb I];simp only[↓reduceIte];unfold setAddByScan;refine aS ?_
 refine aS (fE ?_);refine aS (wpAny_setScan_of (knd:=PySem.strKind P w) JE ho hd hf I ?_);have HX:x∈ss↔∃e∈es.toList,(PySem.strKind P w).is x e.2=true:=by
  rw[he,<-hp.mem_iff];constructor
  ·intro m;obtain⟨p,Qf,rfl⟩:=cE.mp m;exact⟨ent w p,gf Qf,by rw[zX];simp⟩
  ·rintro ⟨e,n,r⟩
   obtain⟨p,Qf,rfl⟩:=cE.mp n;rw[zX,iy]at r;rw[r];exact gf Qf
 cases hr:List.findIdx? (λe=>(PySem.strKind P w).is x e.2) es.toList with
 |some j=>
  dsimp only;obtain⟨hj,hpj,_⟩:=BZ.mp hr;have r:x∈ss:=HX.mpr ⟨es.toList[j],kJ hj,hpj⟩;refine bc (bc ?_);have q:=h false s.heap (Heap.SameBut.refl a s.heap) (by unfold gG;rw[aV r];exact hS);exact q
 |none=>
  dsimp only;have r:¬x∈ss:=λm=>by
   obtain⟨e,n,q⟩:=HX.mp m;have z:=List.findIdx?_eq_none_iff.mp hr e n;rw[q]at z;cases z
  have hgw:∀(b:Bool) {dg:Shared} {M:Unit->Shared->Prop},M () dg->wpAny (model P w) A (match b with|true=>rule "set.scan.the-table-gave-way"|false=>pure ()) M E dg:=
   λb dg M g=>by cases b<;>first|exact bc g|exact fE g
  have S:=layNew_perm t es (hashStr w x) (.str x u);have Gv:=layNew_fits t es (hashStr w x) (.str x u);have HY:=EL t es (hashStr w x) (.str x u);generalize layNew t es (hashStr w x) (.str x u)=L at S Gv HY⊢;obtain⟨vO,t1,CQ,aby⟩:=L;dsimp only at S Gv HY⊢;rw[Array.toList_push,he]at S;obtain⟨l1,e1,p1⟩:=HW S;have hsz:vO.size=es.size+1:=by
   have q:=S.length_eq;rw[eO,<-he,gc,gc]at q;simpa using q
  have AZ:vO.size<scanBound:=by omega
  have Nl:(l1.map (·.1)).Perm (ss++[x]):=by
   have q:=p1.map (·.1);rw[ke]at q;exact q.trans (hp.append_right _)
  have Rf:(ss++[x]).Nodup:=by
   rw[wW];refine⟨hn,by simp,λy hy z hz e=>?_⟩;rw[de]at hz;subst hz e;exact r hy
  have WT:∀h',Heap.SameBut a s.heap h'->lE w h' a (ss++[x])->Q true {s with heap:=h'}:=λh' sb Kt=>h true h' sb (by unfold gG;rw[bb r];exact Kt);refine aS (hgw _ ?_);split
  ·refine aS ?_
   rw[hashByValue_scannable 8 (x:=.str x u) rfl];refine bc ?_
   refine CO ?_ ho hex hd e1 Nl Rf AZ ?_ ?_ ?_ ?_
   ·intro b dg M g;cases b<;>first|exact bc g|exact fE g
   ·exact SetTable.fits_plain_off Gv
   ·exact hl.imp id λz=>HY.trans z
   ·rfl
   ·intro h' sb Kt;exact bc (WT h' sb Kt)
  ·rename_i aaF;refine aS (bc ?_);simp only[↓reduceIte];refine CO ?_ ho hex hd e1 Nl Rf AZ Gv ?_ ?_ ?_
   ·intro b dg M g;cases b<;>first|exact bc g|exact fE g
   ·exact hl.imp id λz=>HY.trans z
   ·simpa using aaF
   ·intro h' sb Kt;exact bc (WT h' sb Kt)
def dW:Slot "set_iterator" "__next__" "set_iterator.__next__":=.of (owner:="set_iterator") (n:="__next__")
 (by rw[typeLookup_type,wO];kernel_rfl) (by decide+kernel) (by decide+kernel) (by decide+kernel) (by first|exact .inl (by decide+kernel)|exact .inr (by decide+kernel))
 (by rw[isSubtype_type];kernel_rfl)
def mW:entryFor table "set_iterator.__next__"=some Builtin.«set_iterator.__next__»:=entryFor_of_tree (by kernel_rfl)
def vx:Manifest.owners.lookup (String.ofList ['r', 'o', 't', 'a', 'r', 'e', 't', 'i', '_', 't', 'e', 's'].reverse)=some Manifest.sig_set_iterator:=by kernel_rfl
theorem oj(a:Value):argsOk "set_iterator.__next__" ⟨[a],[]⟩:=by
 unfold argsOk;rw[signature?_of (id:="set_iterator.__next__") (n:=['_', '_', 't', 'x', 'e', 'n', '_', '_']) (o:=['r', 'o', 't', 'a', 'r', 'e', 't', 'i', '_', 't', 'e', 's']) (by kernel_rfl) vx];kernel_rfl
def om:Slot "set_iterator" "__iter__" "set_iterator.__iter__":=.of (owner:="set_iterator") (n:="__iter__")
 (by rw[typeLookup_type,wO];kernel_rfl) (by decide+kernel) (by decide+kernel) (by decide+kernel) (by first|exact .inl (by decide+kernel)|exact .inr (by decide+kernel))
 (by rw[isSubtype_type];kernel_rfl)
def vP:entryFor table "set.__iter__"=some Builtin.«frozenset.__iter__»:=entryFor_alias (id':="frozenset.__iter__") (by kernel_rfl) rfl (by decide+kernel) (by kernel_rfl)
noncomputable def uj(F:Value)(i:Nat)(a:Addr)(n ep:Nat):Obj:={cls:=.type "set_iterator",dict:=none,data:=.fields #[F,rawInt i,.ref a,rawInt n,rawInt ep],slots:=#[]}
section
variable {o:Obj}{es:Array (Int×Value)}{t:SetTable}
def l9{Q:Array (Int×Value)->Shared->Prop}(q:s.heap.get? a=some o)(hd:o.data=.set es az t)(hf:t.fits es.size=true)(h:Q es s):wpAny (model P w) A (setEntries a) Q E s:=by
 unfold setEntries;exact aS (kI q hd hf (bc h))
theorem yb{R:ag->Shared->Prop}(q:A.handled=none)
  (h:∀h' (x:Addr),Shared.TypeIs {s with heap:=h'} (.ref x) "StopIteration"->(∀b o,s.heap.get? b=some o->h'.get? b=some o)->E (.ref x) {s with heap:=h'}):
  wpAny (model P w) A.in1 (newExc (.type "StopIteration") []) (λx s'=>wpAny (model P w) A.in1 (raiseNew x:Sem ag) R E s') E s:=by
 simp only[newExc,newTuple];refine aS (kG ?_ (by size_fits));refine aS (m:=firstArgMember _ _) (wpAny_of_eq (a:=Value.none) (by first|rfl|(simp only[firstArgMember];rfl)) ?_);refine kG ?_ (by size_fits)
 simp only[raiseNew];refine aS (wpAny_handled ?_)
 first|rw[show A.in1.handled=none from q]|rw[q]
 refine aS (bc (wpAny_throw ?_));exact h _ _ ⟨_,cp _ rfl,rfl⟩ λb o e=>bP _ (bP _ e)
theorem A7{slot:Nat}{r:Option (Value×Nat)}(hh:A.handled=none)(hit:s.heap.get? au=some (uj (rawInt slot) i a es.size az))(ho:s.heap.get? a=some o)(hd:o.data=.set es az t)(hf:t.fits es.size=true)
  (hn:∀(B:Around) (E':Value->Shared->Prop) (q:Option (Value×Nat)->Shared->Prop),q r s->wpAny (model P w) B (setNext a slot i az) q E' s)
  (h1:∀x nx,r=some (x,nx)->∀h',h'.get? au=some (uj (rawInt nx) (i+1) a es.size az)->Heap.SameBut au s.heap h'->aM (some x) {s with heap:=h'})
  (h2:r=none->∀h',Heap.ExtBut au s.heap h'->aM none {s with heap:=h'}):wpAny (model P w) A (pyNext (.ref au)) aM E s:=by
 have g:s.TypeIs (.ref au) "set_iterator":=⟨_,hit,rfl⟩;unfold pyNext;refine aS (tB (qF (name:=Str.ofString "__next__") g dW (gX dW g mW ?_ (oj _))));unfold Builtin.«set_iterator.__next__»;refine aS (m:=slotArgs "__next__" 0 _) (bc ?_);refine aS (wpAny_fieldsOf hit rfl ?_);dsimp only;refine aS (l9 ho hd hf ?_);rw[bb (by simp)];show wpAny _ _ (setNext a (slot:Int).toNat (i:Int).toNat (az:Int).toNat>>=_) _ _ s;rw[lK,lK,lK];refine aS (hn _ _ _ ?_);cases r with
 |none=>
  dsimp only;refine aS (wpAny_setField hit rfl (by show 2<5;decide) ?_);refine aS (yb hh λh' x l n=>?_);refine aS (pf (T:="StopIteration") (b:=true) l isSubtype_stop ?_);exact bc (h2 rfl _ λb o hb e=>n b o ((oX s.heap au _).extBut b o hb e))
 |some p=>
  obtain⟨x,nx⟩:=p;dsimp only;refine aS (ji hit (by show 0<5;decide) λI L M=>?_);refine aS (ji (s:={s with heap:=I}) L (by show 1<5;decide) λS WU u3=>?_);exact bc ⟨_,rfl,bc (h1 x nx rfl S WU (M.trans u3))⟩
end
def u4:entryFor table "set_iterator.__iter__"=some Builtin.«dict_keyiterator.__iter__»:=entryFor_alias (id':="dict_keyiterator.__iter__") (by kernel_rfl) rfl (by decide+kernel) (by kernel_rfl)
theorem vQ(a:Value):argsOk "set_iterator.__iter__" ⟨[a],[]⟩:=by
 unfold argsOk;rw[signature?_of (id:="set_iterator.__iter__") (n:=['_', '_', 'r', 'e', 't', 'i', '_', '_']) (o:=['r', 'o', 't', 'a', 'r', 'e', 't', 'i', '_', 't', 'e', 's']) (by kernel_rfl) vx];kernel_rfl
theorem Gw{α:Type}(next:Nat->Nat):∀(fuel k:Nat) (left:List α) (out:Array α),left.length=fuel->(pickOrder.go next fuel k left out).toList.Perm (out.toList++left)
 |0,k,left,out,h=>by
  rw[List.eq_nil_of_length_eq_zero h];simp[pickOrder.go]
 |fuel+1,k,left,out,h=>by
  have hi:next k % left.length<left.length:=Nat.mod_lt _ (by omega)
  unfold pickOrder.go;rw[bV hi];dsimp only;refine(Gw next fuel (k+1) _ _ (by rw[B6 hi];omega)).trans ?_
  rw[Array.toList_push,wV];exact(sj left _ hi).append_left _
def HZ(next:Nat->Nat)(xs:Array ag):(pickOrder next xs).toList.Perm xs.toList:=by
 have h:=Gw next xs.size 0 xs.toList #[] (by simp)
 unfold pickOrder;simpa using h
def Sz:SetTable.below #[] 0=0:=rfl
def SA(j:Nat):SetTable.below #[j] 0=0:=by
 unfold SetTable.below;simp[SetTable.below.go]
def SD(j:Nat):SetTable.below #[j] (j+1)=1:=by
 unfold SetTable.below;simp[SetTable.below.go]
section
variable {o:Obj}{es:Array (Int×Value)}{t:SetTable}
def A8{e:Nat}(hit:s.heap.get? au=some (uj af i a az e))(h:Q (.ref au) s):wpAny (model P w) A (pyIter (.ref au)) Q E s:=by
 have b:s.TypeIs (.ref au) "set_iterator":=⟨_,hit,rfl⟩;refine wpAny_pyIter_slot b om (gX om b u4 ?_ (vQ _));show wpAny _ _ (ret (.ref au)) _ _ s;exact bc ⟨_,rfl,"set_iterator",_,b,dW.lookup,h⟩
theorem Kv{tp:Addr}{m:Nat}{ot:Obj}(hh:A.handled=none)(hit:s.heap.get? au=some (uj (.ref tp) i a es.size az))(ho:s.heap.get? a=some o)(hd:o.data=.set es az t)(hf:t.fits es.size=true)
  (q:s.heap.get? tp=some ot) (Zp:ot.data=.seq ak m)
  (h1:∀(p:Nat) (e:Int×Value),ak[i]?=some (rawInt p)->es[p]?=some e->∀h',h'.get? au=some (uj (.ref tp) (i+1) a es.size az)->Heap.SameBut au s.heap h'->aM (some e.2) {s with heap:=h'})
  (h2:ak[i]?=none->∀h',Heap.ExtBut au s.heap h'->aM none {s with heap:=h'})
  (oF:∀v,ak[i]?=some v->∃(p:Nat) (e:Int×Value),v=rawInt p/\es[p]?=some e):wpAny (model P w) A (pyNext (.ref au)) aM E s:=by
 have I:s.TypeIs (.ref au) "set_iterator":=⟨_,hit,rfl⟩;unfold pyNext;refine aS (tB (qF (name:=Str.ofString "__next__") I dW (gX dW I mW ?_ (oj _))));unfold Builtin.«set_iterator.__next__»;refine aS (m:=slotArgs "__next__" 0 _) (bc ?_);refine aS (wpAny_fieldsOf hit rfl ?_);dsimp only;refine aS (l9 ho hd hf ?_);rw[bb (by simp)];show wpAny _ _ (seqItems? (.ref tp)>>=_) _ _ s;refine aS (gZ q Zp ?_);dsimp only;rw[lK];cases g:ak[i]? with
 |none=>
  dsimp only;refine aS (ji hit (by show 0<5;decide) λl n r=>?_);refine aS (ji (s:={s with heap:=l}) n (by show 2<5;decide) λpL WU L=>?_);refine aS (yb hh λh' x M S=>?_);refine aS (pf (T:="StopIteration") (b:=true) M isSubtype_stop ?_);exact bc (h2 g _ λb o hb e=>S b o (L.extBut b o hb (r.extBut b o hb e)))
 |some v=>
  obtain⟨p,e,rfl,he⟩:=oF v g;show wpAny _ _ (setNextDrawn a (p:Int).toNat (az:Int).toNat>>=_) _ _ s;rw[lK,lK];refine aS ?_
  unfold setNextDrawn;refine aS (kI ho hd hf ?_);dsimp only;rw[bb (by simp),he];dsimp only;refine bc ?_
  refine aS (ji hit (by show 1<5;decide) λl n r=>?_);exact bc ⟨_,rfl,bc (h1 p e g he l n r)⟩
def qN{Q:Bool->Shared->Prop}(h:Q (BX w) s):wpAny (model P w) A setsByText Q E s:=by
 unfold setsByText;exact aS (wpAny_askSetting (bc h))
def zY{slot:Nat}{Q:Option (Value×Nat)->Shared->Prop}(hb:BX w=true)(q:s.heap.get? a=some o)(hd:o.data=.set es az t)(hf:t.fits es.size=true)
  (h:Q (((pickOrder (w.params.setOrder a az) es)[i]?).map λe=>(e.2,slot)) s):wpAny (model P w) A (setNext a slot i az) Q E s:=by
 unfold setNext;refine aS (kI q hd hf ?_);dsimp only;refine aS (qN ?_);rw[hb,aV rfl];simp only[sR,cR,cq];refine aS ?_
 unfold setWalk;refine aS (kI q hd hf ?_);dsimp only;refine aS (qN ?_);rw[hb,aV rfl];refine aS (wpAny_askSetting ?_);exact bc (bc h)
theorem CU{slot:Nat}{Q:Option (Value×Nat)->Shared->Prop}(hb:BX w=false)(q:t.led=true)(hz:es.size<=1)(ho:s.heap.get? a=some o)(hd:o.data=.set es az t)(hf:t.fits es.size=true)
  (h:Q (match es[SetTable.below t.place slot]?,t.place[SetTable.below t.place slot]? with
   |some (_,x),some j=>some (x,j+1)
   |_,_=>none) s):wpAny (model P w) A (setNext a slot i az) Q E s:=by
 unfold setNext;refine aS (kI ho hd hf ?_);dsimp only;refine aS (qN ?_);rw[hb];simp only[cR,cq];refine mF (λb=>absurd (show(!t.plain&&decide (es.size>1))=true from b) ?_) (λ_=>?_)
 ·rw[fu (p:=es.size>1) (by omega),xg];exact fK
 ·refine aS (m:=(if(!t.led&&!es.isEmpty)=true then unsupported "set:maker-not-led"else pure ())) ?_
  rw[q,bb (by simp)];exact bc (bc h)
end
def one_place{xs:Array Nat}(h:xs.size=1):∃j,xs=#[j]:=by
 obtain⟨l⟩:=xs
 match l,h with
 |[j],_=>exact⟨j,rfl⟩
def EN(p:Str×Tok):Value:=.str p.1 p.2
def strAt(l:List (Str×Tok))(i:Nat)(v:Value):Prop:=(l[i]?).map EN=some v
section
variable {o:Obj}{es:Array (Int×Value)}{t:SetTable}
def wc{l:List (Str×Tok)}(he:es.toList=l.map (ent w))(p:Nat):es[p]?=(l[p]?).map (ent w):=by
 rw[<-nz,he,b_]
theorem H_(hb:BX w=true)(hd:o.data=.set es az t)(hf:t.fits es.size=true){l:List (Str×Tok)}(he:(pickOrder (w.params.setOrder a az) es).toList=l.map (ent w))(hl:l.length=es.size)(hU:au≠a)(A':Around)(hh:A'.handled=none):
  Walks P w A' au [au,a] [au] l.length (strAt l) (λi h=>h.get? au=some (uj (rawInt 0) i a es.size az)/\h.get? a=some o) where
 sub:=λb hb=>by simp at hb;simp[hb]
 frame:=λi h h' st k=>⟨k au (by simp) _ st.1,k a (by simp) _ st.2⟩
 item:=λi s Q E hi st n=>by
  have I:(pickOrder (w.params.setOrder a az) es)[i]?=(l[i]?).map (ent w):=by rw[<-nz,he,b_]
  rw[bV hi]at I;refine A7 (slot:=0) (r:=some ((ent w l[i]).2,0)) hh st.1 st.2 hd hf (λB M S q=>zY hb st.2 hd hf (by rw[I];exact q)) (λx nx e h' g L=>?_) λe=>nomatch e;cases e;exact n _ h' s.toks (by unfold strAt;rw[bV hi];rfl) ⟨g,(L.2 a (Ne.symm hU)).trans st.2⟩ λb o hb e=>L.extBut b o (λz=>hb (by simp[z])) e
 done:=λs Q E st n=>by
  have I:(pickOrder (w.params.setOrder a az) es)[l.length]?=none:=by
   rw[<-nz,he,b_,jg.mpr (bz _)];rfl
  refine A7 (slot:=0) (r:=none) hh st.1 st.2 hd hf (λB M S q=>zY hb st.2 hd hf (by rw[I];exact q)) (λx nx e=>nomatch e) λ_ h' eb=>?_
  exact n h' s.toks λb o hb e=>eb b o (λz=>hb (by simp[z])) e
 self:=λi s Q E st n=>A8 st.1 n
theorem Kw(hb:BX w=false)(hl:t.led=true)(hz:es.size<=1)(hd:o.data=.set es az t)(hf:t.fits es.size=true){l:List (Str×Tok)}(he:es.toList=l.map (ent w))(hU:au≠a)(A':Around)(hh:A'.handled=none):
  Walks P w A' au [au,a] [au] l.length (strAt l) (λi h=>h.get? au=some (uj (rawInt (if i=0 then(0:Nat)else t.place.getD 0 0+1:Nat)) i a es.size az)/\h.get? a=some o) where
 sub:=λb hb=>by simp at hb;simp[hb]
 frame:=λi h h' st k=>⟨k au (by simp) _ st.1,k a (by simp) _ st.2⟩
 item:=λi s Q E hi st n=>by
  have b9:l.length=es.size:=by have q:=cT List.length he;rw[gc,bt]at q;exact q.symm
  have L:i=0:=by omega
  subst L;have SE:t.place.size=es.size:=by
   simp only[SetTable.fits,bU,ff]at hf;exact hf.1
  obtain⟨j,I⟩:∃j,t.place=#[j]:=by
   exact one_place (by omega)
  have e0:es[0]?=some (ent w l[0]):=by rw[wc he,bV hi];rfl
  refine A7 (slot:=0) (r:=some ((ent w l[0]).2,j+1)) hh st.1 st.2 hd hf (λB E' Q' q=>CU hb hl hz st.2 hd hf (by rw[I,SA,e0];exact q)) (λx nx e h' g S=>?_) λe=>nomatch e;cases e;refine n _ h' s.toks (by unfold strAt;rw[bV hi];rfl) ⟨?_,(S.2 a (Ne.symm hU)).trans st.2⟩ λb o hb e=>S.extBut b o (λz=>hb (by simp[z])) e;rw[I];exact g
 done:=λs Q E st n=>by
  have b9:l.length=es.size:=by have q:=cT List.length he;rw[gc,bt]at q;exact q.symm
  have SE:t.place.size=es.size:=by
   simp only[SetTable.fits,bU,ff]at hf;exact hf.1
  have fin:∀slot:Nat,s.heap.get? au=some (uj (rawInt slot) l.length a es.size az)->es[SetTable.below t.place slot]?=none->wpAny (model P w) A' (pyNext (.ref au)) Q E s:=λslot hit e1=>by
   refine A7 (slot:=slot) (r:=none) hh hit st.2 hd hf (λB E' Q' q=>CU hb hl hz st.2 hd hf (by rw[e1];exact q)) (λx nx e=>nomatch e) λ_ h' eb=>?_
   exact n h' s.toks λb o hb e=>eb b o (λz=>hb (by simp[z])) e
  by_cases h0:l.length=0
  ·have M:t.place=#[]:=Array.eq_empty_of_size_eq_zero (by omega);refine fin 0 ?_ ?_
   ·have q:=st.1;rw[aV h0]at q;exact q
   ·rw[M,Sz,wc he,jg.mpr (by omega)];rfl
  ·obtain⟨j,I⟩:∃j,t.place=#[j]:=by
    exact one_place (by omega)
   refine fin (j+1) ?_ ?_
   ·have q:=st.1;rw[bb h0,I]at q;exact q
   ·rw[I,SD,wc he,jg.mpr (by omega)];rfl
 self:=λi s Q E st n=>A8 st.1 n
theorem EO{tp:Addr}{ot:Obj}{ps:List Nat}{m:Nat}(hd:o.data=.set es az t)(hf:t.fits es.size=true)(Zp:ot.data=.seq (ps.map λi=>rawInt (i:Nat)).toArray m){l l':List (Str×Tok)}(he:es.toList=l.map (ent w))(hl':∀i:Nat,l'[i]?=(ps[i]?).bind λp=>l[p]?)(SE:∀p∈ps,p<l.length)
  (b9:l'.length=ps.length) (hU:au≠a) (hnt:au≠tp) (A':Around) (hh:A'.handled=none):
  Walks P w A' au [au,a,tp] [au] l'.length (strAt l') (λi h=>h.get? au=some (uj (.ref tp) i a es.size az)/\h.get? a=some o/\h.get? tp=some ot) where
 sub:=λb hb=>by simp at hb;simp[hb]
 frame:=λi h h' st k=>⟨k au (by simp) _ st.1,k a (by simp) _ st.2.1,k tp (by simp) _ st.2.2⟩
 item:=λi s Q E hi st r=>by
  have n:i<ps.length:=by omega
  have oF:(ps.map λi=>rawInt (i:Nat)).toArray[i]?=some (rawInt (ps[i]:Nat)):=by simp[n]
  have hp:ps[i]<l.length:=SE _ (kJ n);have e1:es[ps[i]]?=some (ent w l[ps[i]]):=by rw[wc he,bV hp];rfl
  have e2:l'[i]?=some l[ps[i]]:=by rw[hl',bV n];exact bV hp
  refine Kv hh st.1 st.2.1 hd hf st.2.2 Zp (λp e I h2 h' g M=>?_) (λz=>by rw[oF]at z;cases z) (λv L=>?_)
  ·rw[oF]at I;have hpp:((ps[i]:Nat):Int)=(p:Int):=by
    have q:=Option.some.inj I;injection q
   have S:ps[i]=p:=by omega
   subst S;rw[e1]at h2;cases h2;exact r _ h' s.toks (by unfold strAt;rw[e2];rfl) ⟨g,(M.2 a (Ne.symm hU)).trans st.2.1,(M.2 tp (Ne.symm hnt)).trans st.2.2⟩ λb o hb e=>M.extBut b o (λz=>hb (by simp[z])) e
  ·rw[oF]at L;cases L;exact⟨_,_,rfl,e1⟩
 done:=λs Q E st r=>by
  have oF:(ps.map λi=>rawInt (i:Nat)).toArray[l'.length]?=none:=by simp[b9]
  refine Kv hh st.1 st.2.1 hd hf st.2.2 Zp (λp e I=>by rw[oF]at I;cases I) (λ_ h' eb=>?_) (λv L=>by rw[oF]at L;cases L);exact r h' s.toks λb o hb e=>eb b o (λz=>hb (by simp[z])) e
 self:=λi s Q E st r=>A8 st.1 r
theorem Ia{ss:List Str}(hS:lE w s.heap a ss)
  (hQ:∀(h':Heap) (d:Drawn) (au:Addr) (fp:List Addr) (St:Nat->Heap->Prop) (l:List (Str×Tok)),(l.map (·.1)).Perm ss->(∀b o,s.heap.get? b=some o->h'.get? b=some o)->s.heap.objs.size<=au->(∀b∈fp,b=a\/s.heap.objs.size<=b)->
   (∀A':Around,A'.handled=none->Walks P w A' au fp [au] l.length (strAt l) St)->St 0 h'->Q (.ref au) {s with heap:=h',drawn:=d}):wpAny (model P w) A (pyIter (.ref a)) Q E s:=by
 obtain⟨o,es,az,t,l,g,hex,hd,he,hp,hn,hb,hf,hl,oF⟩:=id hS;have gm:a<s.heap.objs.size:=bu g;have b9:l.length=es.size:=by have q:=cT List.length he;rw[gc,bt]at q;exact q.symm
 refine wpAny_pyIter_slot hS.typeIs PySem.F.slot_set_iter (gX PySem.F.slot_set_iter hS.typeIs vP ?_ (PySem.F.args_set_iter_1 _));unfold Builtin.«frozenset.__iter__»;refine aS (m:=Builtin.Frozenset.slot0 "__iter__" _) (bc ?_);refine aS ?_
 unfold Builtin.Frozenset.sizeOf;refine aS (l9 g hd hf (bc ?_));refine aS ?_
 unfold setDrawn;refine aS (kI g hd hf ?_);dsimp only;refine aS (qN (bc ?_));refine mF (λn=>?_) (λn=>?_)
 ·
  refine aS (rE _ _ _ _ (sS ..) λps d S=>?_);have hz:((ps.map λ(i:Nat)=>rawInt i)).length<=sizeLine:=by
   rw[bt,S.length_eq,sS];exact xi hb
  refine aS (wpAny_newTuple (hsz:=hz) ?_);have Qe:(s.heap.push {cls:=.type "tuple",data:=.seq (ps.map λ(i:Nat)=>rawInt i).toArray}).get? a=some o:=bP _ g;have L:(s.heap.push {cls:=.type "tuple",data:=.seq (ps.map λ(i:Nat)=>rawInt i).toArray}).objs.size=s.heap.objs.size+1:=jv ..;refine aS (wpAny_setEpoch_of Qe hd hf ?_);refine aS (kG ?_);refine bc ⟨_,rfl,"set_iterator",_,⟨_,cp _ rfl,rfl⟩,dW.lookup,?_⟩;have WV:∀p∈ps,p<l.length:=λp hm=>by
   have q:=sY.mp (S.mem_iff.mp hm);omega
  have ya:(ps.map λp=>l.getD p (Str.empty,0)).Perm l:=by
   have q:=S.map λp=>l.getD p (Str.empty,0);have e:(List.range es.size).map (λp=>l.getD p (Str.empty,0))=l:=by
    rw[<-b9];refine List.ext_getElem (by simp) λi h1 h2=>?_
    simp[h2]
   rw[e]at q;exact q
  refine hQ _ d _ [_,a,s.heap.objs.size] _ (ps.map λp=>l.getD p (Str.empty,0)) ((ya.map _).trans hp) (λb o e=>bP _ (bP _ e)) (by rw[L];exact pA _) (λb hm=>?_)
   (λA' r=>EO (ot:={cls:=.type "tuple",data:=.seq (ps.map λ(i:Nat)=>rawInt i).toArray}) (ps:=ps) hd hf rfl he (λi=>?_) WV (bt ..) ?_ ?_ A' r)
   ⟨cp _ rfl,bP _ Qe,bP _ (cp _ rfl)⟩
  ·simp only[bE,cN,cO]at hm;rcases hm with rfl|rfl|rfl
   ·right;rw[L];exact pA _
   ·left;rfl
   ·right;exact bz _
  ·rw[b_];cases e:ps[i]? with
   |none=>rfl
   |some p=>
    have oF:=WV p (dZ e);show some (l.getD p (Str.empty,0))=l[p]?
    rw[eJ,bV oF];rfl
  ·rw[L];exact dJ (lJ gm)
  ·rw[L];exact mD _
 ·refine aS (bc ?_);refine aS (wpAny_setEpoch_of g hd hf ?_);refine aS (kG ?_);refine bc ⟨_,rfl,"set_iterator",_,⟨_,cp _ rfl,rfl⟩,dW.lookup,?_⟩;have zf:∀b∈[s.heap.objs.size,a],b=a\/s.heap.objs.size<=b:=λb hm=>by
   simp only[bE,cN,cO]at hm;rcases hm with rfl|rfl
   ·exact .inr (bz _)
   ·exact .inl rfl
  have hU:s.heap.objs.size≠a:=dJ gm;cases M:BX w with
  |true=>
   have I:=HZ (w.params.setOrder a az) es;rw[he]at I;obtain⟨l2,e2,p2⟩:=x_ I;exact hQ _ s.drawn _ [_,a] _ l2 ((p2.map _).trans hp) (λb o e=>bP _ e) (bz _) zf (λA' r=>H_ M hd hf e2 (p2.length_eq.trans b9) hU A' r) ⟨cp _ rfl,bP _ g⟩
  |false=>
   have Zr:es.size<=1:=by
    by_cases hz:es.size<=1
    ·exact hz
    ·exfalso;refine n ?_
     show(!BX w&&(!t.plain&&decide (es.size>1)))=true;rw[M,oF (by omega),jj (by omega)]
     rfl
   have HY:t.led=true:=hl.resolve_left (by rw[M];exact fK);exact hQ _ s.drawn _ [_,a] _ l hp (λb o e=>bP _ e) (bz _) zf (λA' r=>Kw M HY Zr hd hf he hU A' r) ⟨cp _ rfl,bP _ g⟩
end
def eN(ss xs:List Str):List Str:=xs.foldl gG ss
def yc(ss:List Str)(x:Str):(gG ss x).length<=ss.length+1:=by
 unfold gG;split
 ·omega
 ·simp
section
variable {prog:Program}{I:Addr}{fp:List Addr}{n:Nat}{P:Nat->Value->Prop}{St:Nat->Heap->Prop}
def lE.keep {h h':Heap}{ss:List Str}(x:lE w h a ss)(k:∀o,h.get? a=some o->h'.get? a=some o):lE w h' a ss:=by
 obtain⟨o,es,ep,t,l,b,r⟩:=x;exact⟨o,es,ep,t,l,k o b,r⟩
theorem Kx(W:Walks prog w A.in1 I fp [I] n P St)(Zs:au∉fp)(val:Nat->Str)(N_:∀i v,P i v->∃t,v=Value.str (val i) t)(hb:n+1<scanBound):
  ∀(k i:Nat) (s:Shared) (ss:List Str),n - i=k->i<=n->St i s.heap->lE w s.heap au ss->ss.length<=i->
   (∀h' q,(∀b o,b≠au->b≠I->s.heap.get? b=some o->h'.get? b=some o)->lE w h' au (eN ss ((List.range' i k).map val))->aw (.ok (.ret .none)) {s with heap:=h',toks:=q})->
   codeAny (model prog w) A (.builtin "set.update.loop" ⟨[.ref au,.ref I],[]⟩) aw s:=by
 have r:I∈fp:=W.sub I (by simp);have MO:au≠I:=λe=>Zs (e▸r);intro k
 induction k with
 |zero=>
  intro i s ss hk hi cD L _ hR;have lD:i=n:=by omega
  subst lD;refine fL F.entry_set_update_loop ?_
  rw[gV wZ _];show wpAny _ A.in1 (pyNext (.ref I)>>=_) _ _ s;refine aS (W.done s _ _ cD λh' q g=>?_);show wpAny _ A.in1 (ret Value.none) _ _ _;exact bc (hR h' q (λb o _ h2 e=>g b o (by simpa using h2) e) (L.keep λo e=>g au o (by simpa using MO) e))
 |succ k ih=>
  intro i s ss hk hi cD L hl hR;have gm:i<n:=by omega
  refine fL F.entry_set_update_loop ?_
  rw[gV wZ _];show wpAny _ A.in1 (pyNext (.ref I)>>=_) _ _ s;refine aS (W.item i s _ _ gm cD λv M S hP Ky g=>?_);obtain⟨u,rfl⟩:=N_ i v hP;have WS:lE w M au ss:=L.keep λo e=>g au o (by simpa using MO) e;show wpAny _ A.in1 (holding [Value.str (val i) u] (setAdd au (.str (val i) u))>>=_) _ _ _;refine aS (fw ?_);unfold setAdd;refine fw ?_
  refine aS ((PySem.strKind prog w).pyHash (k:=val i) (by simp[PySem.strKind,Value.isStrOf]) ?_);refine aaE (s:={s with heap:=M,toks:=S+1}) WS (by omega) λb h2 sb hS2=>?_
  have l:∀b o,b≠au->M.get? b=some o->h2.get? b=some o:=λb o hb e=>(sb.2 b hb).trans e;refine bc ⟨g0 wZ _,ih (i+1) _ (gG ss (val i)) (by omega) gm (W.frame _ _ _ Ky λb hb o e=>l b o (λz=>Zs (z▸hb)) e) hS2 (by have:=yc ss (val i);omega) λh' q kk' Kt=>?_⟩;exact hR h' q (λb o AZ N9 e=>kk' b o AZ N9 (l b o AZ (g b o (by simpa using N9) e))) Kt
end
section
section
variable {prog:Program}
theorem _root_.PySem.Kz (a:Value){Q₁:Value->Shared->Prop}
  (h:Q₁ (.ref s.heap.objs.size) {s with heap:=s.heap.push {cls:=.type "set",dict:=none,data:=.set #[] 0 (.fresh 0 0 (!L2.BX w))}}):
  codeAny (model prog w) A (.call (.builtin "set.__new__") ⟨[.type "set",a],[]⟩) (wants Q₁ E) s:=by
 refine codeAny_of_tree ?_
 show wpAny _ A.in1 (do checkBuiltinCall "set.__new__" ⟨[.type "set",a],[]⟩;again (.builtin "set.__new__" ⟨[.type "set",a],[]⟩)) _ _ s;refine aS (wpAny_of_eq (F.newCall_set_1 a) (bc ⟨g0 F.plain_set_new _,fL F.entry_set_new ?_⟩));rw[gV F.plain_set_new _];unfold Builtin.«set.__new__» Builtin.Frozenset.newClass;have b:=sub_set_self;obtain⟨hp,g,d,tk,os⟩:=s;dsimp only
 wp_walk
 refine wpAny_askSetting (bc ?_);dsimp only;simp only[newObj];refine aS (wpAny_alloc (bc ?_));exact bc h
set_option maxHeartbeats 3200000 in
theorem _root_.PySem.KA {l:Addr}{a8:Array Value}{val:Nat->Str}(hh:A.handled=none)(hl:s.heap.IsList l a8)(hv:∀(i:Nat) (v:Value),a8[i]?=some v->∃t,v=.str (val i) t)(hb:a8.size+1<scanBound)
  (h:∀(h':Heap) (tk:Nat),L2.lE w h' s.heap.objs.size (L2.eN [] ((List.range' 0 a8.size).map val))->(∀b o,b<s.heap.objs.size->s.heap.get? b=some o->h'.get? b=some o)->Q (.ref s.heap.objs.size) {s with heap:=h',toks:=tk}):
  wpAny (model prog w) A (call (.type "set") [.ref l]) Q E s:=by
 obtain⟨c,tl,abz⟩:=jx.mro;have abt:=jx.made;have QM:=jx.sub;refine pC (codeAny_of_tree ?_);show wpAny _ _ (callAny (.type "set") _) _ _ _;refine bc ⟨Code.quiet_builtin _ (by decide+kernel),fL F.entry_type_call ?_⟩;rw[Around.under_plain (weight_type_call_type "set" [.ref l] []) rfl];have h1:=jx.notType;have h2:=jx.canCreate;have hct:=F.typeCall_set_1 (.ref l)
 repeat(any_goals (first|assumption|wp_step))
 refine iA (Kz (.ref l) (E:=E) (Q₁:=λobj dg=>obj=.ref s.heap.objs.size/\dg={s with heap:=s.heap.push {cls:=.type "set",dict:=none,data:=.set #[] 0 (.fresh 0 0 (!L2.BX w))}}) ⟨rfl,rfl⟩) λr dg n=>?_
 cases r with
 |error e=>exact n
 |ok fl=>
  cases fl with
  |ret obj=>
   obtain⟨rfl,rfl⟩:=n;generalize L:({cls:=.type "set",dict:=none,data:=.set #[] 0 (.fresh 0 0 (!L2.BX w))}:Obj)=ob;have hS:(s.heap.push ob).get? s.heap.objs.size=some ob:=cp _ (by rw[<-L];rfl);have hT:Shared.TypeIs {s with heap:=s.heap.push ob} (.ref s.heap.objs.size) "set":=⟨_,hS,by rw[<-L]⟩;have hli:=jx.init.lookup;have hbi:=jx.init.bind (.ref s.heap.objs.size)
   repeat(any_goals (first|assumption|wp_step))
   refine iA (wX (R:=wants (λr tR=>r=.none/\∃h' tk,tR={s with heap:=h',toks:=tk}/\L2.lE w h' s.heap.objs.size (L2.eN [] ((List.range' 0 a8.size).map val))/\
     (∀b o,b<s.heap.objs.size->s.heap.get? b=some o->h'.get? b=some o)) E) jx.init.plain F.entry_set_init (check_set_init_1 hT ?_)) λM tR S=>?_
   ·obtain⟨ol,Qg,FW,nl,UW⟩:=hl;obtain⟨abA,WW,abu,SF⟩:=ol;simp only at FW UW;subst FW;subst UW;have q:(s.heap.push ob).get? l=some {cls:=.type "list",dict:=WW,data:=.seq a8 nl,slots:=SF}:=bP _ Qg;have abB:=F.sub_list_set;have abC:=F.sub_list_frozenset;have hU:(Value.type "list"==Value.type "dict")=false:=by decide
    have Je:(s.heap.push ob).IsList l a8:=⟨_,q,rfl,nl,rfl⟩;subst L;unfold Builtin.«set.__init__» noKeywords Builtin.Frozenset.updateFrom;generalize hPI:pyIter=PI
    wp_walk
    subst hPI;refine kH Je ?_
    refine aS (wpAny_runValue ?_);have g:l<s.heap.objs.size:=bu Qg;have hh3:A.in1.in1.in1.handled=none:=by simp[hh]
    generalize hsz:(s.heap.push {cls:=.type "set",dict:=none,data:=.set #[] 0 (.fresh 0 0 (!L2.BX w))}).objs.size=I at*;have SG:I=s.heap.objs.size+1:=by rw[<-hsz,jv]
    have aaJ:l≠I:=by rw[SG];exact bY (lJ g)
    have Zs:s.heap.objs.size∉[I,l]:=by
     simp only[bE,cN,cO,not_or];exact⟨by rw[SG];exact bY (o4 _),dJ g⟩
    refine L2.Kx (Walks.list hh3 I l aaJ a8) Zs val hv hb (a8.size - 0) 0 _ [] (by omega) (d5 _) ⟨⟨_,by rw[<-hsz];exact cp _ rfl,rfl,rfl⟩,Je.push _⟩ ?hS0 (d5 _) ?hR
    case hS0=>
     refine⟨_,#[],0,.fresh 0 0 (!L2.BX w),[],bP _ hS,⟨rfl,rfl,rfl⟩,rfl,rfl,List.Perm.refl _,List.nodup_nil,by show 0<scanBound;decide,rfl,?_,λz=>absurd rfl z⟩;show L2.BX w=true\/(!L2.BX w)=true;cases L2.BX w<;>simp
    case hR=>
     intro h' tk hk Kt;show wpAny _ _ _ _ _ _;refine bc ?_
     show wpAny _ _ (ret Value.none) _ _ _;refine bc ⟨rfl,h',tk,rfl,Kt,λb o hb e=>?_⟩;exact hk b o (bY hb) (by rw[SG];exact bY (lJ hb)) (bP _ (bP _ e))
   ·cases M with
    |error e=>exact S
    |ok WX=>
     cases WX with
     |ret r=>
      obtain⟨rfl,h',tk,rfl,Kt,Ob⟩:=S
      repeat(any_goals (first|assumption|wp_step))
      exact h _ _ Kt Ob
     |_=>exact S.elim
  |_=>exact n.elim
end
end
open PySem.Calls
section
variable {prog:Program}{ss:List Str}
theorem KD{Q:Bool->Shared->Prop}(q:s.TypeIs (.ref a) "set")(h:Q false s):wpAny (model prog w) A (Builtin.List.listLengthHint (.ref a)) Q E s:=by
 unfold Builtin.List.listLengthHint;refine aS (wpAny_specialOf q PySem.F.slot_set_len.lookup ?_);generalize bZ:("set.__len__":String)=g
 wp_delta
 rw[show splitId g=some ("set","__len__")from by subst bZ;decide+kernel];subst bZ;refine aS (pf (T:="set") (b:=true) q (by rw[isSubtype_type];kernel_rfl) ?_);refine mF (λl=>absurd l (by decide)) (λ_=>?_);refine mF (λ_=>?_) (λl=>absurd (by decide+kernel) l);exact aS (tD q (bc h))
theorem CV{R:Result->Shared->Prop}(hh:A.handled=none)(hS:lE w s.heap a ss)(L:Addr)(hLa:L≠a)(res:Value)(hL:s.heap.get? L=some {cls:=.type "list",data:=.seq #[] 0})
  (hR:∀h' tk d ki c' l,(l.map (·.1)).Perm ss->(∀b o,b≠L->s.heap.get? b=some o->h'.get? b=some o)->h'.get? L=some {cls:=.type "list",dict:=none,data:=.seq ki c',slots:=#[]}->ItemsOf (strAt l) ki l.length->
   R (.ok (.ret res)) {s with heap:=h',toks:=tk,drawn:=d}) (hn:ss.length<=sizeLine):
  wpAny (model prog w) A.in1 (Builtin.List.listExtendWith (.ref L) (.ref a) res) (λfin s'=>match fin with|.done f=>R (.ok f) s'|.again c'=>c'.quiet=true/\codeAny (model prog w) A c' R s') (λe s'=>R (.error e) s') s:=by
 have WY:L<s.heap.objs.size:=bu hL;unfold Builtin.List.listExtendWith;refine aS (tD (T:="set") hS.typeIs ?_);have h1:Builtin.List.listSameRef (.ref L) (.ref a)=false:=by simp[Builtin.List.listSameRef,hLa]
 have h2:(Value.type "set"==Value.type "list")=false:=by decide
 have h3:(Value.type "set"==Value.type "tuple")=false:=by decide
 simp only[h1,h2,h3,pv,cR,cq];refine aS (Ia hS λfR d I fp St l hp r hI zf W st=>?_);have b9:l.length=ss.length:=by have q:=hp.length_eq;rw[bt]at q;exact q
 have WS:Shared.TypeIs {s with heap:=fR,drawn:=d} (.ref a) "set":=by
  obtain⟨o,ho,hc⟩:=hS.typeIs;exact⟨o,r _ _ ho,hc⟩
 have g:L∉fp:=λm=>by
  rcases zf L m with e|e
  ·exact hLa e
  ·exact absurd (c_ WY e) (eP _)
 have hLI:L≠I:=bY (c_ WY hI);have M:=r _ _ hL;have key:∀(h:Heap) (c₁ tk:Nat),St 0 h->(∀b o,b≠L->s.heap.get? b=some o->h.get? b=some o)->h.get? L=some {cls:=.type "list",data:=.seq #[] c₁}->
   codeAny (model prog w) A (.builtin "list.extend.loop" ⟨[.ref L,.ref I,res],[]⟩) R {s with heap:=h,toks:=tk,drawn:=d}:=by
  intro h c₁ tk cD S WZ;refine codeAny_extend_loopS (W A.in1 hh).toS (by omega) L g res l.length 0 _ #[] c₁ rfl (d5 _) cD WZ (ItemsOf.nil _) λs' ki c' hm CW sk=>?_
  rw[Moved.eq_with hm];refine hR s'.heap s'.toks d ki c' l hp (λb o hb e=>hm.heap b o (λHX=>?_) (S b o hb e)) CW sk;rcases bE.mp HX with e'|HX
  ·exact hb e'
  ·exact absurd (c_ (bu e) hI) (by rw[de.mp HX];exact eP _)
 refine aS (fw (KD WS ?_));refine mF (λ_=>?_) (λ_=>bc ⟨g0 PySem.F.plain_extend_loop _,key _ 0 _ st (λb o _ e=>r b o e) M⟩);refine aS (fE ?_);refine aS ?_
 show wpAny _ _ (updateSeq L (·.push .none)>>=λ_=>updateSeq L (·.pop)) _ _ _;refine aS (pq M rfl ?_);have Qh:=sN (Obj.mapSeq (·.push Value.none)) M rfl;refine pq (hz:=by seq_fits) Qh rfl ?_
 have W0:=sN (Obj.mapSeq (·.pop)) Qh rfl;refine bc ⟨g0 PySem.F.plain_extend_loop _,key _ _ _ ?_ (λb o hb e=>?_) W0⟩
 ·refine(W A.in1 hh).frame 0 _ _ st λb hb o e=>?_
  have n:b≠L:=λz=>g (z▸hb);exact(ny _ _ (Ne.symm n)).trans ((ny _ _ (Ne.symm n)).trans e)
 ·exact(ny _ _ (Ne.symm hb)).trans ((ny _ _ (Ne.symm hb)).trans (r b o e))
theorem A9{R:List Value->Shared->Prop}(hh:A.handled=none)(hS:lE w s.heap a ss)(hn:ss.length<=sizeLine)
  (h:∀(h':Heap) (tk:Nat) (d:Drawn) (l:List (Str×Tok)),(l.map (·.1)).Perm ss->(∀b o,s.heap.get? b=some o->h'.get? b=some o)->s.heap.objs.size<=h'.objs.size->R (l.map EN) {s with heap:=h',toks:=tk,drawn:=d}):wpAny (model prog w) A (collect (.ref a)) R E s:=by
 have gm:a<s.heap.objs.size:=by obtain⟨o,ho,_⟩:=hS.typeIs;exact bu ho
 have M:∀(l:List (Str×Tok)) (acc:Array Value),ItemsOf (strAt l) acc l.length->acc.toList=l.map EN:=λl acc hi=>by
  refine oY λi=>?_
  rw[b_,nz];cases e:acc[i]? with
  |none=>
   have S:acc.size<=i:=Array.getElem?_eq_none_iff.mp e;rw[hi.1]at S;rw[jg.mpr S];rfl
  |some v=>exact(hi.2 i v e).symm
 unfold collect;refine aS (wpAny_runValue (fL entry_proto_collect' ?_));rw[gV B5 _];show wpAny _ A.in1 (newList []>>=λl=>again (.builtin "list.__iadd__" ⟨[l,.ref a],[]⟩)) _ _ s;refine aS (kG ?_);refine bc ⟨g0 sI _,fL entry_list_iadd' ?_⟩;rw[gV sI _];have hL:(s.heap.push {cls:=.type "list",data:=.seq ([]:List Value).toArray}).get? s.heap.objs.size=some {cls:=.type "list",data:=.seq #[]}:=cp _ rfl;show wpAny _ A.in1 (Builtin.List.listExtendWith (.ref s.heap.objs.size) (.ref a) (.ref s.heap.objs.size)) _ _ _;have key:=CV (prog:=prog) (A:=A) (s:={s with heap:=s.heap.push {cls:=.type "list",data:=.seq ([]:List Value).toArray}}) (ss:=ss)
  (R:=λ(q:Result) (s':Shared)=>∃(h':Heap) (tk:Nat) (d:Drawn) (g:Array Value) (r:Nat) (l:List (Str×Tok)),q=.ok (.ret (.ref s.heap.objs.size))/\s'={s with heap:=h',toks:=tk,drawn:=d}/\
   (l.map (·.1)).Perm ss/\(∀b o,s.heap.get? b=some o->h'.get? b=some o)/\h'.get? s.heap.objs.size=some {cls:=.type "list",dict:=none,data:=.seq g r,slots:=#[]}/\ItemsOf (strAt l) g l.length)
  hh (hS.keep λo e=>bP _ e) s.heap.objs.size (dJ gm) (.ref s.heap.objs.size) hL
  (λh' tk d g r l hp I n L=>⟨h',tk,d,g,r,l,rfl,rfl,hp,λb o e=>I b o (bY (bu e)) (bP _ e),n,L⟩) hn
 refine d6 key (λfin s' x=>?_) λe s' x=>?_
 ·cases fin with
  |done f=>
   obtain⟨h',tk,d,g,r,l,e,rfl,hp,I,n,L⟩:=x;cases e;show wpAny _ A (load s.heap.objs.size>>=_) _ _ _;refine aS (pB n ?_);refine bc ?_
   rw[M l g L];exact h h' tk d l hp I (dB (bu n))
  |again c₁=>
   refine⟨x.1,iA x.2 λq tR y=>?_⟩;obtain⟨h',tk,d,g,r,l,rfl,rfl,hp,I,n,L⟩:=y;show wpAny _ A (load s.heap.objs.size>>=_) _ _ _;refine aS (pB n ?_);refine bc ?_
   rw[M l g L];exact h h' tk d l hp I (dB (bu n))
 ·obtain⟨_,_,_,_,_,_,e',_⟩:=x;cases e'
theorem yd:∀l:List (Str×Tok),StrsAre (l.map EN) (l.map (·.1))
 |[]=>.nil
 |p::r=>.cons p.1 p.2 (yd r)
def CY(hh:A.handled=none)(hS:lE w s.heap a ss)(ER:ss.length<64)
  (h:∀h' tk d D out n BY,(∀b o,s.heap.get? b=some o->h'.get? b=some o)->s.heap.objs.size<=D->h'.get? D=some {cls:=.type "list",data:=.seq out n}->StrsAre out.toList BY->BY.Perm ss->sortedS BY=true->
   Q (.ref D) {s with heap:=h',toks:=tk,drawn:=d}):wpAny (model prog w) A (call (.builtin "sorted") [.ref a]) Q E s:=by
 have hz:ss.length<=sizeLine:=by rw[dQ];omega
 refine call_function_entry kind_sorted plain_sorted entry_sorted (args_sorted1 _) ?_
 unfold Builtin.«sorted»;refine aS (m:=checkCount "sorted" 1 1 _) (bc ?_);refine aS (A9 (A:=A.in1) hh hS hz λg tk d l hp S hle=>?_);have b9:l.length=ss.length:=by have q:=hp.length_eq;rw[bt]at q;exact q
 refine aS (pz ?_ (by show(l.map EN).length<=_;rw[bt];omega));have r:=yd l;have I:(g.push (seqObj "list" (l.map EN).toArray 0)).get? g.objs.size=some (seqObj "list" (l.map EN).toArray 0):=cp _ rfl;refine aS (fw (gX slot_list_sort ⟨_,I,rfl⟩ entry_list_sort
  (list_sort_treeK strKind_oneLt I r.keysOf (λaaK aaL c9 e=>keyKind_strs (by rw[<-e];exact r)) (by rw[bt];omega) λL a1 a2=>⟨_,rfl,?_⟩) (args_list_sort _)))
 refine bc ⟨_,rfl,?_⟩;obtain⟨BY,q1,q2,q3⟩:=sorted_out_str r a1 a2;obtain⟨e,he⟩:=sortedHeap_at (out:=(arrOf L).map (·.2)) I;refine h _ tk d g.objs.size ((arrOf L).map (·.2)) e BY (λb o q=>?_) hle he q1 (q2.trans hp) q3;have hb:=S b o q;have M:=bu hb;rw[sortedHeap_old (bY M) (by rw[jv];exact lJ M)];exact bP _ hb
end
noncomputable def C0(a b:Str):Bool:=!decide (b.cps.toList<a.cps.toList)
def wd:C0 x av=true↔x.cps.toList<=av.cps.toList:=by
 unfold C0;rw[oZ,wI];exact Iff.rfl
theorem zZ{c:Str}(q:C0 x av=true)(h2:C0 av c=true):C0 x c=true:=by
 rw[wd]at*;exact List.le_trans q h2
theorem Ib(a b:Str):(C0 a b||C0 b a)=true:=by
 rw[Bool.or_eq_true,wd,wd];exact List.le_total _ _
theorem KG{b:Str}(q:C0 x b=true)(h2:C0 b x=true):x=b:=by
 rw[wd]at*;exact ext_toList (List.le_antisymm q h2)
def cZ(ss:List Str):List Str:=ss.mergeSort C0
def eD(ss:List Str):(cZ ss).Perm ss:=List.mergeSort_perm ss _
def sq(ss:List Str):(cZ ss).Pairwise (λa b=>C0 a b=true):=List.pairwise_mergeSort (le:=C0) (λa b c g h2=>zZ g h2) Ib ss
theorem vy:∀(p:Str) (l:List Str),risingS p l=true->(p::l).Pairwise (λa b=>C0 a b=true)
 |p,[],_=>List.pairwise_singleton _ _
 |p,x::r,h=>by
  have h':(!ltCps x.cps.toList p.cps.toList&&risingS x r)=true:=h;rw[bU,ltCps_eq]at h';have n:=vy x r h'.2;have hp:C0 p x=true:=h'.1;refine List.pairwise_cons.mpr ⟨λy g=>?_,n⟩;rcases bE.mp g with rfl|g
  ·exact hp
  ·exact zZ hp (List.rel_of_pairwise_cons n g)
theorem C1:∀l:List Str,sortedS l=true->l.Pairwise (λa b=>C0 a b=true)
 |[],_=>List.Pairwise.nil
 |x::r,h=>vy x r h
def vz{b:List Str}(hp:ps.Perm b)(q:ps.Pairwise (λps b=>C0 ps b=true))(hb:b.Pairwise (λps b=>C0 ps b=true)):ps=b:=
 hp.eq_of_pairwise (λx y _ _ g h2=>KG g h2) q hb
def uk{ss:List Str}(hp:ps.Perm ss)(hs:sortedS ps=true):ps=cZ ss:=vz (hp.trans (eD ss).symm) (C1 _ hs) (sq ss)
def C5{b:List Str}(h:ps.Perm b):cZ ps=cZ b:=vz ((eD ps).trans (h.trans (eD b).symm)) (sq ps) (sq b)
def Ic(w:World)(a:Addr)(ss:List Str):HO:=.ext λh=>lE w h a ss
theorem qO:∀{vs:List Value} {ss:List Str},StrsAre vs ss->Vals (ss.map V.str) vs
 |_,_,.nil=>.nil
 |_,_,.cons y t r=>.cons ⟨t,rfl⟩ (qO r)
theorem u5:∀{ss:List Str} {vs:List Value},Vals (ss.map V.str) vs->StrsAre vs ss
 |[],_,.nil=>.nil
 |y::r,_,.cons b g=>by
  obtain⟨t,rfl⟩:=(show∃t,_=Value.str y t from b);exact .cons y t (u5 g)
def Ie(ts:List Str):(List.range' 0 ts.length).map (λi=>ts.getD i Str.empty)=ts:=by
 refine List.ext_getElem (by simp) λi b h2=>?_
 simp[h2]
def Inv.Oc (I:Inv X U Z H s)(d:Drawn):Inv X U Z H {s with drawn:=d}:=
 I.step (h':=s.heap) (H':=H) (g':=s.gens) (t':=s.toks) (d':=d) (ch:=[]) (λ_ z=>nomatch z) (λb o _ _ _ e _=>e) (λb o _ _ _ e _=>⟨o.slots,e⟩) (λb o _ _ n=>n) (λb o _ e=>⟨o,e⟩) (λ_ _ e=>e) (λ_ _ _ e=>e)
   (λb ps e=>⟨#[],by rw[e];simp⟩) (λm hm=>hm) I.cU I.bare
theorem Ig(hc:X.calm=true):gC X (.type "set") (λxs H Q=>∃(p:Addr) (ts:List Str),xs=[.ref p]/\lL X.K H p (ts.map V.str)/\ts.length+1<scanBound/\∀a,H a=none->Q (.ref a) (upd H a (Ic X.w a (eN [] ts)))):=by
 intro U s Z H xs us Q I r h;obtain⟨p,ts,rfl,S,hb,q⟩:=h;obtain⟨u,rfl,g⟩:=vals1 r;cases(show u=Value.ref p from g);obtain⟨cn,rv,pl,hz⟩:=I.list S;have l:cn.length=ts.length:=by have e:=rv.length;rw[bt]at e;exact e.symm
 refine KA (val:=λi=>ts.getD i Str.empty) (I.ok.hd hc) pl.isList (λi v hv=>?_) (by rw[cS,l];exact hb) λh' tk n hk=>?_
 ·have L:cn[i]?=some v:=by simpa using hv
  have hi:i<ts.length:=by rw[<-l];exact(gb.mp L).1
  obtain⟨u,M,g⟩:=rv.get (i:=i) (x:=V.str ts[i]) (by rw[b_,bV hi];rfl);rw[L]at M;cases M;obtain⟨t,rfl⟩:=(show∃t,v=Value.str ts[i] t from g);exact⟨t,by rw[eJ,bV hi];rfl⟩
 ·have e0:cn.toArray.size=ts.length:=by rw[cS];exact l
  rw[e0,Ie]at n;have hf:H s.heap.objs.size=none:=I.fresh;refine⟨.ref s.heap.objs.size,_,I.laid (o:=Ic X.w s.heap.objs.size (eN [] ts)) (λb o e=>hk b o (bu e) e) (bz _) ⟨n,?_,λh1 h2 x k=>lE.keep x k⟩,rfl,q _ hf⟩;obtain⟨o,_,_,_,_,ho,_⟩:=n;exact⟨o,ho⟩
theorem ye(hc:X.calm=true):gC X (.builtin "sorted") (λxs H Q=>∃(a:Addr) (ss:List Str),xs=[.ref a]/\H a=some (Ic X.w a ss)/\ss.length<64/\∀D,H D=none->Q (.ref D) (upd H D (.lst ((cZ ss).map V.str)))):=by
 intro U s Z H xs us Q I r h;obtain⟨a,ss,rfl,ha,g,q⟩:=h;obtain⟨u,rfl,l⟩:=vals1 r;cases(show u=Value.ref a from l);obtain⟨L,_,_⟩:=(show cV X.prog X.w H s.heap a (.ext λh=>lE X.w h a ss)from I.cU a _ ha);refine CY (I.ok.hd hc) L g λh' M d D out n BY S b hg cD hp hs=>?_
 have e:=uk hp hs;subst e;have hf:H D=none:=I.cU.fresh b;have hz:((cZ ss).map V.str).length<=sizeLine:=by
  rw[bt,(eD ss).length_eq,dQ];omega
 have I1:Inv X U Z (upd H D (.lst ((cZ ss).map V.str))) {s with heap:=h',toks:=M}:=I.laid (o:=.lst ((cZ ss).map V.str)) S b ⟨hz,out.toList,n,qO cD,by rw[sM];exact hg⟩;exact⟨.ref D,_,I1.Oc d,rfl,q _ hf⟩
theorem A_:gC X (.builtin "sorted") (λxs H Q=>∃(a:Addr) (ss:List Str),xs=[.ref a]/\lL X.K H a (ss.map V.str)/\ss.length<64/\∀D,H D=none->Q (.ref D) (upd H D (.lst ((cZ ss).map V.str)))):=by
 intro U s Z H xs us Q I r h;obtain⟨a,ss,rfl,ha,ER,q⟩:=h;obtain⟨u,rfl,l⟩:=vals1 r;cases(show u=Value.ref a from l);obtain⟨cn,rv,pl,_⟩:=I.list ha;have cD:=u5 rv;have b9:cn.length=ss.length:=by have e:=rv.length;rw[bt]at e;exact e.symm
 refine sorted_strs pl.isList cD (by omega) λout BY L h2 M=>?_
 have e:=uk h2 M;subst e;obtain⟨n,S⟩:=sortedAll_at s.heap cn out;have g:s.heap.objs.size<=s.heap.objs.size+1:=pA _;have hf:H (s.heap.objs.size+1)=none:=I.cU.fresh g;have hz:((cZ ss).map V.str).length<=sizeLine:=by
  rw[bt,(eD ss).length_eq,dQ];omega
 exact⟨.ref (s.heap.objs.size+1),_,I.laid (t':=s.toks) (o:=.lst ((cZ ss).map V.str)) (λb o e=>sortedAll_old e) g ⟨hz,out.toList,n,qO L,by rw[sM];exact S⟩,rfl,q _ hf⟩
theorem yf{t:Addr}{x:Value}(hit:s.heap.IsTupleIter au t i)(q:s.heap.IsTuple t ak)(hx:ak[i]?=some x)
  (hQ:∀h',h'.IsTupleIter au t (i+1)->Heap.SameBut au s.heap h'->Q x {s with heap:=h'}):wpAny (model P w) A (Builtin.SmallTypes.nextOf (.ref au)) Q E s:=by
 have key:wpAny (model P w) A (pyNext (.ref au)) (λr s'=>∃v,r=some v/\Q v s') (λ_ _=>False) s:=wpAny_pyNext_tuple_item hit q hx λh' a b=>⟨x,rfl,hQ h' a b⟩;obtain⟨o,g,l,hd⟩:=id hit;obtain⟨ol,n,_,nl,I⟩:=q;unfold Builtin.SmallTypes.nextOf;refine aS (qF (name:=Str.ofString "__next__") hit.typeIs sF (gX sF hit.typeIs F.entry_tuple_iterator_next ?_ (F.args_tuple_iterator_next_1 _)));show wpAny _ _ (field (.ref au) 0>>=_) _ _ s;refine aS (gi g hd (x:=.ref t) rfl ?_);show wpAny _ _ (if(Value.ref t==Value.none)=true then _ else _) _ _ s;rw[bb (show¬((Value.ref t==Value.none)=true)from fK)];show wpAny _ _ (field (.ref au) 1>>=_) _ _ s;refine aS (gi g hd (x:=.int i 0) rfl ?_);show wpAny _ _ (seqItems? (.ref t)>>=_) _ _ s;refine aS (gZ n I ?_);simp only[lK,hx];refine aS (wpAny_setField g hd (by simp) (bc ⟨x,rfl,bc (hQ _ ?_ (oX ..))⟩));exact⟨_,sN _ g (Obj.isFreed_of_fields (Obj.data_mapFields hd _)),(Obj.cls_mapFields ..).trans l,by rw[Obj.data_mapFields hd];simp[rawInt]⟩
theorem Ih{t:Addr}(q:A.handled=none)(hit:s.heap.IsTupleIter a t i)(ht:s.heap.IsTuple t ak)(hx:ak[i]?=none)
  (hE:∀h' (e:Addr),Heap.ExtBut a s.heap h'->Shared.TypeIs {s with heap:=h'} (.ref e) "StopIteration"->E (.ref e) {s with heap:=h'}):wpAny (model P w) A (Builtin.SmallTypes.nextOf (.ref a)) Q E s:=by
 obtain⟨o,g,L,hd⟩:=id hit;obtain⟨ol,l,_,nl,n⟩:=ht;unfold Builtin.SmallTypes.nextOf;refine aS (qF (name:=Str.ofString "__next__") hit.typeIs sF (gX sF hit.typeIs F.entry_tuple_iterator_next ?_ (F.args_tuple_iterator_next_1 _)));show wpAny _ _ (field (.ref a) 0>>=_) _ _ s;refine aS (gi g hd (x:=.ref t) rfl ?_);show wpAny _ _ (if(Value.ref t==Value.none)=true then _ else _) _ _ s;rw[bb (show¬((Value.ref t==Value.none)=true)from fK)];show wpAny _ _ (field (.ref a) 1>>=_) _ _ s;refine aS (gi g hd (x:=.int i 0) rfl ?_);show wpAny _ _ (seqItems? (.ref t)>>=_) _ _ s;refine aS (gZ l n ?_);simp only[lK,hx];refine aS (fE (aS (wpAny_setField g hd (by simp) ?_)));show wpAny _ _ (newExc (.type "StopIteration") []>>=_) _ _ _;refine aS (yb q λh' x r I=>?_);exact hE h' x (λb o hb e=>I b o ((oX ..).extBut b o hb e)) r
structure ZA(z TI TO i1 i2:Addr):Prop where
 TIz:TI≠z
 TOz:TO≠z
 i1z:i1≠z
 i2z:i2≠z
 TITO:TI≠TO
 TIi1:TI≠i1
 TIi2:TI≠i2
 TOi1:TO≠i1
 TOi2:TO≠i2
 i12:i1≠i2
theorem Ii{TO i1 i2 l1 l2:Addr}{ys:Array Value}{x y b:Value}(D:ZA a au TO i1 i2)(hz:IsZip s.heap a au TO .none)(ES:IsPair s.heap au (.ref i1) (.ref i2))(Ij:IsPair s.heap TO af b)
  (h1:s.heap.IsTupleIter i1 l1 i) (h2:s.heap.IsTupleIter i2 l2 az) (Je:s.heap.IsTuple l1 ak) (MT:s.heap.IsTuple l2 ys) (d1:l1≠a/\l1≠TO/\l1≠i1/\l1≠i2) (d2:l2≠a/\l2≠TO/\l2≠i1/\l2≠i2) (hx:ak[i]?=some x) (hy:ys[az]?=some y)
  (hQ:∀h',IsZip h' a au TO (rawInt s.heap.objs.size)->IsPair h' TO x y->h'.IsTupleIter i1 l1 (i+1)->h'.IsTupleIter i2 l2 (az+1)->IsPair h' s.heap.objs.size x y->
   (∀c o,c≠a->c≠TO->c≠i1->c≠i2->s.heap.get? c=some o->h'.get? c=some o)->aM (some (.ref s.heap.objs.size)) {s with heap:=h'}):wpAny (model P w) A (pyNext (.ref a)) aM E s:=by
 have hT:s.TypeIs (.ref a) "zip":=⟨_,hz,rfl⟩;unfold pyNext;refine aS (tB (qF (name:=Str.ofString "__next__") hT s_ (gX s_ hT F.entry_zip_next ?_ (F.args_zip_next_1 _))));show wpAny _ _ (field (.ref a) 2>>=_) _ _ _;refine aS (gi hz rfl (x:=.bool false) rfl ?_);show wpAny _ _ (field (.ref a) 3>>=_) _ _ _;refine aS (gi hz rfl (x:=.ref au) rfl (aS (gZ ES rfl ?_)));show wpAny _ _ (Builtin.SmallTypes.ownedTupleIsFree (.ref a)>>=_) _ _ _;refine aS ?_
 unfold Builtin.SmallTypes.ownedTupleIsFree;refine aS (gi hz rfl (x:=.none) rfl (bc ?_));simp only[cC];refine aS (fE (aS (gi hz rfl (x:=.ref TO) rfl ?_)));refine aS (ji hz (by simp) λfR yg l=>?_);replace yg:IsZip fR a au TO .ellipsis:=yg;refine aS ?_
 simp only[List.zipIdx_cons,List.zipIdx_nil,o_,xj];refine aS (aS (wpAny_onRaise ?_));show wpAny _ _ (Builtin.SmallTypes.nextOf (.ref i1)>>=_) _ _ _;refine aS (yf (s:={s with heap:=fR}) (h1.extBut l.extBut D.i1z) (Je.extBut l.extBut d1.1) hx λpL W3 r=>bc ?_);have KH:IsPair pL TO af b:=r.extBut _ _ D.TOi1 (l.extBut _ _ D.TOz Ij);refine aS (gZ KH rfl (aS (wpAny_updateSeq_pair KH λza ET I=>?_)));replace ET:IsPair za TO x b:=ET;refine aS (mH (bc (aS (aS (wpAny_onRaise ?_)))));show wpAny _ _ (Builtin.SmallTypes.nextOf (.ref i2)>>=_) _ _ _;refine aS (yf (s:={s with heap:=za}) (((h2.extBut l.extBut D.i2z).extBut r.extBut D.i12.symm).extBut I.extBut D.TOi2.symm) (((MT.extBut l.extBut d2.1).extBut r.extBut d2.2.2.1).extBut I.extBut d2.2.1) hy λRK W4 L=>bc ?_);have KJ:IsPair RK TO x b:=L.extBut _ _ D.TOi2 ET;refine aS (gZ KJ rfl (aS (wpAny_updateSeq_pair KJ λg S M=>?_)));replace S:IsPair g TO x y:=S;refine aS (mH (bc (bc ?_)));refine aS (gZ S rfl (aS (wpAny_newTuple ?_)));have hsz:g.objs.size=s.heap.objs.size:=by rw[M.1,L.1,I.1,r.1,l.1]
 have Qi:IsZip g a au TO .ellipsis:=M.extBut _ _ D.TOz.symm (L.extBut _ _ D.i2z.symm (I.extBut _ _ D.TOz.symm (r.extBut _ _ D.i1z.symm yg)));have W5:∀c o,c≠a->c≠TO->c≠i1->c≠i2->s.heap.get? c=some o->g.get? c=some o:=λc o n q c3 c4 e=>M.extBut _ _ q (L.extBut _ _ c4 (I.extBut _ _ q (r.extBut _ _ c3 (l.extBut _ _ n e))));have W6:g.IsTupleIter i1 l1 (i+1):=((W3.extBut I.extBut D.TOi1.symm).extBut L.extBut D.i12).extBut M.extBut D.TOi1.symm;have W7:g.IsTupleIter i2 l2 (az+1):=W4.extBut M.extBut D.TOi2.symm;have W8:a<g.objs.size:=bu Qi;show wpAny _ _ (Builtin.SmallTypes.ownedTupleHandOut (.ref a) (.ref g.objs.size)>>=_) _ _ _;refine aS ?_
 unfold Builtin.SmallTypes.ownedTupleHandOut;have W9:IsZip (g.push {cls:=.type "tuple",data:=.seq #[x,y]}) a au TO .ellipsis:=bP _ Qi;refine aS (ji W9 (by simp) λaaM KN W_=>?_);replace KN:IsZip aaM a au TO (rawInt g.objs.size):=KN;refine ji KN (by simp) λOd Gx Xa=>?_
 replace Gx:IsZip Od a au TO (rawInt g.objs.size):=Gx;have up:∀c o,c≠a->g.get? c=some o->Od.get? c=some o:=λc o n e=>Xa.extBut _ _ n (W_.extBut _ _ n (bP _ e));have Qj:IsPair Od g.objs.size x y:=Xa.extBut _ _ (dJ W8) (W_.extBut _ _ (dJ W8) (cp _ rfl));rw[hsz]at Gx Qj;refine bc ⟨_,rfl,bc ?_⟩;show aM (some (.ref g.objs.size)) _;rw[hsz];exact hQ Od Gx (up _ _ D.TOz S) (W6.at λo e=>up _ o D.i1z e) (W7.at λo e=>up _ o D.i2z e) Qj λc o n q c3 c4 e=>up c o n (W5 c o n q c3 c4 e)
theorem KO{z i1 i2 l1:Addr}{b:Value}(hh:A.handled=none)(D:ZA z a au i1 i2)(hz:IsZip s.heap z a au .none)(ES:IsPair s.heap a (.ref i1) (.ref i2))(Ij:IsPair s.heap au af b)
  (h1:s.heap.IsTupleIter i1 l1 i) (Je:s.heap.IsTuple l1 ak) (d1:l1≠z) (hx:ak[i]?=none)
  (hQ:∀h',(∀c o,c≠z->c≠i1->s.heap.get? c=some o->h'.get? c=some o)->aM none {s with heap:=h'}):wpAny (model P w) A (pyNext (.ref z)) aM E s:=by
 have M:s.TypeIs (.ref z) "zip":=⟨_,hz,rfl⟩;unfold pyNext;refine aS (tB (qF (name:=Str.ofString "__next__") M s_ (gX s_ M F.entry_zip_next ?_ (F.args_zip_next_1 _))));show wpAny _ _ (field (.ref z) 2>>=_) _ _ _;refine aS (gi hz rfl (x:=.bool false) rfl ?_);show wpAny _ _ (field (.ref z) 3>>=_) _ _ _;refine aS (gi hz rfl (x:=.ref a) rfl (aS (gZ ES rfl ?_)));show wpAny _ _ (Builtin.SmallTypes.ownedTupleIsFree (.ref z)>>=_) _ _ _;refine aS ?_
 unfold Builtin.SmallTypes.ownedTupleIsFree;refine aS (gi hz rfl (x:=.none) rfl (bc ?_));simp only[cC];refine aS (fE (aS (gi hz rfl (x:=.ref au) rfl ?_)));refine aS (ji hz (by simp) λS n r=>?_);replace n:IsZip S z a au .ellipsis:=n;refine aS ?_
 simp only[List.zipIdx_cons,List.zipIdx_nil,o_,xj];refine aS (aS (wpAny_onRaise ?_));show wpAny _ _ (Builtin.SmallTypes.nextOf (.ref i1)>>=_) _ _ _;refine aS (Ih (s:={s with heap:=S}) hh (h1.extBut r.extBut D.i1z) (Je.extBut r.extBut d1) hx λI e u3 he=>?_);have Qk:IsZip I z a au .ellipsis:=u3 _ _ D.i1z.symm n;obtain⟨oe,g,l⟩:=he;have L:e≠z:=λq=>by
  have Xb:I.get? e=some oe:=g;rw[q,Qk]at Xb;cases Xb;simp at l
 refine ji (s:={s with heap:=I}) Qk (by simp) λza _ Ba=>?_
 refine aS (pf (s:={s with heap:=za}) (T:="StopIteration") (b:=true) ⟨oe,Ba.extBut _ _ L g,l⟩ isSubtype_stop ?_);exact bc (hQ za λc o c1 c2 q=>Ba.extBut _ _ c1 (u3 _ _ c2 (r.extBut _ _ c1 q)))
section
variable {h':Heap}
def jl.apart {b:Addr}{xs:List V}(I:Inv X U Z H s)(h:jl X.K H a xs)(f:kP X U H b):a≠b:=by
 rcases h with(h|⟨o,h⟩)|⟨o,cn,n,g,_⟩
 ·exact bR h f.1
 ·exact bR h f.1
 ·intro e;subst e;have hb:=I.ok.mod.Pu a o g;rcases f.2.2.2.1 with q|q
  ·exact I.ok.AA a o hb q
  ·exact absurd (c_ (bu (I.ok.bs a o hb).1) q) (eP _)
def Inv.Ik {ch:List Addr}{T:Addr}{o:HO}{t':Nat}(I:Inv X U Z H s)(zu:∀b∈ch,kP X U H b)(k:∀b o,b∉ch->s.heap.get? b=some o->h'.get? b=some o)(hT:s.heap.objs.size<=T)
  (new:cV X.prog X.w (upd H T o) h' T o):Inv X U Z (upd H T o) {s with heap:=h',toks:=t'}:=by
 have l:H T=none:=I.cU.fresh hT;have r:∀b u,H b=some u->b∉ch:=λb u e m=>by rw[(zu b m).1]at e;cases e
 refine I.step (g':=s.gens) (d':=s.drawn) (ch:=ch) (λb hb=>?_) (λb o _ _ g e _=>k b o g e) (λb o _ _ g e _=>⟨o.slots,k b o g e⟩) (λb o _ e n=>?_) (λb o g e=>⟨o,k b o g e⟩) (λb xs e=>?_) (λb o u e=>?_) (λb ps e=>⟨#[],?_⟩) (λm hm=>?_) (λb u e=>?_) I.bare
 ·obtain⟨_,L,_,x3,M,S⟩:=zu b hb;exact⟨x3,L,M,S⟩
 ·rw[bh (bY (c_ (bu e) hT))];exact n
 ·rw[bh (bR e l)];exact e
 ·rw[bh (bR e l)];exact e
 ·rw[bh (bR e l),e];simp
 ·exact hm.at' λo e=>k _ o (λz=>(zu _ z).2.1 rfl) e
 ·by_cases hb:b=T
  ·subst hb;rw[bK]at e;cases e;exact new
  ·rw[bh hb]at e;refine(I.cU b u e).pD (λc v g q=>k c v ?_ q) (λc q=>by rw[bh (bR q l)];exact q) λc xs q=>by rw[bh (bR q l)];exact q
   rcases g with rfl|g
   ·exact r c u e
   ·exact r c _ g
def Inv.qP {ch:List Addr}{t':Nat}(I:Inv X U Z H s)(zu:∀b∈ch,kP X U H b)(k:∀b o,b∉ch->s.heap.get? b=some o->h'.get? b=some o):Inv X U Z H {s with heap:=h',toks:=t'}:=by
 have l:∀b u,H b=some u->b∉ch:=λb u e m=>by rw[(zu b m).1]at e;cases e
 refine I.step (g':=s.gens) (d':=s.drawn) (ch:=ch) (λb hb=>?_) (λb o _ _ g e _=>k b o g e) (λb o _ _ g e _=>⟨o.slots,k b o g e⟩) (λb o _ e n=>n) (λb o g e=>⟨o,k b o g e⟩) (λb xs e=>e) (λb o u e=>e) (λb ps e=>⟨#[],by rw[e];simp⟩) (λm hm=>?_) (λb u e=>?_) I.bare
 ·obtain⟨_,r,_,x3,L,M⟩:=zu b hb;exact⟨x3,r,L,M⟩
 ·exact hm.at' λo e=>k _ o (λz=>(zu _ z).2.1 rfl) e
 ·refine(I.cU b u e).pD (λc v g q=>k c v ?_ q) (λc q=>q) λc xs q=>q;rcases g with rfl|g
  ·exact l c u e
  ·exact l c _ g
end
def Itz(K:Frag)(a b:Addr):It:=
 ⟨λi H=>∃xs ys x y,jl K H a xs/\jl K H b ys/\xs[i]?=some x/\ys[i]?=some y,
  λi H v H'=>∃T x y,v=.ref T/\H T=none/\H'=upd H T (.tup [x,y])/\(∀xs,jl K H a xs->xs[i]?=some x)/\(∀ys,jl K H b ys->ys[i]?=some y),
  λi H=>∃xs,jl K H a xs/\xs.length<=i⟩
theorem Xc{G:Prop}(k:∀P:Prop,(G->P)->P):G:=k G id
theorem KQ{z TO i1 i2 b:Addr}(D:ZA z au TO i1 i2):
  Turn P w K (.Tuple aA az pos) (Itz K a b) [z,au,TO,i1,i2] z (λi h=>IsZip h z au TO .none/\IsPair h au (.ref i1) (.ref i2)/\(∃p q,IsPair h TO p q)/\h.IsTupleIter i1 a i/\h.IsTupleIter i2 b i) where
 mem:=by simp
 obj:=λi h st c M=>by
  obtain⟨hz,g,⟨p,q,l⟩,⟨o1,e1,c1,d1⟩,⟨o2,e2,c2,d2⟩⟩:=st;simp only[bE,cN,cO]at M;rcases M with rfl|rfl|rfl|rfl|rfl
  ·exact⟨_,hz,λv e=>by cases(show Data.fields _=Data.cell v from e)⟩
  ·exact⟨_,g,λv e=>by cases(show Data.seq _ _=Data.cell v from e)⟩
  ·exact⟨_,l,λv e=>by cases(show Data.seq _ _=Data.cell v from e)⟩
  ·exact⟨o1,e1,λv e=>by rw[d1]at e;cases e⟩
  ·exact⟨o2,e2,λv e=>by rw[d2]at e;cases e⟩
 keep:=λi h h' st k=>by
  obtain⟨hz,g,⟨p,q,l⟩,h1,h2⟩:=st;exact⟨k z (by repeat constructor) _ hz,k au (by repeat constructor) _ g,⟨p,q,k TO (by repeat constructor) _ l⟩,h1.at λo e=>k i1 (by repeat constructor) o e,h2.at λo e=>k i2 (by repeat constructor) o e⟩
 item:=by
  intro X hP hw hK M i U s Z H E I hf st hg;subst hP hw hK;refine Xc λP go=>?_
  obtain⟨xs,ys,x,y,r,n,hx,hy⟩:=hg;obtain⟨hz,g,⟨p,q,l⟩,h1,h2⟩:=st;obtain⟨KR,Zu,p1,_⟩:=I.tuple r;obtain⟨xu,MP,p2,_⟩:=I.tuple n;obtain⟨S,hu1,ru1⟩:=Zu.get hx;obtain⟨u2,hu2,Xd⟩:=MP.get hy;have Zv:∀c∈[z,au,TO,i1,i2],a≠c:=λc m=>r.apart I (hf c m);have Zw:∀c∈[z,au,TO,i1,i2],b≠c:=λc m=>n.apart I (hf c m);refine go ?_
  refine Ii D hz g l h1 h2 (show s.heap.IsTuple a KR.toArray from p1) (show s.heap.IsTuple b xu.toArray from p2) ⟨Zv _ (by repeat constructor),Zv _ (by repeat constructor),Zv _ (by repeat constructor),Zv _ (by repeat constructor)⟩ ⟨Zw _ (by repeat constructor),Zw _ (by repeat constructor),Zw _ (by repeat constructor),Zw _ (by repeat constructor)⟩
   (x:=S) (y:=u2) (by simpa using hu1) (by simpa using hu2) λfR g1 g2 g3 g4 g5 kk=>?_
  refine⟨_,rfl,wpAny_letOwnedTupleGo_zip g1 λpL k1 L=>?_⟩;have lt:∀{c:Addr} {o:Obj},s.heap.get? c=some o->s.heap.objs.size≠c:=λe=>dJ (bu e);have hTz:s.heap.objs.size≠z:=lt hz;have up:∀c o,c∉[z,TO,i1,i2]->s.heap.get? c=some o->pL.get? c=some o:=λc o m e=>by
   simp only[bE,cN,cO,not_or]at m;exact L.extBut _ _ m.1 (kk c o m.1 m.2.1 m.2.2.1 m.2.2.2 e)
  have Nl:IsPair pL s.heap.objs.size S u2:=L.extBut _ _ hTz g5;refine⟨.ref s.heap.objs.size,_,I.Ik (t':=s.toks) (ch:=[z,TO,i1,i2]) (T:=s.heap.objs.size) (o:=.tup [x,y]) (λc m=>hf c ?_) up (bz _) ⟨by show 2<=sizeLine;decide,[S,u2],.cons ru1 (.cons Xd .nil),⟨_,Nl,rfl,_,rfl⟩⟩,rfl,
   ⟨s.heap.objs.size,x,y,rfl,I.fresh,rfl,λxs' h=>by rw[I.qI h r];exact hx,λys' h=>by rw[I.qI h n];exact hy⟩,
   ⟨k1,L.extBut _ _ D.TIz (kk _ _ D.TIz D.TITO D.TIi1 D.TIi2 g),⟨S,u2,L.extBut _ _ D.TOz g2⟩,g3.extBut L.extBut D.i1z,g4.extBut L.extBut D.i2z⟩,λc m=>?_⟩
  ·simp only[bE,cN,cO]at m;rcases m with rfl|rfl|rfl|rfl<;>repeat constructor
  ·rw[bh ?_]
   ·exact(hf c m).1
   ·simp only[bE,cN,cO]at m;obtain⟨o1,e1,_⟩:=h1;obtain⟨o2,e2,_⟩:=h2;rcases m with rfl|rfl|rfl|rfl|rfl
    ·exact(lt hz).symm
    ·exact(lt g).symm
    ·exact(lt l).symm
    ·exact(lt e1).symm
    ·exact(lt e2).symm
 done:=by
  intro X hP hw hK M i U s Z H E I hf st hg;subst hP hw hK;obtain⟨xs,r,hx⟩:=hg;obtain⟨hz,g,⟨p,q,l⟩,h1,h2⟩:=st;obtain⟨KR,Zu,p1,_⟩:=I.tuple r;have hl:=Zu.length;refine KO (I.ok.hd M) D hz g l h1 (show s.heap.IsTuple a KR.toArray from p1) (r.apart I (hf z (by repeat constructor))) (by simp;omega) λh' kk=>⟨rfl,?_⟩;refine I.qP (t':=s.toks) (ch:=[z,i1]) (λc m=>hf c ?_) λc o m e=>?_
  ·simp only[bE,cN,cO]at m⊢;rcases m with h|h<;>simp[h]
  ·simp only[bE,cN,cO,not_or]at m;exact kk c o m.1 m.2 e
 self:=λ_ _ _ _ _ st h=>wpAny_pyIter_zip st.1 h
def SI(n:Nat):ZA (n+4) (n+2) (n+3) n (n+1):=⟨bY (by omega),bY (by omega),bY (by omega),bY (by omega),bY (by omega),dJ (by omega),dJ (by omega),dJ (by omega),dJ (by omega),bY (by omega)⟩
def aaN(K:Frag)(ta:TA):TI:=λZ H R=>ta Z H λvs H1=>∃a b xs ys,vs=[.ref a,.ref b]/\jl K H1 a xs/\jl K H1 b ys/\R (Itz K a b) H1
def Il:bootBuiltins "zip"=some (.type "zip"):=by decide+kernel
theorem SJ{b:Expr}{ta:TA}(hg:Gl X "zip")(hm:X.mg "zip"=none)(ha:PA X [o,b] ta)(hs:starEach [o,b] X.env=[(false,eval o X.env),(false,eval b X.env)]:=by rfl) (Vv:starEach [b] X.env=[(false,eval b X.env)]:=by rfl):
  PI X (.Tuple aA i b8) (.Call (.Name "zip" p) [o,b] [] pos) (aaN X.K ta):=by
 intro U s Z H R I h;refine Call_ (uQ I hg hm Il (wC (eC (ha pos U s Z H _ I h) λus s1 ⟨vs,H1,g,r1,l⟩=>?_) (by rw[hs,Vv]) (by rw[Vv];rfl)));obtain⟨c,d,xs,ys,e,n,hd,q⟩:=l;subst e;obtain⟨u,v,rfl,r,rv⟩:=vals2 r1;cases(show u=Value.ref c from r);cases(show v=Value.ref d from rv);obtain⟨L,Zu,p1,_⟩:=g.tuple n;obtain⟨M,MP,p2,_⟩:=g.tuple hd;refine Hf (show s1.heap.IsTuple c L.toArray from p1) (show s1.heap.IsTuple d M.toArray from p2) λh' hz S Ij g1 g2 kk=>?_
 have I2:Inv X U Z H1 {s1 with heap:=h'}:=g.kept (t':=s1.toks) kk;refine wpAny_pyIter_zip hz ⟨s1.heap.objs.size+4,[s1.heap.objs.size+4,s1.heap.objs.size+2,s1.heap.objs.size+3,s1.heap.objs.size,s1.heap.objs.size+1],_,_,H1,rfl,I2,KQ (SI _),⟨hz,S,⟨_,_,Ij⟩,g1,g2⟩,λb m=>?_,q⟩;have hb:s1.heap.objs.size<=b:=by
  simp only[bE,cN,cO]at m;rcases m with rfl|rfl|rfl|rfl|rfl
  ·exact mE _ 4
  ·exact mE _ 2
  ·exact mE _ 3
  ·exact bz _
  ·exact mE _ 1
 exact g.xn hb (g.cU.fresh hb)
noncomputable def Qm(us ws:List Tr):List Tr:=List.zipWith (λa b=>.tup [a,b]) us ws
section
variable {a b:Expr}
def Im{b:Addr}{ws:List V}{us:List Tr}(h:jl K (bZ B H) au ar)(r:bM K (bZ B H) ar ts)(h2:jl K (bZ B H) b ws)(r2:bM K (bZ B H) ws us)(hl:ts.length<=us.length):lP K B (Itz K au b) H (Qm ts us) where
 go:=λi B' H' hi s hb=>by
  have l:i<ts.length:=by unfold Qm at hi;rw[List.length_zipWith]at hi;omega
  have n:i<ar.length:=by rw[r.length];exact l
  have hw:i<ws.length:=by rw[r2.length];omega
  exact⟨ar,ws,ar[i],ws[i],bf.tup bG (s.h.tup h),bf.tup bG (s.h.tup h2),by simp[n],by simp[hw]⟩
 FI:=λi B' H' x ML hi s hb ⟨T,y,z,I,g,L,q,M⟩=>by
  subst I L;obtain⟨t,S,rt⟩:=r.xF (q ar (bf.tup bG (s.h.tup h)));obtain⟨u,eu,ru⟩:=r2.xF (M ws (bf.tup bG (s.h.tup h2)));refine⟨bf.upd g,.tup [t,u],by unfold Qm;rw[List.getElem?_zipWith,S,eu],.tup (.of (hb.new g)) (.cons ((rt.same s).same (bI (bf.upd g))) (.cons ((ru.same s).same (bI (bf.upd g))) .nil))⟩
 stop:=λB' H' s=>⟨ar,bf.tup bG (s.h.tup h),by unfold Qm;rw[List.length_zipWith,r.length];omega⟩
def zpW(l:Rs (List Tr)):Rs (List Tr):=l.bind λts=>match ts with
 |[.tup us,.tup ws]=>if us.length<=ws.length then .ok (Qm us ws)else .bad
 |_=>.bad
theorem Xe(hm:X.mg "zip"=none)(ha:PA X [a,b] (Ct X L))(hg:Gl X "zip":=by rfl) (hs:bx [a,b]=true:=by rfl):PI X (.Tuple aA az b8) (.Call (.Name "zip" p) [a,b] [] pos) (tI X λY=>zpW (L Y)):=
 (SJ hg hm ha (by rw[bJ _ _ (bj hs).1,bJ _ _ (bj (bj hs).2).1];rfl) (by rw[bJ _ _ (bj (bj hs).2).1];rfl)).weak λZ H R ⟨B,Y,hb,r,q⟩=>⟨B,Y,hb,r,q.bind.mono λts g vs H1 s1 l=>by
  split at g
  ·obtain⟨x,y,e,h1,h2⟩:=zI l;obtain⟨_,_,rfl,h,rr⟩:=h1.dR;obtain⟨_,_,rfl,h',n⟩:=h2.dR;split at g
   ·rename_i I;exact⟨_,_,_,_,e,bf.tup bG h,bf.tup bG h',g _ H1 s1 (Im h rr h' n I)⟩
   ·exact g.elim
  ·exact g.elim⟩
def Oe:Tr->Rs Tr
 |.str z=>.ok (.str z)
 |.int i=>if i.natAbs.log2<1920/\(Str.ofString (toString i)).length<=cY then .ok (.str (Str.ofString (toString i)))else .bad
 |_=>.bad
theorem SK(h:PE X e (tP X F)):PE X (.FormattedValue e (-1) none pos) (tP X λY=>(F Y).bind Oe):=by
 intro U s Z H Q I ⟨B,Y,hb,r,q⟩;refine FormattedValue_plain (eC (h U s Z H (λx H1=>∃t,Rep X.K (bZ B H1) x t/\bf H H1/\Fi X H (Oe t) λt=>∀e H',bf H H'->Rep X.K (bZ B H') e t->Q e H') I ⟨B,Y,hb,r,q.bind.mono λt n e H1 s1 r1=>⟨t,r1,s1,n⟩⟩) λu s1 ⟨x,H1,b,g,t,rt,l,k⟩=>?_);cases rt with
 |str z hz=>
  obtain⟨L,rfl⟩:=(show∃t,u=Value.str z t from g);exact formatField_str (λt' M=>⟨.str z,H1,b.tok _,⟨_,rfl⟩,k _ H1 l (.str z hz)⟩) (cB hz lN)
 |int i=>
  obtain⟨L,rfl⟩:=(show∃t,u=Value.int i t from g);obtain⟨⟨k1,k2⟩,k⟩:=gD k;exact formatField_int_small k1 ⟨.str _,H1,(b.tok _).tok _,⟨_,rfl⟩,k _ H1 l (.str _ k2)⟩
 |_=>exact fe k
def PJ(X:Cx)(aA:List Expr)(J:bT->Str->Rs Tr):Prop:=∀(U:List (Addr×Obj)) (s:Shared) (Z:St) (H:Hp) (acc:Str) (Q:VK),Inv X U Z H s->tP X (λY=>J Y acc) Z H Q->wpAny (model X.prog X.w) X.A (joinParts acc (evalEach aA X.env)) (EP X U Z Q) X.xe s
def Be(acc:Str):Rs Tr:=if acc.length<=cY then .ok (.str acc)else .bad
theorem Xf:PJ X [] λ_ acc=>Be acc:=by
 intro U s Z H acc Q I ⟨B,Y,hb,r,q⟩;obtain⟨b,k⟩:=gD q;exact joinParts_nil ⟨.str acc,H,I.tok _,⟨_,rfl⟩,k _ H (bf.refl H) (.str acc b)⟩ (cB b lN)
def mX(r:Rs Tr)(J:Str->Rs Tr)(acc:Str):Rs Tr:=r.bind λt=>match t with
 |.str y=>if(acc++y).length<=cY then J (acc++y)else .bad
 |_=>.bad
theorem SM{J:bT->Str->Rs Tr}(h:PE X e (tP X F))(hr:PJ X aA J):PJ X (e::aA) λY acc=>mX (F Y) (J Y) acc:=by
 intro U s Z H acc Q I ⟨B,Y,hb,r,q⟩;refine joinParts_cons (eC (h U s Z H (λx H1=>∃y,x=.str y/\(acc++y).length<=cY/\bf H H1/\Fi X H (J Y (acc++y)) λt=>∀v H',bf H H'->Rep X.K (bZ B H') v t->Q v H') I ⟨B,Y,hb,r,q.bind.mono λt b v H1 s1 n=>?_⟩) λu s1 ⟨x,H1,L,M,y,ex,g,l,k⟩=>?_)
 ·cases n with
  |str y hy=>
   by_cases g:(acc++y).length<=cY
   ·exact⟨y,rfl,g,s1,by have k:Fi X H (if(acc++y).length<=cY then J Y (acc++y)else .bad) _:=b;rw[aV g]at k;exact k⟩
   ·have k:Fi X H (if(acc++y).length<=cY then J Y (acc++y)else .bad) _:=b;rw[bb g]at k;exact fe k
  |_=>exact fe b
 ·subst ex;obtain⟨tk,rfl⟩:=(show∃t,u=Value.str y t from M);exact⟨cB g lN,hr U s1 Z H1 _ Q L ⟨B,Y,hb.same l,r.same l,(k.same l).mono λt b v H2 s2 S=>b v H2 (l.trans s2) S⟩⟩
theorem Of{J:bT->Str->Rs Tr}(h:PJ X (e::o::aA) J):PE X (.JoinedStr (e::o::aA) pos) (tP X λY=>J Y Str.empty):=λU s Z H Q I q=>JoinedStr_many (h U s Z H Str.empty Q I q)
def yh:List Tr->Rs (List String)
 |[]=>.ok []
 |.ty n::ts=>(yh ts).bind λns=>.ok (n::ns)
 |_::_=>.bad
theorem Gy:∀{ts:List Tr} {ns:List String},yh ts=.ok ns->ts=ns.map Tr.ty
 |[],ns,h=>by cases h;rfl
 |t::ts,ns,h=>by
  cases t with
  |ty n=>
   cases e:yh ts with
   |ok ms=>
    rw[yh,e]at h;cases h;rw[Gy e];rfl
   |_=>rw[yh,e]at h;cases h
  |_=>cases h
theorem C6:∀{ts:List Tr} {c:Tr},yh ts≠ .exc c
 |[],c,h=>by cases h
 |t::ts,c,h=>by
  cases t with
  |ty n=>
   cases e:yh ts with
   |ok ms=>rw[yh,e]at h;cases h
   |exc b=>exact C6 e
   |bad=>rw[yh,e]at h;cases h
  |_=>cases h
theorem C7{H:Vw}:∀{ns:List String} {vs:List V},bM K H vs (ns.map Tr.ty)->vs=ns.map V.ty
 |[],_,r=>by cases r;rfl
 |n::ns,_,r=>by
  cases r with
  |cons h r=>cases h;rw[C7 r];rfl
theorem Gz(K:Frag)(a:String)(q:a∈["NoneType","bool","int","str","tuple","list","dict"]):∀(cs:List String),(∀c∈cs,c∈kinds)->PySem.W.kitAny K (.type a) (cs.map Value.type)=some (cs.any λc=>a==c||(a=="bool"&&c=="int"))
 |[],_=>rfl
 |c::cs,h=>by
  have b:=Gz K a q cs λd m=>h d (ck _ m);have k1:=Gf K a q c (h c (cz ..));rw[bL,PySem.W.kitAny,k1,b,jk];cases(a==c||(a=="bool"&&c=="int"))<;>rfl
def Qn:List Tr->Rs Tr
 |[t,.tup cs]=>(yh cs).bind λns=>if xV t=true/\ns.all (λc=>kinds.contains c)=true then .ok (.bl (ns.any (Zk t)))else .bad
 |_=>.bad
def Xg{W:Vw}{H:Hp}{x:V}{t:Tr}(r:Rep K W x t)(f:xV t=true):xX t∈["NoneType","bool","int","str","tuple","list","dict"]/\PQ x=true/\tV K H x (.type (xX t)):=by
 cases r with
 |cx=>exact⟨.head _,rfl,.cx⟩
 |bl b=>exact⟨.tail _ (.head _),rfl,.bl b⟩
 |int i=>exact⟨.tail _ (.tail _ (.head _)),rfl,.int i⟩
 |str z _=>exact⟨.tail _ (.tail _ (.tail _ (.head _))),rfl,.str z⟩
 |_=>cases f
theorem SN:lO X (.builtin "isinstance") Qn:=by
 intro U s Z H xs us Q I b ⟨B,ts,hb,r,q⟩;unfold Qn at q;split at q
 ·rename_i t cs;obtain⟨az,M,rfl,h1,h2⟩:=zI r;obtain⟨a,vs,rfl,h,rr⟩:=h2.dR;cases e:yh cs with
  |exc c=>exact(C6 e).elim
  |bad=>rw[e]at q;exact fe q
  |ok ns=>
   rw[e]at q;have f:=gD q;have g:=Gy e;subst g;have ev:=C7 rr;subst ev;have mem:∀c∈ns,c∈kinds:=λc m=>by
    have:=dz.mp f.1.2 c m;simpa using this
   obtain⟨l,n,tx⟩:=Xg (H:=H) h1 f.1.1;refine HC U s Z H _ us Q I b ⟨_,_,ns,.type (xX t),_,rfl,n,h.up,tx,Gz X.K _ l ns mem,?_⟩;have L:(ns.any λc=>xX t==c||(xX t=="bool"&&c=="int"))=ns.any (Zk t):=rfl;rw[L];exact f.2 _ H (bf.refl H) (.bl _)
 ·exact fe q
end
theorem yi:∀{xs:List V} {cn:List Value},xs.length=cn.length->(∀(i:Nat) (x:V) (u:Value),xs[i]?=some x->cn[i]?=some u->RelV x u)->Vals xs cn
 |[],[],_,_=>.nil
 |[],_::_,h,_=>by cases h
 |_::_,[],h,_=>by cases h
 |x::xs,u::us,h,k=>.cons (k 0 x u rfl rfl) (yi (by simpa using h) λi y w b g=>k (i+1) y w (by simpa using b) (by simpa using g))
def u6{k:Key}{v:Value}(h:mK k v=true):RelV (kV k) v:=by
 rcases dN h with⟨j,t,b,g⟩|⟨y,t,b,g⟩
 ·rw[b,g];exact⟨t,rfl⟩
 ·rw[b,g];exact⟨t,rfl⟩
def Io{kvs:List (Key×V)}{vs:List (Key×Value)}(q:KV kvs vs)(hi:ItemsOf (λi v=>∃k x,vs[i]?=some (k,x)/\mK k v=true) ak vs.length):Vals (kvs.map λp=>kV p.1) ak.toList:=by
 refine yi (by have e:=hi.1;rw[bt,sg q,<-e,gc]) λi x u b l=>?_
 rw[nz]at l;obtain⟨k,y,n,r⟩:=hi.2 i u l;rw[b_]at b;cases g:kvs[i]? with
 |none=>rw[g]at b;cases b
 |some p=>
  rw[g]at b;cases b;obtain⟨z,I⟩:=A5 q (k:=p.1) (v:=p.2) g;rw[I]at n;cases n;exact u6 r
section
variable {prog:Program}{vs:List (Key×Value)}{ep:Nat}
theorem Bf{R:List Value->Shared->Prop}(hh:A.handled=none)(hd:(a==sysModules)=false)(hm:s.heap.DictAt (cj prog w) a vs ep)(hn:vs.length<=sizeLine)
  (h:∀(h':Heap) (tk:Nat) (acc:Array Value),ItemsOf (λi v=>∃k x,vs[i]?=some (k,x)/\mK k v=true) acc vs.length->(∀b o,s.heap.get? b=some o->h'.get? b=some o)->s.heap.objs.size<=h'.objs.size->R acc.toList {s with heap:=h',toks:=tk}):wpAny (model prog w) A (collect (.ref a)) R E s:=by
 have M:a<s.heap.objs.size:=hm.lt_size;unfold collect;refine aS (wpAny_runValue (fL entry_proto_collect' ?_));rw[gV B5 _];show wpAny _ A.in1 (newList []>>=λl=>again (.builtin "list.__iadd__" ⟨[l,.ref a],[]⟩)) _ _ s;refine aS (kG ?_);refine bc ⟨g0 sI _,fL entry_list_iadd' ?_⟩;rw[gV sI _];have S:(s.heap.push {cls:=.type "list",data:=.seq ([]:List Value).toArray}).get? s.heap.objs.size=some {cls:=.type "list",data:=.seq #[]}:=cp _ rfl;show wpAny _ A.in1 (Builtin.List.listExtendWith (.ref s.heap.objs.size) (.ref a) (.ref s.heap.objs.size)) _ _ _;have key:=PySem.W.kdl_extend (prog:=prog) (A:=A) (s:={s with heap:=s.heap.push {cls:=.type "list",data:=.seq ([]:List Value).toArray}})
  (R:=λ(q:Result) (s':Shared)=>∃(h':Heap) (tk:Nat) (g:Array Value) (r:Nat),q=.ok (.ret (.ref s.heap.objs.size))/\s'={s with heap:=h',toks:=tk}/\
   (∀b o,s.heap.get? b=some o->h'.get? b=some o)/\h'.get? s.heap.objs.size=some {cls:=.type "list",dict:=none,data:=.seq g r,slots:=#[]}/\ItemsOf (λi v=>∃k x,vs[i]?=some (k,x)/\mK k v=true) g vs.length)
  (PySem.W.kdl_dict (knd:=cj prog w) (kvs:=vs) (ep:=ep) hd) hh (hm.push _) s.heap.objs.size (dJ M) (dJ M) (.ref s.heap.objs.size) 0 S
  (λh' tk g r I n L=>⟨h',tk,g,r,rfl,rfl,λb o e=>I b o (bY (bu e)) (bP _ e),n,L⟩) hn
 refine d6 key (λfin s' x=>?_) λe s' x=>?_
 ·cases fin with
  |done f=>
   obtain⟨h',tk,g,r,e,rfl,I,n,L⟩:=x;cases e;show wpAny _ A (load s.heap.objs.size>>=_) _ _ _;refine aS (pB n ?_);exact bc (h h' tk g L I (dB (bu n)))
  |again c₁=>
   refine⟨x.1,iA x.2 λq tR y=>?_⟩;obtain⟨h',tk,g,r,rfl,rfl,I,n,L⟩:=y;show wpAny _ A (load s.heap.objs.size>>=_) _ _ _;refine aS (pB n ?_);exact bc (h h' tk g L I (dB (bu n)))
 ·obtain⟨_,_,_,_,e',_⟩:=x;cases e'
def C8{ss:List Str}(hh:A.handled=none)(hd:(a==sysModules)=false)(hm:s.heap.DictAt (cj prog w) a vs ep)(hv:vs.map (·.1)=ss.map Sum.inr)(ER:ss.length<64)
  (h:∀h' tk D out n BY,(∀b o,s.heap.get? b=some o->h'.get? b=some o)->s.heap.objs.size<=D->h'.get? D=some {cls:=.type "list",data:=.seq out n}->StrsAre out.toList BY->BY.Perm ss->sortedS BY=true->
   Q (.ref D) {s with heap:=h',toks:=tk}):wpAny (model prog w) A (call (.builtin "sorted") [.ref a]) Q E s:=by
 have M:vs.length=ss.length:=by have q:=cT List.length hv;rw[bt,bt]at q;exact q
 have hz:vs.length<=sizeLine:=by rw[dQ];omega
 refine call_function_entry kind_sorted plain_sorted entry_sorted (args_sorted1 _) ?_
 unfold Builtin.«sorted»;refine aS (m:=checkCount "sorted" 1 1 _) (bc ?_);refine aS (Bf (A:=A.in1) hh hd hm hz λl tk acc hi hk hle=>?_);have r:StrsAre acc.toList ss:=by
  refine u5 (yi (by have e:=hi.1;rw[bt,<-M,<-e,gc]) λi x u g S=>?_);rw[nz]at S;obtain⟨k,y,e3,e4⟩:=hi.2 i u S;have I:(vs.map (·.1))[i]?=some k:=by rw[b_,e3];rfl
  rw[hv,b_]at I;rw[b_]at g;cases e6:ss[i]? with
  |none=>rw[e6]at g;cases g
  |some z=>rw[e6]at g I;cases g;cases I;exact u6 e4
 have b9:acc.toList.length=ss.length:=by rw[gc,hi.1,M]
 refine aS (pz ?_ (by rw[b9,dQ];omega));have L:(l.push (seqObj "list" acc.toList.toArray 0)).get? l.objs.size=some (seqObj "list" acc.toList.toArray 0):=cp _ rfl;refine aS (fw (gX slot_list_sort ⟨_,L,rfl⟩ entry_list_sort
  (list_sort_treeK strKind_oneLt L r.keysOf (λaaK aaL c9 e=>keyKind_strs (by rw[<-e];exact r)) (by rw[b9];omega) λxo a1 a2=>⟨_,rfl,?_⟩) (args_list_sort _)))
 refine bc ⟨_,rfl,?_⟩;obtain⟨BY,q1,q2,q3⟩:=sorted_out_str r a1 a2;obtain⟨e,he⟩:=sortedHeap_at (out:=(arrOf xo).map (·.2)) L;refine h _ tk l.objs.size ((arrOf xo).map (·.2)) e BY (λb o q=>?_) hle he q1 q2 q3;have hb:=hk b o q;have gm:=bu hb;rw[sortedHeap_old (bY gm) (by rw[jv];exact lJ gm)];exact bP _ hb
end
section
theorem EU(hc:X.calm=true):gC X (.type "list") (λxs H Q=>∃(a:Addr) (kvs:List (Key×V)),xs=[.ref a]/\Rd H a (.dK kvs)/\∀D,H D=none->Q (.ref D) (upd H D (.lst (kvs.map λp=>kV p.1)))):=by
 intro U s Z H xs us Q I r h;obtain⟨a,kvs,rfl,ha,q⟩:=h;obtain⟨u,rfl,b⟩:=vals1 r;cases(show u=Value.ref a from b);obtain⟨hz,hs,vs,rv,hm⟩:=(show cV X.prog X.w H s.heap a (.dK kvs)from ha.ok I.cU);obtain⟨ep,hm⟩:=hm.dictAt;have g:=sg rv;refine PySem.W.kdl_call (PySem.W.kdl_dict (knd:=cj X.prog X.w) (kvs:=vs) (ep:=ep) hs) (I.ok.hd hc) hm (by rw[<-g];exact hz) λh' l n L M S sk=>?_
 have hf:H s.heap.objs.size=none:=I.fresh;exact⟨.ref s.heap.objs.size,_,I.laid (t':=l) (o:=.lst (kvs.map λp=>kV p.1)) M (bz _) ⟨by rw[bt];exact hz,n.toList,L,Io rv sk,by rw[sM];exact S⟩,rfl,q _ hf⟩
theorem Bg(hc:X.calm=true):gC X (.builtin "sorted") (λxs H Q=>∃(a:Addr) (kvs:List (Key×V)) (ss:List Str),xs=[.ref a]/\Rd H a (.dK kvs)/\kvs.map (·.1)=ss.map Sum.inr/\ss.length<64/\∀D,H D=none->Q (.ref D) (upd H D (.lst ((cZ ss).map V.str)))):=by
 intro U s Z H xs us Q I r h;obtain⟨a,kvs,ss,rfl,ha,b,l,q⟩:=h;obtain⟨u,rfl,L⟩:=vals1 r;cases(show u=Value.ref a from L);obtain⟨hz,hs,vs,rv,hm⟩:=(show cV X.prog X.w H s.heap a (.dK kvs)from ha.ok I.cU);obtain⟨ep,hm⟩:=hm.dictAt;have M:vs.map (·.1)=ss.map Sum.inr:=by
  rw[<-b];refine oY λi=>?_
  rw[b_,b_];cases e:kvs[i]? with
  |none=>
   have S:vs[i]?=none:=jg.mpr (by rw[<-sg rv];exact jg.mp e)
   rw[S];rfl
  |some p=>
   obtain⟨z,e6⟩:=A5 rv (k:=p.1) (v:=p.2) e;rw[e6];rfl
 refine C8 (I.ok.hd hc) hs hm M l λh' tk D out n BY b g hg cD hp hs=>?_
 have e:=uk hp hs;subst e;have hf:H D=none:=I.cU.fresh g;have hz:((cZ ss).map V.str).length<=sizeLine:=by
  rw[bt,(eD ss).length_eq,dQ];omega
 exact⟨.ref D,_,I.laid (t':=tk) (o:=.lst ((cZ ss).map V.str)) b g ⟨hz,out.toList,n,qO cD,by rw[sM];exact hg⟩,rfl,q _ hf⟩
noncomputable def oo:List Tr->Option (List Str)
 |[]=>some []
 |.str z::ts=>(oo ts).map λr=>z::r
 |_=>none
theorem u7{W:Vw}:∀{vs:List V} {ts:List Tr} {ss:List Str},bM K W vs ts->oo ts=some ss->vs=ss.map V.str/\∀z∈ss,z.length<=cY
 |[],[],ss,_,e=>by cases e;exact⟨rfl,λz h=>by cases h⟩
 |[],_::_,_,h,_=>by cases h
 |v::vs,ts,ss,h,e=>by
  cases h with
  |cons h r=>
   cases h with
   |str z hz=>
    rename_i ts;have b:(oo ts).map (λr=>z::r)=some ss:=e;cases q:oo ts with
    |none=>rw[q]at b;cases b
    |some rs=>
     rw[q]at b;cases b;obtain⟨l,h2⟩:=u7 r q;exact⟨by rw[l];rfl,λy g=>by
      rcases bE.mp g with rfl|g
      ·exact hz
      ·exact h2 y g⟩
   |_=>cases e
def vA:List (Key×Tr)->Option (List Str)
 |[]=>some []
 |(.inr z,_)::ts=>if z.length<=cY then(vA ts).map λr=>z::r else none
 |_=>none
theorem C9:∀{bB:List (Key×Tr)} {ss:List Str},vA bB=some ss->bB.map (·.1)=ss.map Sum.inr/\∀z∈ss,z.length<=cY
 |[],ss,e=>by cases e;exact⟨rfl,λz h=>by cases h⟩
 |(.inl _,_)::_,_,e=>by cases e
 |(.inr z,t)::ts,ss,e=>by
  have b:(if z.length<=cY then(vA ts).map λr=>z::r else none)=some ss:=e;by_cases hz:z.length<=cY
  ·rw[aV hz]at b;cases q:vA ts with
   |none=>rw[q]at b;cases b
   |some rs=>
    rw[q]at b;cases b;obtain⟨h1,h2⟩:=C9 q;exact⟨by rw[bL,bL,h1],λy g=>by
     rcases bE.mp g with rfl|g
     ·exact hz
     ·exact h2 y g⟩
  ·rw[bb hz]at b;cases b
def z5(o:Option (List Str)):Rs Tr:=match o with
 |some ss=>if ss.length<64 then .ok (.lst ((cZ ss).map .str))else .bad
 |none=>.bad
def nM:List Tr->Rs Tr
 |[.lst ts]=>z5 (oo ts)
 |[.bW bB]=>z5 (vA bB)
 |_=>.bad
def yj{W:Vw}(h:∀z∈ps,z.length<=cY):bM K W ((cZ ps).map V.str) ((cZ ps).map Tr.str):=zH λz hz=>h z ((eD ps).mem_iff.mp hz)
def z6{o:Option (List Str)}(q:Fi X H (z5 o) aB):∃ss,o=some ss/\ss.length<64/\aB (.lst ((cZ ss).map .str)):=by
 unfold z5 at q;split at q
 ·have f:=gD q;exact⟨_,rfl,f.1,f.2⟩
 ·exact q.elim
theorem jB(hc:X.calm=true):lO X (.builtin "sorted") nM:=by
 intro U s Z H xs us Q I n ⟨B,ts,hb,r,q⟩;unfold nM at q;split at q
 ·obtain⟨x,rfl,b⟩:=fT r;obtain⟨a,vs,rfl,h,rr⟩:=b.lst_inv;obtain⟨ss,g,l,k⟩:=z6 q;obtain⟨rfl,hs⟩:=u7 rr g;exact A_ U s Z H _ us Q I n ⟨_,ss,rfl,.of (d7 h),l,λp hp=>k _ _ (bf.upd hp) (.zd hb hp (yj hs))⟩
 ·obtain⟨x,rfl,b⟩:=fT r;obtain⟨a,kvs,rfl,h,L,rr⟩:=b.nG;obtain⟨ss,g,l,k⟩:=z6 q;obtain⟨M,hs⟩:=C9 g;exact Bg hc U s Z H _ us Q I n ⟨_,_,ss,rfl,h.same bG,L.trans M,l,λp hp=>k _ _ (bf.upd hp) (.zd hb hp (yj hs))⟩
 ·exact q.elim
def EV:List Tr->Rs Tr
 |[.bW bB]=>(CN bB).bind λts=>.ok (.lst ts)
 |_=>.bad
theorem C_{W:Vw}:∀{kvs:List (Key×V)} {bB:List (Key×Tr)},kvs.map (·.1)=bB.map (·.1)->bB.all (λp=>keyOk p.1)=true->bM K W (kvs.map λp=>kV p.1) (bB.map λp=>zV p.1)
 |[],[],_,_=>.nil
 |[],_::_,e,_=>by cases e
 |_::_,[],e,_=>by cases e
 |(k1,v)::kvs,(k2,t)::bB,e,h=>by
  rw[bL,bL]at e;injection e with b g
  have l:k1=k2:=b;subst l;rw[iz,bU]at h;exact .cons (zW h.1) (C_ g h.2)
theorem Og(hc:X.calm=true):lO X (.type "list") EV:=by
 intro U s Z H xs us Q I b ⟨B,ts,hb,r,q⟩;unfold EV at q;split at q
 ·obtain⟨x,rfl,g⟩:=fT r;obtain⟨a,kvs,rfl,h,l,rr⟩:=g.nG;have f:=gD (Fi.bind q);exact EU hc U s Z H _ us Q I b ⟨_,_,rfl,h.same bG,λp hp=>f.2 _ _ (bf.upd hp) (.zd hb hp (C_ l f.1))⟩
 ·exact q.elim
def pY:Tr->Rs Tr
 |.lst ts=>match oo ts with
  |some ss=>if ss.length<64 then .ok (.lst ((cZ (eN [] ss)).map .str))else .bad
  |none=>.bad
 |_=>.bad
variable {l:Expr}{p1 p2 Xh Xi:Pos}
end
def vS(ts:List Tr)(x:Tr):Rs Tr:=if r8 x=true/\ts.all xV=true then(match ts.findIdx? (λy=>eqT y x)with|some j=>.ok (.int j)|none=>.bad)else .bad
def Oh(ts:List Tr)(x:Tr):Rs Tr:=if r8 x=true/\ts.all xV=true then .ok (.int (ts.countP λy=>eqT y x:Nat))else .bad
theorem GA{W:Vw}{x:Tr}:∀{vs:List V} {ts:List Tr} {us:List Value},bM K W vs ts->ts.all xV=true->Vals vs us->us.map (eU x)=ts.map λy=>eqT y x
 |[],_,_,r,_,rv=>by cases r;cases rv;rfl
 |_::_,_,_,r,f,rv=>by
  cases r with
  |cons h r=>
   cases rv with
   |cons b rv=>
    rw[iz,bU]at f;rw[bL,bL,ED h f.1 b,GA r f.2 rv]
theorem GB{x:Tr}{j:Nat}(e:aq.map (eU x)=ts.map λy=>eqT y x)(h:ts.findIdx? (λy=>eqT y x)=some j):∃hj:j<aq.length,eU x aq[j]=true/\∀m (hm:m<aq.length),m<j->eU x aq[m]=false:=by
 obtain⟨hj,h1,h2⟩:=BZ.mp h;have b:aq.length=ts.length:=by have q:=cT List.length e;rw[bt,bt]at q;exact q
 have at_:∀(i:Nat) (h1:i<aq.length) (h2:i<ts.length),eU x aq[i]=eqT ts[i] x:=λi h1 h2=>by
  have q:=cT (λl:List Bool=>l[i]?) e;simp only[b_,bV h1,bV h2]at q;exact Option.some.inj q
 refine⟨by rw[b];exact hj,by rw[at_ j _ hj];exact h1,λm hm g=>?_⟩;rw[at_ m hm (by rw[<-b];exact hm)];have q:=h2 m g;cases z:eqT ts[m] x with
 |false=>rfl
 |true=>exact absurd z q
def C'{x:Tr}(q:Fi X H (vS ts x) aB):r8 x=true/\ts.all xV=true/\∃j:Nat,ts.findIdx? (λy=>eqT y x)=some j/\aB (.int j):=by
 unfold vS at q;by_cases z:r8 x=true/\ts.all xV=true
 ·rw[aV z]at q;cases e:ts.findIdx? (λy=>eqT y x)with
  |none=>rw[e]at q;exact fe q
  |some j=>rw[e]at q;exact⟨z.1,z.2,j,rfl,q⟩
 ·rw[bb z]at q;exact fe q
def KU{x:Tr}(q:Fi X H (Oh ts x) aB):r8 x=true/\ts.all xV=true/\aB (.int (ts.countP λy=>eqT y x:Nat)):=by
 unfold Oh at q;by_cases z:r8 x=true/\ts.all xV=true
 ·rw[aV z]at q;exact⟨z.1,z.2,q⟩
 ·rw[bb z]at q;exact fe q
theorem count_at{x:Tr}(e:aq.map (eU x)=ts.map λy=>eqT y x):aq.countP (eU x)=ts.countP λy=>eqT y x:=by
 have a:aq.countP (eU x)=(aq.map (eU x)).countP id:=by rw[List.countP_map];rfl
 have b:(ts.countP λy=>eqT y x)=(ts.map λy=>eqT y x).countP id:=by rw[List.countP_map];rfl
 rw[a,b,e]
section
def SO{W:Vw}{v:V}{rB:Addr->Option Nat}{Q:VK}(hu:X.A.units+1<cLine)(I:Inv X U Z H s)(h:jl X.K H a ar)(r:bM X.K (⟨H,rB⟩:Vw) ar ts)(rx:Rep X.K (⟨H,rB⟩:Vw) v aC)(ru:RelV v af)(q:Fi X H (vS ts aC) aB)(hk:∀j:Nat,aB (.int j)->Q (.int j) H):
  wpAny (model X.prog X.w) X.A (call (.builtin "tuple.index") [.ref a,af]) (EP X U Z Q) X.xe s:=by
 obtain⟨p1,p2,j,e,q⟩:=C' q;obtain⟨cn,rv,pl,hz⟩:=I.tuple h
 ·obtain⟨l,h1,h2⟩:=GB (GA r p2 rv) e;obtain⟨⟨cls,dd,data,sl⟩,b,g,n,hd⟩:=(show s.heap.IsTuple a cn.toArray from pl);simp only at g hd;subst g hd;refine kO wG ⟨_,b,rfl⟩ PySem.F.entry_tuple_index (PySem.F.args_tuple_index_2 _ _) (SeqAt.y6 a cn.toArray n dd sl af (eU aC) j (by simpa using l) (by simpa using h1) λm hm L=>by simpa using h2 m (by simpa using hm) L) ⟨b,λy M=>pQ I (A:=X.A.in1) hu rx p1 ru r p2 rv y (by simpa using M),?_⟩;exact⟨.int j,H,I.tok _,⟨_,rfl⟩,hk j q⟩
theorem SQ{v:V}{rB:Addr->Option Nat}{Q:VK}(hu:X.A.units+1<cLine)(I:Inv X U Z H s)(h:lL X.K H a ar)(r:bM X.K (⟨H,rB⟩:Vw) ar ts)(rx:Rep X.K (⟨H,rB⟩:Vw) v aC)(ru:RelV v af)(q:Fi X H (vS ts aC) aB)(hk:∀j:Nat,aB (.int j)->Q (.int j) H):
  wpAny (model X.prog X.w) X.A (call (.builtin "list.index") [.ref a,af]) (EP X U Z Q) X.xe s:=by
 obtain⟨p1,p2,j,e,q⟩:=C' q;obtain⟨cn,rv,pl,hz⟩:=I.list h
 ·obtain⟨l,h1,h2⟩:=GB (GA r p2 rv) e;have hs:(j:Int)<2 ^63 - 1:=by
   have:=rv.length;rw[dQ]at hz;omega
  obtain⟨⟨cls,dd,data,sl⟩,n,b,g,L,hd⟩:=id pl;simp only at g hd L;have M:=hd;subst g;subst M;refine kO PySem.F.slot_list_index ⟨_,b,rfl⟩ PySem.F.entry_list_index (PySem.F.args_list_index_2 _ _) (SeqAt.list_indexAt a cn.toArray n dd sl af (eU aC) j (by simpa using l) hs (by simpa using h1) λm hm S=>by simpa using h2 m (by simpa using hm) S) ⟨b,λy hy=>pQ I (A:=X.A.in1) hu rx p1 ru r p2 rv y (by simpa using hy),?_⟩;exact⟨.int j,H,I.tok _,⟨_,rfl⟩,hk j q⟩
theorem SR{v:V}{rB:Addr->Option Nat}{Q:VK}(hu:X.A.units+1<cLine)(I:Inv X U Z H s)(h:lL X.K H a ar)(r:bM X.K (⟨H,rB⟩:Vw) ar ts)(rx:Rep X.K (⟨H,rB⟩:Vw) v aC)(ru:RelV v af)(q:Fi X H (Oh ts aC) aB)(hk:∀j:Nat,aB (.int j)->Q (.int j) H):
  wpAny (model X.prog X.w) X.A (call (.builtin "list.count") [.ref a,af]) (EP X U Z Q) X.xe s:=by
 obtain⟨p1,p2,q⟩:=KU q;obtain⟨cn,rv,pl,hz⟩:=I.list h;rw[<-count_at (GA r p2 rv)]at q;obtain⟨⟨cls,dd,data,sl⟩,n,b,g,l,hd⟩:=id pl;simp only at g hd l;have L:=hd;subst g;subst L;refine kO PySem.F.slot_list_count ⟨_,b,rfl⟩ PySem.F.entry_list_count (PySem.F.args_list_count_2 _ _) (SeqAt.list_countAt a cn.toArray n dd sl af (eU aC)) ⟨b,λy M=>pQ I (A:=X.A.in1) hu rx p1 ru r p2 rv y (by simpa using M),?_⟩;exact⟨.int (cn.countP (eU aC):Nat),H,I.tok _,⟨_,rfl⟩,hk _ q⟩
variable {es:List Expr}{abD dD:Pos}
def lmR(h:List Tr->Tr->Rs Tr)(r:Rs Tr)(a:Rs Tr):Rs Tr:=r.bind λt=>match t with
 |.lst ts=>a.bind λx=>h ts x
 |_=>.bad
inductive Xm(X:Cx)(h:List Tr->Tr->Rs Tr)(x:V)(xs:List V)(H:Hp)(Q:VK):Prop
 |mk (B:fg) (ts:List Tr) (y:V) (ty:Tr):HB B H->Rep X.K (bZ B H) x (.lst ts)->xs=[y]->Rep X.K (bZ B H) y ty->(Fi X H (h ts ty) fun t=>∀v H',bf H H'->Rep X.K (bZ B H') v t->Q v H')->Xm X h x xs H Q
theorem SS(hu:X.A.units+1<cLine):Ro X "list.index" (Xm X vS):=by
 intro U s Z H x xs v us Q I b g ⟨B,ts,y,ty,hb,r,e,l,q⟩;subst e;obtain⟨u,rfl,n⟩:=vals1 g;cases r with
 |lst h L=>
  cases b;exact SQ (rB:=B.ix) hu I (.of (d7 h)) (L.same fy) (l.same fy) n q λj z=>z _ H (bf.refl H) (.int _)
theorem SU(hu:X.A.units+1<cLine):Ro X "list.count" (Xm X Oh):=by
 intro U s Z H x xs v us Q I b g ⟨B,ts,y,ty,hb,r,e,l,q⟩;subst e;obtain⟨u,rfl,n⟩:=vals1 g;cases r with
 |lst h L=>
  cases b;exact SR (rB:=B.ix) hu I (.of (d7 h)) (L.same fy) (l.same fy) n q λj z=>z _ H (bf.refl H) (.int _)
theorem aaO{h:List Tr->Tr->Rs Tr}(slot:Slot "list" av ay)(Ni:typeOf (.builtin ay)=pure (.type "method_descriptor"))(hm:Ro X ay (Xm X h))(ho:PE X o (tP X F))(he:PE X e (tP X G))(pa:PlainAttrs "list":=by exact sH)
  (pH:isCall o=false:=by rfl) (cD:bx [e]=true:=by rfl) (fQ:(b8.endLine==dD.line)=true:=by rfl):
  PE X (.Call (.Attribute o av b8) [e] [] dD) (tP X λY=>lmR h (F Y) (G Y)):=
 (FO pa slot Ni hm ho (AR he F0 (bj cD).1) (gq pH) (by rw[jy cD];rfl) fQ (bJ _ _ (bj cD).1) (cP (bj cD).2)).weak λZ H Q ⟨B,Y,hb,r,q⟩=>⟨B,Y,hb,r,q.bind.mono λt g v H1 s1 I=>by
  split at g
  ·rename_i ts;obtain⟨a,vs,rfl,l,rr⟩:=I.lst_inv;refine⟨.inl ⟨rfl,vs,.of (d7 l)⟩,B,Y,hb.same s1,r.same s1,?_⟩;have b:=(Fi.bind g).same s1;refine Fi.mono (r:=xN (G Y) (.ok [])) (k:=λzs=>∃x,zs=[x]/\Fi X H (h ts x) λt=>∀v H',bf H H'->Rep X.K (bZ B H') v t->Q v H') ?_ λzs ⟨x,L,M⟩ ws H2 s2 S=>?_
   ·cases n:G Y with
    |ok x=>rw[n]at b;exact⟨x,rfl,b⟩
    |_=>rw[n]at b;exact b
   ·subst L;obtain⟨y,rfl,ry⟩:=fT S;exact⟨B,ts,_,x,hb.same (s1.trans s2),.lst ((bI s2).h _ _ l) (rr.same (bI s2)),rfl,ry,(M.same (s1.trans s2)).mono λt k v H3 s3 r3=>k v H3 ((s1.trans s2).trans s3) r3⟩
  ·exact g.elim⟩
end
structure KW(K:Frag)(mg:Str->Option Value)(x:Str)(ts:List Tr):Prop where
 g:V1 K mg x (.tup ts)
 nd:∃a o,mg x=some (.ref a)/\K.lookup a=some o/\o.cls=.type "tuple"/\o.dict=none
section
variable {es:List Expr}{dD:Pos}
inductive rTI(X:Cx)(x:V)(xs:List V)(H:Hp)(Q:VK):Prop
 |mk (B:fg) (ts:List Tr) (y:V) (ty:Tr):HB B H->Rep X.K (bZ B H) x (.tup ts)->xs=[y]->Rep X.K (bZ B H) y ty->(Fi X H (vS ts ty) fun t=>∀v H',bf H H'->Rep X.K (bZ B H') v t->Q v H')->rTI X x xs H Q
theorem KY(hu:X.A.units+1<cLine):Ro X "tuple.index" (rTI X):=by
 intro U s Z H x xs v us Q I b g ⟨B,ts,y,ty,hb,r,e,l,q⟩;subst e;obtain⟨u,rfl,n⟩:=vals1 g;cases r with
 |tup h L=>
  cases b;exact SO (W:=bZ B H) (rB:=B.ix) hu I (bf.tup bG h) (L.same fy) (l.same fy) n q λj z=>z _ H (bf.refl H) (.int _)
def Xn{B:fg}{Y:bT}(s1:bf H ac)(q:Fi X H (G Y) aB):Fi X ac (xN (G Y) (.ok [])) λzs=>∃x,zs=[x]/\aB x:=by
 have b:=Fi.same q s1;cases g:G Y with
 |ok x=>rw[g]at b;exact⟨x,rfl,b⟩
 |_=>rw[g]at b;exact b
theorem Xo(hu:X.A.units+1<cLine)(g:KW X.K X.mg x ts)(he:PE X e (tP X G))(hg:Gl X x:=by rfl) (hd:Db x:=by decide) (cD:bx [e]=true:=by rfl) (fQ:(b8.endLine==dD.line)=true:=by rfl):
  PE X (.Call (.Attribute (.Name x p) "index" b8) [e] [] dD) (tP X λY=>(G Y).bind (vS ts)):=by
 obtain⟨⟨v,u,hm,r,l⟩,a,ob,b,n,I,hn⟩:=g;rw[hm]at b;cases b;obtain⟨a',_,rfl,_⟩:=(l ⟨λ_=>none,λ_=>none⟩).dR;cases r;refine(FO PySem.F.plainAttrs_tuple wG PySem.F.type_tuple_index (KY hu) (AE (v:=.ref a) hg hm rfl hd) (AR he F0 (bj cD).1) (gq rfl) (by rw[jy cD];rfl) fQ (bJ _ _ (bj cD).1) (cP (bj cD).2)).weak λZ H Q ⟨B,Y,hb,r,q⟩=>?_
 refine⟨.inr (.inl ⟨rfl,ob,n,I,hn⟩),B,Y,hb,r,(Xn (B:=B) (bf.refl H) (Fi.bind q)).mono λzs ⟨x,L,M⟩ ws H2 s2 S=>?_⟩;subst L;obtain⟨y,rfl,ry⟩:=fT S;exact⟨B,ts,_,x,hb.same s2,l _,rfl,ry,(Fi.same M s2).mono λt k v H3 s3 r3=>k v H3 (s2.trans s3) r3⟩
theorem Xp{x1}(hu:X.A.units+1<cLine)(ht:PA X es (Ct X L))(he:PE X e (tP X G))(cD:bx [e]=true:=by rfl) (fQ:(b8.endLine==dD.line)=true:=by rfl):
  PE X (.Call (.Attribute (.Tuple es x1 pos) "index" b8) [e] [] dD) (tP X λY=>(L Y).bind λts=>if ts.length<=eM then(G Y).bind (vS ts)else .bad):=by
 intro U s Z H Q I ⟨B,Y,hb,r,q⟩;refine wpAny_Call_method_late (gq rfl) (by rw[jy cD];rfl) fQ rfl (wpAny_Tuple_spliced (eC (ht pos U s Z H _ I ⟨B,Y,hb,r,q.bind.mono λts g vs H1 s1 r1=>(⟨ts,g,s1,r1⟩:∃ts,Fi X H (if ts.length<=eM then(G Y).bind (vS ts)else .bad) _/\bf H H1/\bM X.K (bZ B H1) vs ts)⟩) λus s1 ⟨xs,H1,S,rv,ts,g,sm,r1⟩=>?_));by_cases hz:ts.length<=eM
 ·rw[aV hz]at g;have Zr:us.length<=sizeLine:=by rw[<-rv.length,r1.length,<-iZ];exact hz
  refine⟨Zr,?_⟩;have hf:H1 s1.heap.objs.size=none:=S.cU.fresh (bz _);have l:=cp s1.heap (o:={cls:=.type "tuple",data:=.seq us.toArray}) rfl;have I2:Inv X U Z (upd H1 s1.heap.objs.size (.tup xs)) {s1 with heap:=s1.heap.push {cls:=.type "tuple",data:=.seq us.toArray}}:=S.laid (t':=s1.toks) (λb u e=>bP _ e) (bz _) ⟨by rw[rv.length];exact Zr,us,rv,⟨_,l,rfl,_,rfl⟩⟩;have s2:bf H (upd H1 s1.heap.objs.size (.tup xs)):=sm.trans (bf.upd hf);have rt:Rep X.K (bZ B (upd H1 s1.heap.objs.size (.tup xs))) (.ref s1.heap.objs.size) (.tup ts):=.tup (.inl (.inl ((hb.same sm).new hf))) (r1.same (bI (bf.upd hf)));refine⟨"tuple","tuple.index",PySem.F.plainAttrs_tuple,wG,PySem.F.type_tuple_index,⟨_,l,rfl⟩,λa ea=>by cases ea;exact⟨_,l,rfl⟩,?_⟩;have hA:=(AR he F0 (bj cD).1) dD U _ Z _ (λvs H3=>rTI X (.ref s1.heap.objs.size) vs H3 Q) I2 ⟨B,Y,hb.same s2,r.same s2,(Xn (B:=B) s2 (Fi.bind g)).mono λzs ⟨x,ez,qx⟩ ws H3 s3 r3=>by
   subst ez;obtain⟨y,rfl,ry⟩:=fT r3;exact⟨B,ts,_,x,hb.same (s2.trans s3),rt.same (bI s3),rfl,ry,(Fi.same qx (s2.trans s3)).mono λt k v n s4 M=>k v n ((s2.trans s3).trans s4) M⟩⟩
  rw[bJ _ _ (bj cD).1]at hA⊢;refine nv (by show(false||(backTo dD (starEach [] X.env)).any (·.1))=false;rw[cP (es:=[]) rfl];rfl) (nA ?_);exact eC hA λus s4 ⟨vs,n,I4,M,q4⟩=>KY hu U s4 Z n (.ref s1.heap.objs.size) vs _ us Q I4 rfl M q4
 ·rw[bb hz]at g;exact fe g
noncomputable def Xq:List Tr->Rs Tr
 |[.int i]=>.ok (.int i)
 |[.bl b]=>.ok (.int (if b then 1 else 0))
 |_=>.bad
theorem Xr:lO X (.type "int") Xq:=by
 intro U s Z H xs us Q I b ⟨B,ts,hb,r,q⟩;unfold Xq at q;split at q
 ·obtain⟨x,e,r⟩:=fT r;exact zy U s Z H _ us Q I b (.inl ⟨_,by rw[e,r.int_inv],q _ H (bf.refl H) (.int _)⟩)
 ·obtain⟨x,e,r⟩:=fT r;exact zy U s Z H _ us Q I b (.inr ⟨_,by rw[e,r.xK],q _ H (bf.refl H) (.int _)⟩)
 ·exact q.elim
variable {c m:Str}{st:Stmt}{f:Addr}{fd:FuncData}{k:Nat}
end
structure MethAt(K:Frag)(c m:Str)(st:Stmt)(ps:List Str)(f:Addr)(fd:FuncData):Prop where
 fn:∃qual,y4 K m qual st f fd
 bd:Binds K fd ps []
 mt:Meth K (clsAt K c) m f
 cl:Ei K (clsAt K c)
def D6(fs:List (Str×Tr))(m:Str):Bool:=(fs.lookup m).isNone
theorem nN{W:Vw}(f:Str):∀{ib:List (Str×V)} {fs:List (Str×Tr)},ib.map (·.1)=fs.map (·.1)->bM K W (ib.map (·.2)) (fs.map (·.2))->(fs.lookup f=none/\ib.lookup f=none)\/∃t v,fs.lookup f=some t/\ib.lookup f=some v/\Rep K W v t
 |[],[],_,_=>.inl ⟨rfl,rfl⟩
 |[],_::_,e,_=>by cases e
 |_::_,[],e,_=>by cases e
 |(k1,v1)::ib,(k2,b)::fs,e,r=>by
  rw[bL,bL]at e;injection e with g l
  have n:k1=k2:=g;subst n;cases r with
  |cons I r=>
   by_cases z:f=k1
   ·subst z;exact .inr ⟨b,v1,by rw[cK,bX],by rw[cK,bX],I⟩
   ·rw[cK,kc z,cK,kc z];exact nN f l r
section
variable {dD:Pos}{m:Str}{fd:FuncData}{k:Nat}
def vB(av m:Str)(h:List Tr->Rs Tr)(r:Rs Tr)(l:Rs (List Tr)):Rs Tr:=r.bind λt=>match t with
 |.ob x fs=>if x=av/\D6 fs m=true then l.bind λts=>h (.ob x fs::ts)else .bad
 |_=>.bad
def Bh{W:Vw}{ib:List (Str×V)}(e:ib.map (·.1)=bB.map (·.1))(r:bM K W (ib.map (·.2)) (bB.map (·.2)))(hm:D6 bB m=true):ib.lookup m=none:=by
 rcases nN m e r with⟨_,z⟩|⟨t,v,z,_⟩
 ·exact z
 ·unfold D6 at hm;rw[z]at hm;cases hm
theorem SV(D:MethAt X.K av m ai ps au fd)(G:d_ X.prog X.w X.K X.mg X.base mq k au fd ps (spT X.K h))(hr:dc k X.A)(ho:PE X o (tP X F))(ha:PA X (e::aA) (Ct X L)){pl:Sem Bool}(cD:bx (e::aA)=true:=by rfl)
  (ht:eval (.Call (.Attribute o m b8) (e::aA) [] pos) X.env=tK pos b8 o m (e::aA) X.env pl:=by rfl):PE X (.Call (.Attribute o m b8) (e::aA) [] pos) (tP X λY=>vB av m h (F Y) (L Y)):=
 (FL (pl:=pl) ho D.cl D.mt G hr D.bd .nil JZ ha (cD:=bJ _ _ (bj cD).1) (oF:=cP (bj cD).2) ht).weak λZ H Q ⟨B,Y,hb,r,q⟩=>⟨B,Y,hb,r,q.bind.mono λt g v H1 s1 I=>by
  split at g
  ·rename_i x fs;obtain⟨a,dx,ib,rfl,l,n,rr⟩:=I.AQ;split at g
   ·rename_i z;obtain⟨rfl,hm⟩:=z;refine⟨a,dx,ib,rfl,d7 l,Bh n rr hm,B,Y,hb.same s1,r.same s1,(Fi.same (Fi.bind g) s1).mono λts b vs H2 s2 M=>?_⟩;cases e:h (.ob x fs::ts)with
    |ok t=>
     rw[e]at b;exact⟨B,.ob x fs::ts,hb.same (s1.trans s2),by
      show bM X.K (bZ B H2) (V.ref a::(vs++[])) (.ob x fs::ts);rw[j9];exact .cons ((Rep.ob l n rr).same (bI s2)) M,t,e,λv S s3 r3=>b v S ((s1.trans s2).trans s3) r3⟩
    |exc av=>rw[e]at b;exact(b _ (bf.refl _)).elim
    |bad=>rw[e]at b;exact fe b
   ·exact g.elim
  ·exact g.elim⟩
theorem Oi(D:MethAt X.K av m ai ps au fd)(G:d_ X.prog X.w X.K X.mg X.base mq k au fd ps (spT X.K h))(hr:dc k X.A)(ho:PE X o (tP X F)){pl:Sem Bool}
  (ht:eval (.Call (.Attribute o m b8) [] [] pos) X.env=tK pos b8 o m [] X.env pl:=by rfl):PE X (.Call (.Attribute o m b8) [] [] pos) (tP X λY=>vB av m h (F Y) (.ok [])):=
 (Cf (pl:=pl) ho D.cl D.mt G hr D.bd .nil JZ ht).weak λZ H Q ⟨B,Y,hb,r,q⟩=>⟨B,Y,hb,r,q.bind.mono λt g v H1 s1 I=>by
  split at g
  ·rename_i x fs;obtain⟨a,dx,ib,rfl,l,n,rr⟩:=I.AQ;split at g
   ·rename_i z;have b:Fi X H (h [.ob x fs]) _:=g;obtain⟨rfl,hm⟩:=z;refine⟨a,dx,ib,rfl,d7 l,Bh n rr hm,?_⟩;cases e:h [.ob x fs]with
    |ok t=>
     rw[e]at b;exact⟨B,[.ob x fs],hb.same s1,.cons (.ob l n rr) .nil,t,e,λv L s3 M=>b v L (s1.trans s3) M⟩
    |exc av=>rw[e]at b;exact(b _ (bf.refl _)).elim
    |bad=>rw[e]at b;exact fe b
   ·exact g.elim
  ·exact g.elim⟩
end
def xcZ(K:Frag)(B:fg)(H:Hp)(E:XK):Tr->Ab->Prop:=λc A=>∀B' H',Grows B H B' H'->HA K B' A H'->E (WA K c) none H'
inductive vC(K:Frag)(f:List Tr->Ab->Rz Tr)(vs:List V)(H:Hp)(Q:VK)(E:XK):Prop
 |mk (B:fg) (A:Ab) (ts:List Tr):HA K B A H->bM K (bZ B H) vs ts->(gM (xcZ K B H E) (f ts A) fun t A'=>∀v B' H',Grows B H B' H'->HA K B' A' H'->Rep K (bZ B' H') v t->Q v H')->vC K f vs H Q E
theorem d_.toZ {base:Heap}{k:Nat}{f:Addr}{fd:FuncData}(F:d_ P w K mg base mq k f fd ps (spT K h)):d_ P w K mg base (uY P w) k f fd ps (vC K λts A=>gE (h ts) A):=by
 have key:∀{vs:List V} {H:Hp} {Q:VK} {E:XK},vC K (λts A=>gE (h ts) A) vs H Q E->∀E',spT K h vs H Q E':=λ{vs H Q E} ⟨B,A,ts,ha,r,q⟩ E'=>by
  have q:gM (xcZ K B H E) (gE (h ts) A) _:=q;cases e:h ts with
  |ok t=>rw[e]at q;exact⟨B,ts,ha.hb,r,t,e,λv H' s b=>q v B H' (.of s) (ha.same s) b⟩
  |_=>rw[e]at q;exact fe q
 refine⟨λvs H Q E q=>F.len vs H Q E (key q E),λA outer s H args us vs Q E g l hb n q=>?_⟩;refine iA (F.run A outer s H args us vs Q E g l hb n (key q E)) λr s' z=>?_
 cases r with
 |error e=>exact fe z
 |ok fl=>
  cases fl with
  |_=>exact z
def cI(r:Rz Out):Rz Tr:=r.bind λo A=>match o with
 |.nx _=>.ok .cx A
 |.ret t=>.ok t A
 |_=>.bad
def y4.okS {base:Heap}{qual:Str}{st:Stmt}{f:Addr}{fd:FuncData}{N:List Str}{k:Nat}{h:List Tr->Ab->Rz Tr}(Fn:y4 K x qual st f fd)(S:g6 N ps (bF st))(len:∀ts A,h ts A≠ .bad->ts.length=ps.length)
  (kQ:∀(fO:Value) (A:Around) (outer:List Env) (s:Shared) (H:Hp) (E:XK),dc k (A.deeper (envOfC qual (bF st) s.heap.objs.size f fO))->
   ∃G,oK (oG (uY P w) P w K mg base N qual (bF st) f fO A outer s H E) (fM st) (tZ (oG (uY P w) P w K mg base N qual (bF st) f fO A outer s H E) G)/\∀ts A,h ts A≠ .bad->h ts A=cI (G (startT N.length ts) A)):d_ P w K mg base (uY P w) (k+1) f fd ps (vC K h):=by
 obtain⟨oc,od,kV,doc,pm,an,fO,ct,JL,rfl,lk,n⟩:=Fn.ex;have nb:∀{B:fg} {A:Ab} {H:Hp} {E:XK} {ts:List Tr} {k:Tr->Ab->Prop},gM (xcZ K B H E) (h ts A) k->h ts A≠ .bad:=λ{B A H E ts k} q z=>by rw[z]at q;exact q
 refine PL lk n S (λvs H Q E ⟨B,A,ts,ha,r,q⟩=>by rw[r.length];exact len ts A (nb q)) λA outer s H vs Q E I ⟨B,A1,ts,ha,r,q⟩=>?_
 obtain⟨G,L,M⟩:=kQ fO A outer s H E I;refine⟨_,L,B,H,B,A1,startT N.length ts,ha.hb,.refl,ha,cF.start r,x8,?_⟩;rw[M ts A1 (nb q)]at q;refine(gM.bind q).imp (λc A2 z B' H' g b e s x=>Kk x (z B' H' g b))|>.mono λo A2 z=>?_
 cases o with
 |nx Y=>exact λdu B' H' g b l n'=>z .cx B' H' g b .cx
 |ret t=>exact λv B' H' g b l=>z v B' H' g b l
 |_=>exact fe z
def fA(n m:Nat)(G:bT->Ab->Rz Out)(ts:List Tr)(A:Ab):Rz Tr:=if ts.length=n then cI (G (startT m ts) A)else .bad
def Dc{n:Nat}{A:Ab}(h:fA n i aK ts A≠ .bad):ts.length=n:=by
 unfold fA at h;by_cases z:ts.length=n
 ·exact z
 ·rw[bb z]at h;exact absurd rfl h
def Oj{A:Ab}(h:fA i az aK ts A≠ .bad):fA i az aK ts A=cI (aK (startT az ts) A):=by
 unfold fA;rw[aV (Dc h)]
section
variable {h:List Tr->Ab->Rz Tr}{fd:FuncData}{k:Nat}
def EW{B1:fg}{A1:Ab}{Q:VK}(hb:HB B H)(g:Grows B H B1 ac)(ha:HA X.K B1 A1 ac)(r:bM X.K (bZ B1 ac) ar ts)(q:gM (XE X B H) (h ts A1) λt A'=>∀v B' H',Grows B H B' H'->HA X.K B' A' H'->Rep X.K (bZ B' H') v t->Q v H'):vC X.K h ar ac Q (EX X):=
 ⟨B1,A1,ts,ha,r,(q.imp λc A' z=>z.grow hb g).mono λt A' z v B' H' g' b l=>z v B' H' (g.trans hb g') b l⟩
theorem Xs(D:zF X.K X.mg x ai ps au fd)(G:d_ X.prog X.w X.K X.mg X.base (uY X.prog X.w) k au fd ps (vC X.K h))(hr:dc k X.A)(ha:PA X (e::aA) (MN X aH))(hx:X.ex=[]:=by rfl) (hg:Gl X x:=by rfl) (fF:Db x:=by decide) (cD:bx (e::aA)=true:=by rfl):
  PE X (.Call (.Name x p) (e::aA) [] pos) (tE X λY A=>(aH Y A).bind h):=
 (FK (p:=p) (pos:=pos) G hr hg D.mg D.fn.kp D.bd .nil (mU hx) ha (fF:=fF) (he:=bJ _ _ (bj cD).1) (oF:=cP (bj cD).2)).weak λZ H Q ⟨B,A,Y,ha,r,n,q⟩=>⟨B,A,Y,ha,r,n,q.bind.mono λts A1 b vs B1 H1 g1 g l=>by
  show vC X.K h (vs++[]) H1 Q (EX X);rw[j9];exact EW ha.hb g1 g l b⟩
variable {c m:Str}
def rG(c m:Str)(h:List Tr->Ab->Rz Tr)(r:Rz Tr)(l:Ab->Rz (List Tr)):Rz Tr:=r.bind λt A=>match t with
 |.at i=>match A[i]? with
  |some (.ins x fs)=>if x=c/\D6 fs m=true then(l A).bind λts A=>h (.at i::ts) A else .bad
  |_=>.bad
 |_=>.bad
def GC{A:Ab}(q:HA K B A H)(rj:B.ix a=some i)(e:A[i]?=some (.ins x bB))(hm:D6 bB m=true):∃dx ib,H a=some (.ins (clsAt K x) dx ib)/\ib.lookup m=none:=by
 obtain⟨_,dx,ib,h1,_,_,b,g⟩:=q.get rj e;refine⟨dx,ib,h1,?_⟩;rcases nN m b g with⟨_,z⟩|⟨t,v,z,_⟩
 ·exact z
 ·unfold D6 at hm;rw[z]at hm;cases hm
theorem SW(D:MethAt X.K c m ai ps au fd)(G:d_ X.prog X.w X.K X.mg X.base (uY X.prog X.w) k au fd ps (vC X.K h))(hr:dc k X.A)(ho:PE X o (tE X aI))(ha:PA X (e::aA) (MN X aH)){pl:Sem Bool}(hx:X.ex=[]:=by rfl) (cD:bx (e::aA)=true:=by rfl)
  (ht:eval (.Call (.Attribute o m b8) (e::aA) [] pos) X.env=tK pos b8 o m (e::aA) X.env pl:=by rfl):PE X (.Call (.Attribute o m b8) (e::aA) [] pos) (tE X λY A=>rG c m h (aI Y A) (aH Y)):=
 (FL (pl:=pl) ho D.cl D.mt G hr D.bd .nil (mU hx) ha (cD:=bJ _ _ (bj cD).1) (oF:=cP (bj cD).2) ht).weak λZ H Q ⟨B,A,Y,ha,r,n,q⟩=>⟨B,A,Y,ha,r,n,q.bind.mono λt A1 b v B1 H1 g1 g I=>by
  split at b
  ·obtain⟨a,rfl,l⟩:=I.nH;split at b
   ·rename_i L;obtain⟨⟨rfl,hm⟩,M⟩:=ig b;obtain⟨dx,ib,k1,k2⟩:=GC g l L hm;refine⟨a,dx,ib,rfl,k1,k2,B1,A1,Y,g,r.grow n g1,n,((gM.bind M).imp λc A' z=>z.grow ha.hb g1).mono λts A2 S vs B2 H2 g2 pW rs=>?_⟩;show vC X.K h (.ref a::(vs++[])) H2 Q (EX X);rw[j9];exact EW ha.hb (g1.trans ha.hb g2) pW (.cons (.at (g2.jK.x _ _ l)) rs) S
   ·exact b.elim
  ·exact b.elim⟩
theorem Ol(D:MethAt X.K c m ai ps au fd)(G:d_ X.prog X.w X.K X.mg X.base (uY X.prog X.w) k au fd ps (vC X.K h))(hr:dc k X.A)(ho:PE X o (tE X aI)){pl:Sem Bool}(hx:X.ex=[]:=by rfl)
  (ht:eval (.Call (.Attribute o m b8) [] [] pos) X.env=tK pos b8 o m [] X.env pl:=by rfl):PE X (.Call (.Attribute o m b8) [] [] pos) (tE X λY A=>rG c m h (aI Y A) λA=>.ok [] A):=
 (Cf (pl:=pl) ho D.cl D.mt G hr D.bd .nil (mU hx) ht).weak λZ H Q ⟨B,A,Y,ha,r,n,q⟩=>⟨B,A,Y,ha,r,n,q.bind.mono λt A1 b v B1 H1 g1 g I=>by
  split at b
  ·obtain⟨a,rfl,l⟩:=I.nH;split at b
   ·rename_i L;obtain⟨⟨rfl,hm⟩,M⟩:=ig b;obtain⟨dx,ib,k1,k2⟩:=GC g l L hm;refine⟨a,dx,ib,rfl,k1,k2,?_⟩;show vC X.K h [.ref a] H1 Q (EX X);exact EW ha.hb g1 g (.cons (.at l) .nil) M
   ·exact b.elim
  ·exact b.elim⟩
end
noncomputable abbrev bmV:List Value:=[.type "ValueError",.type "Exception",.type "BaseException",.type "object"]
structure rH(K:Frag)(mg:Str->Option Value)(x:Str):Prop where
 mg:mg x=some (.ref (clsAt K x))
 ex:PySem.W.excIn K (clsAt K x) bmV "ValueError.__new__"=true
def Om{h:Heap}{C:Addr}(X:K.In h)(q:PySem.W.excIn K C aq ay=true):
  ∃bm N nm qn bs hd sn sub ab col dd k0 k1 k2 k3 k5 mN,h.get? C=some (excClassObj nm qn C N bs bm hd sn sub ab col dd k0 k1 k2 k3 k5 ay)/\h.Ns N mN/\mN "__init__"=none/\OwnTail h aq bm:=by
 unfold PySem.W.excIn at q;split at q
 ·rename_i L cd sl M;split at q
  ·rename_i C2 bm S j1 j2 j3 n j5 hm hs;simp only[bU,ff,oZ]at q;obtain⟨⟨⟨⟨⟨e1,e2⟩,e3⟩,e4⟩,e5⟩,e6⟩:=q;subst e1 e2;obtain⟨nm,bs,mro,ns,qn,hd,sn,sub,ab,col,del⟩:=cd;have g:mro=_:=hm;have UL:del=false:=e3;have b:PySem.W.nsOkIn K ns=true:=e5;have r:PySem.W.nsIn K ns "__init__"=some none:=e6;subst g UL;obtain⟨l⟩:=sl;have I:l=_:=hs;subst I;exact⟨bm,ns,nm,qn,bs,hd,sn,sub,ab,col,L,S,j1,j2,j3,j5,_,X _ _ M,.of_isNs (PySem.W.isNs_of_in X b),PySem.W.nsMap_none_of_in X b r,PySem.W.tail_of_in X e4⟩
  ·cases q
 ·cases q
section
variable {np:Pos}
def EY(x:Str)(l:Rz (List Tr)):Rz Out:=l.bind λts A=>if ts.length<=eM then .exc (.str x) A else .bad
theorem Oo(D:rH X.K X.mg x)(ha:PA X (e::aA) (MN X aH))(hx:X.ex=[]:=by rfl) (hc:X.calm=true:=by rfl) (hg:Gl X x:=by rfl) (fF:Db x:=by decide) (cD:bx (e::aA)=true:=by rfl):
  PS X (.Raise (some (.Call (.Name x np) (e::aA) [] b8)) none pos) (tZ X λY A=>EY x (aH Y A)):=by
 intro U s Z H D' I ⟨B0,H0,B,A,Y,hb,g,hA,r,n,q⟩;obtain⟨bm,N,nm,qn,bs,hd,sn,sub,ab,col,dd,k0,k1,k2,k3,k5,mN,hC,hN,M,T⟩:=Om (h:=X.base) I.ok.mod.Pu D.ex;have Xt:starEach (e::aA) X.env=(false,eval e X.env)::starEach aA X.env:=bJ _ _ (bj cD).1;have oF:(backTo b8 (starEach aA X.env)).any (·.1)=false:=cP (bj cD).2;refine wpAny_Raise_call_subU (C:=clsAt X.K x) (nm:=nm) (q:=qn) (N:=N) (bs:=bs) (bm:=bm) (hdct:=hd) (sn:=sn) (sub:=sub) (ab:=ab) (col:=col) (dd:=dd) (k0:=k0) (k1:=k1) (k2:=k2) (k3:=k3) (k5:=k5)
  B7 (by decide+kernel) B7 (mN:=mN) (T.hasType (by decide+kernel)) (I.ok.hd hc) (by rw[Xt];show(false||(backTo b8 (starEach aA X.env)).any (·.1))=false;rw[oF];rfl) M
  (qH I hg D.mg ⟨rfl,?_⟩ fF)
 have L:=ha b8 U s Z H (λvs H2=>vs.length<=sizeLine/\EX X (.ref (clsAt X.K x)) none H2) I ⟨B,A,Y,hA,r,n,((gM.bind q).imp λc A' z=>z.grow hb g).mono λts A2 qt vs B2 H2 g2 pW rs=>by
  obtain⟨S,q2⟩:=ig qt;exact⟨by rw[rs.length,<-iZ];exact S,(show XE X B0 H0 (.str x) A2 from q2) B2 H2 (g.trans hb g2) pW⟩⟩
 rw[Xt]at L⊢;refine nA (eC L λus s2 ⟨vs,H2,l,rv,S,hE⟩=>⟨rfl,by rw[<-rv.length];exact S,l.bk _ _ hC,hN.keeps l.bk,T.keeps l.bk,λh' a hm=>hE _ _ ?_⟩);obtain⟨t,e1,e2,e3⟩:=hm.there;refine⟨a,U,Z,s2.heap,rfl,l.kept (t':=s2.toks) hm.keeps,⟨⟨_,_,_,e1,rfl,rfl,rfl,.inl rfl⟩,?_,hm.new⟩,λb n=>l.CK hx n,λp hp=>⟨_,(l.pin p (j7 _ hp)).1⟩,λb nb=>by
  cases z:s2.heap.get? b with
  |none=>rfl
  |some o=>rw[hm.keeps b o z]at nb;cases nb⟩
 cases z:H2 a with
 |none=>rfl
 |some o=>
  obtain⟨u,e4⟩:=(l.cU a o z).get;rw[hm.new]at e4;cases e4
end
def Ip{env:Env}:swapsWith e (some (.Subscript o tg p)) az env=pure false:=by cases e<;>rfl
def Iq{f:Str}{env:Env}:swapsWith e (some (.Attribute o f p)) i env=pure false:=by cases e<;>rfl
noncomputable def z7(f:Str)(t:Tr):List (Str×Tr)->List (Str×Tr)
 |[]=>[(f,t)]
 |(g,x)::r=>if g=f then(g,t)::r else(g,x)::z7 f t r
theorem De{W:Vw}{f:Str}{v:V}{t:Tr}(q:Rep K W v t):∀{ib:List (Str×V)} {fs:List (Str×Tr)},ib.map (·.1)=fs.map (·.1)->bM K W (ib.map (·.2)) (fs.map (·.2))->(mM f v ib).map (·.1)=(z7 f t fs).map (·.1)/\bM K W ((mM f v ib).map (·.2)) ((z7 f t fs).map (·.2))
 |[],[],_,_=>⟨rfl,.cons q .nil⟩
 |[],_::_,e,_=>by cases e
 |_::_,[],e,_=>by cases e
 |(k1,v1)::ib,(k2,I)::fs,e,r=>by
  rw[bL,bL]at e;injection e with g b
  have l:k1=k2:=g;subst l;cases r with
  |cons n r=>
   unfold mM z7;by_cases z:k1=f
   ·rw[aV z,aV z];exact⟨by rw[bL,bL,b],.cons q r⟩
   ·rw[bb z,bb z];obtain⟨p1,p2⟩:=De q b r;exact⟨by rw[bL,bL,p1],.cons n p2⟩
def lookup_some{W:Vw}{ib:List (Str×V)}{t:Tr}(h:ib.map (·.1)=bB.map (·.1))(r:bM K W (ib.map (·.2)) (bB.map (·.2)))(e:bB.lookup x=some t):∃v,ib.lookup x=some v/\Rep K W v t:=by
 rcases nN x h r with⟨z,_⟩|⟨t',v,z,ev,rv⟩
 ·cases e.symm.trans z
 ·cases e.symm.trans z;exact⟨v,ev,rv⟩
structure iV(K:Frag)(xs:List Str)(f:Str):Prop where
 all:∀x∈xs,Ei K (clsAt K x)/\rW K (clsAt K x) f
section
variable {f:Str}
def jY(ps:List Str)(f:Str):Tr->Rs Tr
 |.ob x fs=>if ps.contains x=true then kS (fs.lookup f)else .bad
 |_=>.bad
theorem SX(T:iV X.K ps f)(he:PE X e (tP X F))(hb:attributeBase e f X.env (eval e X.env)=eval e X.env:=by first|exact gq rfl|rfl):PE X (.Attribute e f pos) (tP X λY=>(F Y).bind (jY ps f)):=
 (JI he hb).weak λZ H Q ⟨B,Y,hb,r,q⟩=>⟨B,Y,hb,r,q.bind.mono λt b v H1 s1 rv=>by
  unfold jY at b;split at b
  ·obtain⟨a,dx,ib,rfl,h,g,rr⟩:=rv.AQ;split at b
   ·rename_i l;obtain⟨t,n,k⟩:=gs b;have c:=T.all _ (fb.mp l);obtain⟨v,ev,rv⟩:=lookup_some g rr n;exact⟨a,_,dx,ib,v,rfl,d7 h,c.1,c.2,ev,k v H1 s1 rv⟩
   ·exact b.elim
  ·exact b.elim⟩
def um(ps:List Str)(f:Str)(r:Rz Tr):Rz Tr:=r.bind λt A=>match t with
 |.at i=>match A[i]? with
  |some (.ins x fs)=>if ps.contains x=true then gE (kS (fs.lookup f)) A else .bad
  |_=>.bad
 |_=>.bad
theorem SY(T:iV X.K ps f)(he:PE X e (tE X aJ))(hb:attributeBase e f X.env (eval e X.env)=eval e X.env:=by first|exact gq rfl|rfl):PE X (.Attribute e f pos) (tE X λY A=>um ps f (aJ Y A)):=
 (JI he hb).weak λZ H Q ⟨B,A,Y,ha,r,n,q⟩=>⟨B,A,Y,ha,r,n,q.bind.mono λt A1 b v B1 H1 g1 g rv=>by
  split at b
  ·obtain⟨a,rfl,l⟩:=rv.nH;split at b
   ·rename_i I;obtain⟨L,M⟩:=ig b;obtain⟨_,dx,ib,h1,_,_,S,h5⟩:=g.get l I;have c:=T.all _ (fb.mp L);obtain⟨t,et,k⟩:=gs (mV (X:=X) (H:=H1) M);obtain⟨v,ev,rv⟩:=lookup_some S h5 et;exact⟨a,_,dx,ib,v,rfl,h1,c.1,c.2,ev,k v B1 H1 g1 g rv⟩
   ·exact b.elim
  ·exact b.elim⟩
def Xu(ps:List Str)(f:Str)(v:Rz Tr)(o:Ab->Rz Tr)(Y:bT):Rz Out:=v.bind λtv A=>(o A).bind λt A=>match t with
 |.at i=>match A[i]? with
  |some (.ins x fs)=>if ps.contains x=true/\fs.length<1000 then .ok (.nx Y) (A.set i (.ins x (z7 f tv fs)))else .bad
  |_=>.bad
 |_=>.bad
theorem Xv(T:iV X.K ps f)(ho:PE X o (tE X aJ))(hv:PE X tg (tE X aI)):PS X (.Assign [.Attribute o f p] tg pos) (tZ X λY A=>Xu ps f (aI Y A) (aJ Y) Y):=
 (Rg ho hv Iq).weak λD Z H ⟨B0,H0,B,A,Y,hb,g,ha,r,n,q⟩=>pU hb g ha r n q.bind λtv A1 v B1 H1 q1 g1 nj r1 rv _=>pU hb g1 nj r1 n (gM.bind q1) λt A2 w B2 H2 b g2 S r2 pG l=>by
  split at b
  ·obtain⟨a,rfl,I⟩:=pG.nH;split at b
   ·rename_i i _ x fs eo;obtain⟨⟨hx,hl⟩,q3⟩:=ig b;obtain⟨hd,dx,ib,h1,h2,L,h4,h5⟩:=S.get I eo;have c:=T.all x (fb.mp hx);have b9:ib.length=fs.length:=by have:=cT List.length h4;rw[bt,bt]at this;exact this
    obtain⟨p1,p2⟩:=De (f:=f) (rv.same l.jK) h4 h5;have M:dx≠a:=λz=>by rw[z,show B2.ix a=some i from I]at L;cases L
    obtain⟨g3,h6⟩:=S.write (o:=.ins x (z7 f tv fs)) (u:=.ins (clsAt X.K x) dx (mM f v ib)) I ⟨hd,dx,_,bK,by rw[bh M];exact h2,L,p1,by rw[jo hd];exact p2⟩;exact⟨a,_,dx,ib,rfl,h1,c.1,c.2,by rw[b9];exact hl,q3 Z B2 _ (g2.trans hb g3) h6 (r2.grow n g3) n⟩
   ·exact b.elim
  ·exact b.elim
end
def Oq{xc:Tr->Ab->Prop}{r:Rs Tr}{A:Ab}{k:Tr->Ab->Prop}(q:gM xc (r_ r A) k):Fi X H r λt=>Jj t=true/\k t A:=by
 cases r with
 |ok t=>exact ig q
 |exc c=>exact fe q
 |bad=>exact q
section
variable {a b i:Expr}{E:bT->Ab->Rz Tr}{h:Tr->Tr->Rs Tr}
def Ot(h:Tr->Tr->Rs Tr)(a:Rz Tr)(b:Ab->Rz Tr):Rz Tr:=a.bind λx A=>(b A).bind λy A=>r_ (h (aY 1 A x) (aY 1 A y)) A
def Ir{Q:VK}(q:tE X (λY A=>Ot h (aI Y A) (aJ Y)) Z H Q):Q6 (rT X h) (tE X aI) (tE X aJ) Z H Q:=by
 obtain⟨B,A,Y,ha,r,n,q⟩:=q;refine⟨B,A,Y,ha,r,n,q.bind.mono λx A1 g v B1 H1 g1 l I=>⟨B1,A1,Y,l,r.grow n g1,n,((gM.bind g).imp λc A' z=>z.grow ha.hb g1).mono λy A2 L u B2 H2 g2 b M=>?_⟩⟩;refine⟨B2.un,aY 1 A2 x,aY 1 A2 y,CI b.hb,jA b 1 (I.same g2.jK),jA b 1 M,(Oq L).mono λt ⟨S,k⟩ w H3 s3 pG=>?_⟩;exact k w B2 H3 ((g1.trans ha.hb g2).trans ha.hb (.of s3)) (b.same s3) (zS (b.same s3) pG S)
def aaP(hu:X.A.units+1<cLine)(h1:PE X a (tE X aI))(h2:PE X b (tE X aJ))(hs:tW b:=by exact λ_ _=>rfl):PE X (.Subscript a b pos) (tE X λY A=>Ot jX (aI Y A) (aJ Y)):=(PM (Wr hu) h1 h2 hs).weak λ_ _ _ q=>Ir q
def Dg(A:Ab)(t q tv:Tr):Option Ab:=match t,kh q with
 |.at i,some k=>match A[i]? with
  |some (.bW bB)=>if bB.length<eM then some (A.set i (.bW (l6 bB k tv)))else none
  |_=>none
 |_,_=>none
def S0(v:Rz Tr)(o k:Ab->Rz Tr)(Y:bT):Rz Out:=v.bind λtv A=>(o A).bind λt A=>(k A).bind λb A=>match Dg A t b tv with
 |some A'=>.ok (.nx Y) A'
 |none=>.bad
theorem dY.length {W:Vw}{kvs:List (Key×V)}{bB:List (Key×Tr)}(h:dY K W kvs bB):kvs.length=bB.length:=by
 have e:=cT List.length h.keys;rw[bt,bt]at e;exact e
def EZ{A A':Ab}{tk tv:Tr}(e:Dg A aC tk tv=some A'):∃j bB key,aC=.at j/\kh tk=some key/\A[j]?=some (.bW bB)/\bB.length<eM/\A'=A.set j (.bW (l6 bB key tv)):=by
 unfold Dg at e;split at e
 ·rename_i b;split at e
  ·rename_i g;split at e
   ·rename_i l;cases e;exact⟨_,_,_,rfl,b,g,l,rfl⟩
   ·cases e
  ·cases e
 ·cases e
theorem S1(hu:X.A.units+1<cLine)(ho:PE X o (tE X aI))(hi:PE X i (tE X aJ))(hv:PE X tg (tE X E)):
  PS X (.Assign [.Subscript o i p] tg pos) (tZ X λY A=>S0 (E Y A) (aI Y) (aJ Y) Y):=
 (Nq hu ho hi hv Ip).weak λD Z H ⟨B0,H0,B,A,Y,hb,g,ha,r,n,q⟩=>pU hb g ha r n q.bind λtv A1 v B1 H1 q1 g1 nj r1 rv _=>pU hb g1 nj r1 n (gM.bind q1) λt A2 w B2 H2 q2 g2 pW r2 pG l=>pU hb g2 pW r2 n (gM.bind q2) λtk A3 y B3 H3 I g3 M r3 ry b=>by
  have L:=pG.same b.jK;have Zx:=(rv.same l.jK).same b.jK;split at I
  ·rename_i ed;obtain⟨j,bB,key,rfl,ek,eo,hl,rfl⟩:=EZ ed;obtain⟨c,rfl,S⟩:=L.nH;obtain⟨hd,kvs,h1,h2⟩:=M.get S eo;cases nJ ry ek;obtain⟨g4,h6⟩:=M.write (o:=.bW (l6 bB key tv)) (u:=.dK (putK kvs key v)) S ⟨hd,_,bK,by rw[jo hd];exact h2.put key Zx⟩;exact⟨c,_,rfl,Eo.k h1 (by rw[h2.length,<-iZ];exact hl),I Z B3 _ (g3.trans hb g4) h6 (r3.grow n g4) n⟩
  ·exact I.elim
end
noncomputable def iE(bB:List (Key×Tr))(k:Key):List (Key×Tr):=bB.filter λb=>decide (b.1≠k)
theorem dY.drop {W:Vw}(k:Key):∀{kvs:List (Key×V)} {bB:List (Key×Tr)},dY K W kvs bB->dY K W (rq kvs k) (iE bB k)
 |[],[],_=>.nil
 |[],_::_,h=>by cases h.keys
 |_::_,[],h=>by cases h.keys
 |(k1,v1)::kvs,bB,h=>by
  obtain⟨t,r,rfl,rv,g⟩:=h.inv;have b:=dY.drop k g;unfold rq iE at b⊢;by_cases z:k1=k
  ·rw[j6 (by simp[z]),j6 (by simp[z])];exact b
  ·rw[lF (by simp[z]),lF (by simp[z])];exact .cons rv b
def mY(A:Ab)(i:Nat):Bool:=match A[i]? with
 |some (.bW _)=>true
 |_=>false
def qQ{A:Ab}(q:HA K B A H)(e:B.ix a=some i)(h:mY A i=true):∃bB kvs,A[i]?=some (.bW bB)/\B.hd a=true/\H a=some (.dK kvs)/\dY K (bZ B H) kvs bB:=by
 obtain⟨o,b,g⟩:=q.ex e;unfold mY at h;rw[b]at h;cases o with
 |bW bB=>obtain⟨hd,kvs,h1,h2⟩:=g;exact⟨bB,kvs,b,hd,h1,h2⟩
 |_=>cases h
def dkZ{α:Type}(o:Rz Tr)(k:Ab->Rz Tr)(f:Nat->Key->Ab->Rz α):Rz α:=o.bind λt A=>match t with
 |.at i=>if mY A i=true then(k A).bind λb A=>match kh b with
  |some key=>f i key A
  |none=>.bad
  else .bad
 |_=>.bad
def oJ(A:Ab)(i:Nat):List (Key×Tr):=match A[i]? with
 |some (.bW bB)=>bB
 |_=>[]
def KZ(o:Rz Tr)(k:Ab->Rz Tr):Rz Tr:=dkZ o k λi key A=>if mY A i=true then match eZ (oJ A i) key with
 |some v=>.ok v (A.set i (.bW (iE (oJ A i) key)))
 |none=>.bad
 else .bad
section
variable {dD:Pos}{E:bT->Ab->Rz Tr}
def Bi{A:Ab}{bB:List (Key×Tr)}(h:A[i]?=some (.bW bB)):oJ A i=bB:=by unfold oJ;rw[h]
theorem S2(ho:PE X o (tE X aI))(he:PE X e (tE X aJ))(hb:isCall o=false:=by rfl) (cD:bx [e]=true:=by rfl) (hl:(b8.endLine==dD.line)=true:=by rfl):PE X (.Call (.Attribute o "pop" b8) [e] [] dD) (tE X λY A=>KZ (aI Y A) (aJ Y)):=
 (JW ho he (P7 hb cD hl)).weak λZ H Q ⟨B,A,Y,ha,r,n,q⟩=>⟨B,A,Y,ha,r,n,q.bind.mono λt A1 l v B1 H1 g1 L rv=>by
  split at l
  ·obtain⟨a,rfl,M⟩:=rv.nH;rename_i i;obtain⟨hd,q2⟩:=ig l;obtain⟨bB,kvs,e1,e2,e3,e4⟩:=qQ L M hd;refine⟨a,rfl,.inl ⟨_,.inl e3⟩,B1,A1,Y,L,r.grow n g1,n,((gM.bind q2).imp λc A' z=>z.grow ha.hb g1).mono λtk A2 g y B2 H2 g2 S ry=>?_⟩;have Bj:=g2.jK.x _ _ M;cases I:kh tk with
   |none=>simp only[I]at g;exact fe g
   |some key=>
    simp only[I]at g;obtain⟨hd2,b⟩:=ig g;obtain⟨S3,K0,f1,f2,f3,f4⟩:=qQ S Bj hd2;rw[Bi f1]at b;have ey:=nJ ry I;subst ey;rcases qL key f4.keys f4.vals with⟨z,_⟩|⟨t,w,z,ev,pG⟩
    ·simp only[z]at b;exact fe b
    ·simp only[z]at b;obtain⟨g4,h6⟩:=S.write (o:=.bW (iE S3 key)) (u:=.dK (rq K0 key)) Bj ⟨f2,_,bK,by rw[jo f2];exact f4.drop key⟩;exact⟨K0,key,w,f3,rfl,ev,b w B2 _ ((g1.trans ha.hb g2).trans ha.hb g4) h6 (by rw[jo f2];exact pG)⟩
  ·exact l.elim⟩
def K1(o:Rz Tr)(k x:Ab->Rz Tr):Rz Tr:=dkZ o k λi key A=>(x A).bind λtx A=>if mY A i=true then match eZ (oJ A i) key with
 |some v=>.ok v (A.set i (.bW (iE (oJ A i) key)))
 |none=>.ok tx A
 else .bad
theorem S4(ho:PE X o (tE X aI))(he:PE X e (tE X aJ))(hf:PE X tg (tE X E))(hb:isCall o=false:=by rfl) (cD:bx [e,tg]=true:=by rfl) (hl:(b8.endLine==dD.line)=true:=by rfl):PE X (.Call (.Attribute o "pop" b8) [e,tg] [] dD) (tE X λY A=>K1 (aI Y A) (aJ Y) (E Y)):=
 (JX ho he hf (P8 hb cD hl)).weak λZ H Q ⟨B,A,Y,ha,r,n,q⟩=>⟨B,A,Y,ha,r,n,q.bind.mono λt A1 M v B1 H1 g1 nj rv=>by
  split at M
  ·obtain⟨a,rfl,rj⟩:=rv.nH;rename_i i;obtain⟨hd,q2⟩:=ig M;obtain⟨bB,kvs,e1,e2,e3,e4⟩:=qQ nj rj hd;refine⟨a,rfl,.inl ⟨_,.inl e3⟩,B1,A1,Y,nj,r.grow n g1,n,((gM.bind q2).imp λc A' z=>z.grow ha.hb g1).mono λtk A2 I y B2 H2 g2 pW ry=>?_⟩;have L:=g1.trans ha.hb g2;cases S:kh tk with
   |none=>simp only[S]at I;exact fe I
   |some key=>
    simp only[S]at I;refine⟨B2,A2,Y,pW,r.grow n L,n,((gM.bind I).imp λc A' z=>z.grow ha.hb L).mono λtx A3 qx z B3 H3 g3 Gr rz=>?_⟩;have Xw:=g3.jK.x _ _ (g2.jK.x _ _ rj);obtain⟨hd3,b⟩:=ig qx;obtain⟨aaQ,Xx,f1,f2,f3,f4⟩:=qQ Gr Xw hd3;rw[Bi f1]at b;have ey:=nJ ry S;subst ey;refine⟨Xx,key,f3,rfl,λw ev=>?_,λev=>?_⟩
    ·rcases qL key f4.keys f4.vals with⟨_,g⟩|⟨t,w2,g,l,pG⟩
     ·rw[ev]at g;cases g
     ·rw[ev]at l;cases l;simp only[g]at b;obtain⟨g4,h6⟩:=Gr.write (o:=.bW (iE aaQ key)) (u:=.dK (rq Xx key)) Xw ⟨f2,_,bK,by rw[jo f2];exact f4.drop key⟩;exact b w B3 _ ((L.trans ha.hb g3).trans ha.hb g4) h6 (by rw[jo f2];exact pG)
    ·rcases qL key f4.keys f4.vals with⟨z1,_⟩|⟨t,w2,g,l,_⟩
     ·simp only[z1]at b;exact b z B3 H3 (L.trans ha.hb g3) Gr rz
     ·rw[ev]at l;cases l
  ·exact M.elim⟩
variable {c:Str}{h:List Tr->Ab->Rz Tr}{fa:Addr}{fd:FuncData}{k:Nat}
def yk(c:Str)(h:List Tr->Ab->Rz Tr)(l:Rz (List Tr)):Rz Tr:=l.bind λts A=>(h (.at A.length::ts) (A++[.ins c []])).bind λt A'=>if Zj t=true then .ok (.at A.length) A' else .bad
structure yl(K:Frag)(mg:Str->Option Value)(c:Str)(ps:List Str)(fa:Addr)(fd:FuncData):Prop where
 Xz:Mk K (clsAt K c) fa
 bd:Binds K fd ps []
 mg:mg c=some (.ref (clsAt K c))
def GD{B1:fg}{A1:Ab}{vs:List V}{ts:List Tr}{Q:VK}(hb:HB B H)(g:Grows B H B1 ac)(ha:HA X.K B1 A1 ac)(rs:bM X.K (bZ B1 ac) vs ts)
  (q:gM (XE X B H) ((h (.at A1.length::ts) (A1++[.ins c []])).bind λt A'=>if Zj t=true then .ok (.at A1.length) A' else .bad) λt A'=>∀v B' H',Grows B H B' H'->HA X.K B' A' H'->Rep X.K (bZ B' H') v t->Q v H')
  (x dx:Addr) (h1:ac x=none) (h2:ac dx=none) (h3:dx≠x):vC X.K h (.ref x::vs) (upd (upd ac dx (.own x)) x (.ins (clsAt X.K c) dx [])) (λv H2=>v=.cx/\Q (.ref x) H2) (EX X):=by
 have s1:bf ac (upd (upd ac dx (.own x)) x (.ins (clsAt X.K c) dx [])):=((bf.upd h2).trans (bf.upd (by rw[bh (Ne.symm h3)];exact h1)));obtain⟨g1,b⟩:=ha.push (p:=x) (o:=.ins c []) h1 s1 ⟨qM,dx,[],bK,by rw[bh h3,bK],by rw[iD h3];exact ha.free h2,rfl,.nil⟩;refine⟨_,_,_,b,.cons (.at iC) (rs.same g1.jK),((gM.bind q).imp λc A' z=>z.grow hb (g.trans hb g1)).mono λt A' z v B' H' g' l n=>?_⟩;obtain⟨r,I⟩:=ig z;refine⟨?_,I (.ref x) B' H' ((g.trans hb g1).trans hb g') l (.at (g'.jK.x _ _ iC))⟩;have e:=Gb n;rw[r]at e;exact eK e
theorem S5(D:yl X.K X.mg c ps fa fd)(aJ:d_ X.prog X.w X.K X.mg X.base (uY X.prog X.w) k fa fd ps (vC X.K h))(hr:dc (k+1) X.A)(ha:PA X (e::aA) (MN X aH))(hx:X.ex=[]:=by rfl) (hg:Gl X c:=by rfl) (fF:Db c:=by decide) (cD:bx (e::aA)=true:=by rfl):
  PE X (.Call (.Name c p) (e::aA) [] pos) (tE X λY A=>yk c h (aH Y A)):=
 (Na (p:=p) (pos:=pos) D.Xz aJ hr hg D.mg D.bd .nil (mU hx) ha (fF:=fF) (he:=bJ _ _ (bj cD).1) (oF:=cP (bj cD).2)).weak λZ H Q ⟨B,A,Y,ha,r,n,q⟩=>⟨B,A,Y,ha,r,n,q.bind.mono λts A1 b vs B1 H1 g1 g rs x dx l h2 I=>by
  show vC X.K h (.ref x::(vs++[])) _ _ _;rw[j9];exact GD ha.hb g1 g rs b x dx l h2 I⟩
theorem Ou(D:yl X.K X.mg c ps fa fd)(aJ:d_ X.prog X.w X.K X.mg X.base (uY X.prog X.w) k fa fd ps (vC X.K h))(hr:dc (k+1) X.A)(hx:X.ex=[]:=by rfl) (hg:Gl X c:=by rfl) (fF:Db c:=by decide):
  PE X (.Call (.Name c p) [] [] pos) (tE X λ_ A=>yk c h (.ok [] A)):=
 (JK (p:=p) (pos:=pos) D.Xz aJ hr hg D.mg D.bd .nil (mU hx) (fF:=fF)).weak λZ H Q ⟨B,A,Y,ha,r,n,q⟩ x dx b h2 g=>GD (vs:=[]) (ts:=[]) ha.hb .refl ha .nil q x dx b h2 g
end
def Ov(ok:X.Ok):∀b∈X.fs,b∈jV X.stack:=λb hb=>by
 rcases ok.MJ with e|⟨e,_⟩
 ·rw[e];exact hb
 ·rw[e];obtain⟨v,g,hf⟩:=lI.mp hb;exact lI.mpr ⟨v,ck _ g,hf⟩
def Inv.S6 {h':Heap}{hs:List Addr}(I:Inv X U Z H s)(hx:X.ex=[])
  (kp:∀b o,b∉hs->b∉jV X.stack->s.heap.get? b=some o->h'.get? b=some o) (sl:∀b o,b∈jV X.stack->s.heap.get? b=some o->∃sl,h'.get? b=some {o with slots:=sl})
  (hn:∀b∈hs,H b=none/\X.gj.heap.get? b=none/\(∀p∈X.pn++U,p.1≠b)/\((∃o ws,s.heap.get? b=some o/\o.data=.fields ws)\/s.heap.get? b=none)):Inv X U Z H {s with heap:=h'}:=by
 have S:∀b:Addr,b∉X.ex:=λb=>by rw[hx];simp
 have any:∀b o,b∉hs->s.heap.get? b=some o->∃sl,h'.get? b=some {o with slots:=sl}:=λb o nb e=>by
  by_cases m:b∈jV X.stack
  ·exact sl b o m e
  ·exact⟨o.slots,kp b o nb m e⟩
 have hsF:∀b o,s.heap.get? b=some o->(∀ws,o.data≠ .fields ws)->b∉hs:=λb o e d m=>by
  rcases(hn b m).2.2.2 with⟨o2,ws,g,d2⟩|g
  ·rw[e]at g;cases g;exact d ws d2
  ·rw[e]at g;cases g
 have cellK:∀c v,s.heap.IsCell c v->h'.IsCell c v:=λc v ⟨o,ho,hd⟩=>by
  obtain⟨s1,L⟩:=any c o (hsF c o ho λws z=>by rw[hd]at z;cases z) ho;exact⟨_,L,hd⟩
 have old:∀b o,X.gj.heap.get? b=some o->b∉hs:=λb o e m=>by rw[(hn b m).2.1]at e;cases e
 refine⟨I.ok,I.os,I.bare,⟨λb o e n hb _=>?_,λb o e n hb _=>?_,I.base.free,λb o e _=>?_,I.base.mL,I.base.lC,I.base.nE⟩,?_,λx c e=>?_,I.free,I.fP,λp hp=>?_,λb u e=>?_,I.len⟩
 ·refine kp b o (old b o e) (λm=>?_) (I.base.keep b o e n hb (S b));rcases bE.mp (I.xl b m)with z|z
  ·exact absurd (c_ (bu e) I.ok.above) (by rw[z];exact eP _)
  ·exact hb z
 ·obtain⟨s1,L⟩:=I.base.slot b o e n hb (S b);obtain⟨s2,g⟩:=sl b _ (Ov I.ok b hb) L;exact⟨s2,g⟩
 ·obtain⟨o1,L⟩:=I.base.there b o e (S b);obtain⟨s2,g⟩:=any b o1 (old b o e) L;exact⟨_,g⟩
 ·obtain⟨m,hm,hl⟩:=I.loc;refine⟨m,?_,λi x v L g e3=>?_⟩
  ·obtain⟨o,es,ep,ho,hd,r⟩:=hm;obtain⟨s1,L⟩:=any _ o (hsF _ o ho λws z=>by rw[hd]at z;cases z) ho;exact⟨_,es,ep,L,hd,r⟩
  ·obtain⟨u,r,l⟩:=hl i x v L g e3;refine⟨u,r,?_⟩;rcases l with l|⟨k,c,e,z⟩
   ·exact .inl l
   ·exact .inr ⟨k,c,e,cellK c _ z⟩
 ·obtain⟨v,z⟩:=I.cell x c e;exact⟨v,cellK c v z⟩
 ·obtain⟨e,n,ne,nf,d⟩:=I.pin p hp;refine⟨kp p.1 p.2 (λm=>(hn _ m).2.2.1 p hp rfl) (λm=>?_) e,n,ne,nf,d⟩;rcases bE.mp (I.xl _ m)with z|z
  ·exact ne z
  ·exact nf z
 ·refine(I.cU b u e).pD (λc v M q=>kp c v (λm=>?_) (λm=>?_) q) (λ_ q=>q) λ_ _ q=>q
  ·have n:=(hn c m).1;rcases M with rfl|M
   ·rw[n]at e;cases e
   ·rw[n]at M;cases M
  ·have n:=I.v7 c m;rcases M with rfl|M
   ·rw[n]at e;cases e
   ·rw[n]at M;cases M
def XB(h0:Heap)(H:Hp)(h:Heap)(a:Addr)(cls:Value):Prop:=∃b vs a0 T g ts,h.get? a=some b/\b.cls=cls/\b.data=.fields vs/\vs[0]?=some a0/\vs[1]?=some (.ref T)/\T≠a/\h0.get? T=none/\H T=none/\h.get? T=some g/\g.data=.fields ts/\ts[3]?=some .none
structure MQ(X:Cx)(h0:Heap)(Z:St)(H:Hp)(s:Shared)(a:Addr)(cls:Value):Prop where
 inv:Inv X [] Z H s
 Gp:Qb h0 H s.heap a cls
 old:∀b,h0.get? b=none->X.gj.heap.get? b=none
 pn:∀p∈X.pn,∃o,h0.get? p.1=some o
 gr:∀b,s.heap.get? b=none->h0.get? b=none
def XS.cau {cls e:Value}(x:XS X H cls e s):∃a Z h0,e=.ref a/\MQ X h0 Z H s a cls:=by
 obtain⟨a,U,Z,h0,rfl,I,Gp,old,pn,gr⟩:=x;exact⟨a,Z,h0,rfl,I.kg (λp hp=>I.pin p (j7 _ (by simpa using hp))),Gp,old,pn,gr⟩
def MQ.step {h0:Heap}{cls a0:Value}{h':Heap}{hs:List Addr}(C:MQ X h0 Z H s a cls)(hx:X.ex=[])(ha:a∈hs)(q:∀b∈hs,H b=none/\h0.get? b=none/\∃o ws,s.heap.get? b=some o/\o.data=.fields ws)
  (k1:(PySem.W.hideAll s.heap (hs++jV X.stack)).StaysIn h') (k4:∀b o,s.heap.get? b=some o->(∀ws,o.data≠ .fields ws)->∃sl,h'.get? b=some {o with slots:=sl})
  (k3:h'.TracedW (PySem.W.hideAll s.heap (hs++jV X.stack)) a cls a0) (fr':∀b∈jV X.stack,∃o,h'.get? b=some o/\∀ws,o.data≠ .fields ws):MQ X h0 Z H {s with heap:=h'} a cls/\XB h0 H h' a cls:=by
 have hk:=C.inv.stack;have US:∀L∈jV X.stack,∃o,s.heap.get? L=some o/\∀ws,o.data≠ .fields ws:=λL hL=>(hk.mem hL).2;have gp:∀b,h0.get? b=none->∀p∈X.pn++[],p.1≠b:=λb n p hp z=>by
  obtain⟨o,e⟩:=C.pn p (by simpa using hp);rw[z,n]at e;cases e
 have kp:∀b o,b∉hs->b∉jV X.stack->s.heap.get? b=some o->h'.get? b=some o:=λb o n1 n2 e=>k1 b o (mv _ e λm=>(dI.mp m).elim n1 n2);have sl:∀b o,b∈jV X.stack->s.heap.get? b=some o->∃sl,h'.get? b=some {o with slots:=sl}:=λb o m e=>by
  obtain⟨o2,e2,d2⟩:=US b m;rw[e]at e2;cases e2;exact k4 b o e d2
 have tr:XB h0 H h' a cls:=by
  obtain⟨l,vs,T,oT,ts,r,⟨I,M⟩,S,q5,g,q7,q8,q9,q10⟩:=k3;have hTf:T∉jV X.stack:=λm=>by
   obtain⟨o,e,d⟩:=fr' T m;rw[q8]at e;cases e;exact d ts q9
  have key:h0.get? T=none/\H T=none:=by
   by_cases m:T∈hs
   ·exact⟨(q T m).2.1,(q T m).1⟩
   ·have n:s.heap.get? T=none:=by
     cases z:s.heap.get? T with
     |none=>rfl
     |some o=>rw[mv _ z λmm=>(dI.mp mm).elim m hTf]at g;cases g
    refine⟨C.gr T n,?_⟩;cases z:H T with
    |none=>rfl
    |some o=>obtain⟨u,e⟩:=(C.inv.cU T o z).get;rw[n]at e;cases e
  exact⟨l,vs,a0,T,oT,ts,r,I,S,M,q5,q7,key.1,key.2,q8,q9,q10⟩
 refine⟨⟨C.inv.S6 hx kp sl λb m=>⟨(q b m).1,C.old b (q b m).2.1,gp b (q b m).2.1,.inl (q b m).2.2⟩,⟨?_,C.Gp.fr,C.Gp.nw⟩,C.old,C.pn,λb n=>?_⟩,tr⟩
 ·obtain⟨l,vs,b0,T,oT,ts,r,I,M,S,q5,g⟩:=tr;exact⟨l,vs,b0,r,I,M,S,.inr ⟨T,oT,ts,q5,g⟩⟩
 ·by_cases m:b∈hs
  ·exact(q b m).2.1
  ·refine C.gr b ?_
   cases z:s.heap.get? b with
   |none=>rfl
   |some o=>
    have n':h'.get? b=none:=n;by_cases m2:b∈jV X.stack
    ·obtain⟨s1,e1⟩:=sl b o m2 z;rw[n']at e1;cases e1
    ·rw[kp b o m m2 z]at n';cases n'
section
variable {h0:Heap}{cls:Value}{M:Model}
theorem Ow(C:MQ X h0 Z H s a cls)(hx:X.ex=[])(cD:X.stack=X.env::X.outer)(hf:X.env.frame=some X.env.locals)(hA:A.frames=some X.stack){Q:Unit->Shared->Prop}(q:∀s',MQ X h0 Z H s' a cls->XB h0 H s'.heap a cls->Q () s'):
  wpAny M A (noteFrame (.ref a) X.env) (λ_ s2=>wpAny M A (setFlight (.ref a) none) Q E s2) E s:=by
 obtain⟨⟨oe,vs,a0,he,S,hd,g,h1⟩,fr,nw⟩:=C.Gp;have hk:s.heap.FunFrames X.base X.stack:=C.inv.stack;have lD:∀e∈X.stack,∀b,e.frame=some b->b∈jV X.stack:=λe he b hb=>lI.mpr ⟨e,he,hb⟩;have after:∀(hs:List Addr) (h':Heap),a∈hs->(∀b∈hs,H b=none/\h0.get? b=none/\∃o ws,s.heap.get? b=some o/\o.data=.fields ws)->Heap.NotedW (PySem.W.hideAll s.heap (hs++jV X.stack)) X.stack a cls a0 (rawInt X.env.locals) s.heap h'->wpAny M A (setFlight (.ref a) none) Q E {s with heap:=h'}:=by
  intro hs h' n hh ⟨k1,k2,k3,k4⟩;refine wpAny_setFlight_noneW (s:={s with heap:=h'}) k1 k2 k3 λh2 j1 j2 j3 j4=>?_
  obtain⟨c1,c2⟩:=C.step hx n hh j1 (λb o e d=>by obtain⟨sl,e1⟩:=k4 b o e d;exact⟨sl,j4 b _ e1 d⟩) j3 λb m=>(j2.mem m).2;exact q _ c1 c2
 rcases h1 with h1|⟨T,oT,ts,h1,r,I,MM,hT,Zl,h3⟩
 ·have L:s.heap.FunFrames (PySem.W.hideAll s.heap ([a]++jV X.stack)) (X.env::X.outer):=by rw[<-cD];exact oQ hk λe he b hb=>dw _ (lD e he b hb)
  unfold noteFrame;simp only[hf];refine aS (gi he hd h1 ?_);rw[bb (by decide)];refine wpAny_entryW (base:=PySem.W.hideAll s.heap ([a]++jV X.stack)) (by rw[hA,cD]) L hf he (λb o z=>mw _ z) (lG _ (j7 _ (de.mpr rfl))) hd (Array.getElem?_eq_some_iff.mp h1).1 g λh' l=>?_
  rw[S,<-cD]at l;refine after [a] h' (de.mpr rfl) (λb m=>?_) l;cases de.mp m;exact⟨fr,nw,oe,vs,he,hd⟩
 ·have L:s.heap.FunFrames (PySem.W.hideAll s.heap ([a,T]++jV X.stack)) (X.env::X.outer):=by rw[<-cD];exact oQ hk λe he b hb=>dw _ (lD e he b hb)
  refine wpAny_noteFrame_onW (base:=PySem.W.hideAll s.heap ([a,T]++jV X.stack)) (cls:=cls) (a0:=a0) (by rw[hA,cD]) L hf ⟨oe,vs,T,oT,ts,he,⟨S,g⟩,hd,h1,lG _ (j7 _ (by simp)),r,hT,Zl,h3⟩ (λb o z=>mw _ z) (lG _ (j7 _ (by simp))) λh' l=>?_
  rw[<-cD]at l;refine after [a,T] h' (by simp) (λb m=>?_) l;simp only[bE,cN,cO]at m;rcases m with rfl|rfl
  ·exact⟨fr,nw,oe,vs,he,hd⟩
  ·exact⟨MM,I,oT,ts,hT,Zl⟩
theorem Iu(C:MQ X h0 Z H s a cls)(T:XB h0 H s.heap a cls)(hx:X.ex=[])(q:∀s',MQ X h0 Z H s' a cls->XB h0 H s'.heap a cls->ae () s'):wpAny M A (setFlight (.ref a) none) ae E s:=by
 obtain⟨oe,vs,a0,T,oT,ts,n,L,r,S,e5,e6,e7,e8,I,g,l⟩:=T;have hk:s.heap.FunFrames X.base X.stack:=C.inv.stack;have lD:∀e∈X.stack,∀b,e.frame=some b->b∈jV X.stack:=λe he b hb=>lI.mpr ⟨e,he,hb⟩;have hl:s.heap.FunFrames (PySem.W.hideAll s.heap ([a,T]++jV X.stack)) X.stack:=oQ hk λe he b hb=>dw _ (lD e he b hb);refine wpAny_setFlight_noneW (base:=PySem.W.hideAll s.heap ([a,T]++jV X.stack)) (cls:=cls) (a0:=a0) (fl:=.none) (λb o z=>mw _ z) hl ⟨oe,vs,T,oT,ts,n,⟨L,S⟩,r,e5,lG _ (j7 _ (by simp)),e6,I,g,l⟩ λh2 j1 j2 j3 j4=>?_
 obtain⟨c1,c2⟩:=C.step hx (hs:=[a,T]) (by simp) (λb m=>by
  simp only[bE,cN,cO]at m;rcases m with rfl|rfl
  ·exact⟨C.Gp.fr,C.Gp.nw,oe,vs,n,r⟩
  ·exact⟨e8,e7,oT,ts,I,g⟩) j1 (λb o e d=>⟨o.slots,j4 b o e d⟩) j3 λb m=>(j2.mem m).2
 exact q _ c1 c2
def MQ.XC (C:MQ X h0 Z H s a cls)(hx:X.ex=[]):∃oe:Obj,oe.cls=cls/\s.heap.get? a=some oe/\Inv X [] Z (upd H a (.ext λh=>h.get? a=some oe)) s:=by
 obtain⟨⟨oe,vs,a0,he,l,hd,_⟩,fr,nw⟩:=C.Gp;have I:=C.inv;refine⟨oe,l,he,I.ok,I.os,I.bare,⟨I.base.keep,I.base.slot,λb o e n hb=>?_,I.base.there,λb ts e=>?_,λb o u e=>?_,λb p e=>?_⟩,I.loc,I.cell,?_,λy c e=>?_,λp hp=>?_,λb u e=>?_,I.len⟩
 ·rw[bh λz=>?_]
  ·exact I.base.free b o e n hb
  ·rw[z,C.old a nw]at e;cases e
 ·rw[bh λz=>?_]
  ·exact I.base.mL b ts e
  ·have q:=I.base.mL b ts e;rw[z,fr]at q;cases q
 ·rw[bh λz=>?_]
  ·exact I.base.lC b o u e
  ·have q:=I.base.lC b o u e;rw[z,fr]at q;cases q
 ·obtain⟨more,q⟩:=I.base.nE b p e;exact⟨more,by rw[bh λz=>(by rw[z,fr]at q;cases q)];exact q⟩
 ·rw[bh λz=>?_]
  ·exact I.free
  ·obtain⟨m,⟨o,es,ep,g,hd2,_⟩,_⟩:=I.loc;rw[z,he]at g;cases g;rw[hd]at hd2;cases hd2
 ·rw[bh λz=>?_]
  ·exact I.fP y c e
  ·obtain⟨v,o,g,hd2⟩:=I.cell y c e;rw[z,he]at g;cases g;rw[hd]at hd2;cases hd2
 ·obtain⟨r,L,M⟩:=I.pin p hp;refine⟨r,?_,M⟩;rw[bh λz=>?_]
  ·exact L
  ·obtain⟨o,e⟩:=C.pn p (by simpa using hp);rw[z,nw]at e;cases e
 ·by_cases z:b=a
  ·subst z;rw[bK]at e;cases e;exact⟨he,⟨oe,he⟩,λS h2 p k=>k _ p⟩
  ·rw[bh z]at e;exact(I.cU b u e).pD (λ_ _ _ q=>q) (λc q=>by rw[bh (bR q fr)];exact q) λc xs q=>by rw[bh (bR q fr)];exact q
theorem z8{n:Str}(I:Inv X U Z H s)(hN:X.N.Nodup)(hi:X.N[i]?=some n)(hl:X.env.scope.names.lookup n=some .local)(q:∀s',Inv X U (Z.set i none) H s'->ae () s'):wpAny M A (do bindName X.env n .none;unbindBehindTheSuite X.env n pos) ae E s:=by
 obtain⟨m,hn,hlk⟩:=id I.loc;have FW:(X.env.scope.kind== .class||(X.env.scope.kind== .module&&X.env.locals !=X.env.globals))=false:=by rw[I.ok.kind];rfl
 obtain⟨oL,_,_,FD,_⟩:=id hn;refine wpAny_nameGoes_keeps hl hn FW λh' v Px hs=>q _ ?_
 have ne:∀b o,X.gj.heap.get? b=some o->b≠X.env.locals:=λb o e=>bY (c_ (bu e) I.ok.above);refine⟨I.ok,I.os,I.bare,⟨λb o e n hb L=>?_,λb o e n hb L=>?_,I.base.free,λb o e L=>?_,I.base.mL,I.base.lC,I.base.nE⟩,⟨_,Px,λj y w g S e3=>?_⟩,λy c e=>?_,I.free,I.fP,λp hp=>?_,λb u e=>?_,by rw[kK];exact I.len⟩
 ·exact(hs.2 b (ne b o e)).trans (I.base.keep b o e n hb L)
 ·obtain⟨sl,g⟩:=I.base.slot b o e n hb L;exact⟨sl,(hs.2 b (ne b o e)).trans g⟩
 ·obtain⟨o1,g⟩:=I.base.there b o e L;exact⟨o1,(hs.2 b (ne b o e)).trans g⟩
 ·by_cases hj:j=i
  ·subst hj;have hjl:j<Z.length:=by rw[I.len];exact(gb.mp hi).1
   rw[oP hjl]at S;cases S
  ·rw[mr (Ne.symm hj)]at S;obtain⟨u,r,l⟩:=hlk j y w g S e3;refine⟨u,r,?_⟩;rcases l with⟨k,e⟩|⟨k,c,e,z⟩
   ·refine .inl ⟨k,?_⟩;have hy:y≠n:=λz=>hj (tL hN g (z▸hi));show(if y=n then v else m y)=some u;rw[bb hy];exact e
   ·exact .inr ⟨k,c,e,z.sameBut hs (I.Hl y c e)⟩
 ·obtain⟨w,z⟩:=I.cell y c e;exact⟨w,z.sameBut hs (I.Hl y c e)⟩
 ·obtain⟨e,n2,ne2,nf,d⟩:=I.pin p hp;exact⟨(hs.2 p.1 ne2).trans e,n2,ne2,nf,d⟩
 ·refine(I.cU b u e).pD (λc w hc z=>(hs.2 c λy=>?_).trans z) (λ_ z=>z) λ_ _ z=>z;subst y;rcases hc with z2|z2
  ·rw[<-z2,I.free]at e;cases e
  ·rw[I.free]at z2;cases z2
end
theorem cF.none:cF K B H Z (List.replicate Z.length .no):=by
 have no:∀(i:Nat) (c:Cell),(List.replicate Z.length Cell.no)[i]?=some c->c=.no:=λi c e=>by
  rw[sG]at e;split at e
  ·exact(Option.some.inj e).symm
  ·cases e
 exact⟨wL,(λi t e=>by cases no i _ e),(λi ts e=>by cases no i _ e),(λi j ts us D _ e=>by cases no i _ e)⟩
def cF.unset {Y:bT}(h:cF K B H Z Y)(n:fI Y)(i:Nat):cF K B H (Z.set i Option.none) (Y.set i .no):=by
 refine⟨by rw[kK,kK];exact h.len,λj t e=>?_,λj ts e=>?_,λj k ts us D _ e=>?_⟩
 ·rcases fH e with⟨_,_,z⟩|⟨b,e⟩
  ·cases z
  ·obtain⟨v,g,r⟩:=h.sh j t e;exact⟨v,by rw[mr b];exact g,r⟩
 ·rcases fH e with⟨_,_,z⟩|⟨b,e⟩
  ·cases z
  ·exact absurd e (n j ts)
 ·rcases fH e with⟨_,_,z⟩|⟨b,e⟩
  ·cases z
  ·exact absurd e (n j ts)
def fI.unset {Y:bT}(h:fI Y)(i:Nat):fI (Y.set i .no):=λj ts e=>by
 rcases fH e with⟨_,_,z⟩|⟨b,e⟩
 ·cases z
 ·exact h j ts e
noncomputable abbrev Cx.kU (X:Cx)(pn:List (Addr×Obj))(E':Value->Shared->Prop):Cx:={X with pn:=pn,xe:=E'}
noncomputable abbrev Cx.pZ (X:Cx)(pn:List (Addr×Obj))(e:Value):Cx:={X with A:=X.A.mark (some e),calm:=false,pn:=pn,xe:=fun _ _=>False}
section
variable {pn:List (Addr×Obj)}
theorem Cx.Ok.kU (ok:X.Ok):(X.kU pn E).Ok:=⟨ok.mod,ok.kind,ok.glob,ok.blt,ok.above,ok.inj,ok.has,ok.Pw,ok.hd,ok.frames,ok.MJ,ok.UH,ok.bs,ok.Hk,ok.AA,ok.Cb,ok.rh,ok.Jp⟩
def Cx.Ok.l_ (ok:(X.kU pn E).Ok):X.Ok:=⟨ok.mod,ok.kind,ok.glob,ok.blt,ok.above,ok.inj,ok.has,ok.Pw,ok.hd,ok.frames,ok.MJ,ok.UH,ok.bs,ok.Hk,ok.AA,ok.Cb,ok.rh,ok.Jp⟩
theorem Cx.Ok.pZ (ok:X.Ok):(X.pZ pn af).Ok:=⟨ok.mod,ok.kind,ok.glob,ok.blt,ok.above,ok.inj,ok.has,ok.Pw,(λz=>by cases z),ok.frames,ok.MJ,ok.UH,ok.bs,ok.Hk,ok.AA,ok.Cb,ok.rh,ok.Jp⟩
theorem Inv.kU (I:Inv X U Z H s):Inv (X.kU (X.pn++U) E) [] Z H s:=⟨I.ok.kU,I.os,I.bare,I.base,I.loc,I.cell,I.free,I.fP,λp hp=>I.pin p (by simpa using hp),I.cU,I.len⟩
theorem Inv.l_ (I:Inv (X.kU (X.pn++U) E) [] Z H s):Inv X U Z H s:=⟨I.ok.l_,I.os,I.bare,I.base,I.loc,I.cell,I.free,I.fP,λp hp=>I.pin p (by simpa using hp),I.cU,I.len⟩
theorem Inv.pZ (I:Inv (X.kU pn E) [] Z H s):Inv (X.pZ pn af) [] Z H s:=⟨I.ok.l_.pZ,I.os,I.bare,I.base,I.loc,I.cell,I.free,I.fP,I.pin,I.cU,I.len⟩
def Inv.K2 (ok:X.Ok)(I:Inv (X.pZ (X.pn++U) af) [] Z H s):Inv X U Z H s:=⟨ok,I.os,I.bare,I.base,I.loc,I.cell,I.free,I.fP,λp hp=>I.pin p (by simpa using hp),I.cU,I.len⟩
theorem SP.l_ {D:Ends}{f:Flow}(h:SP (X.kU (X.pn++U) E) [] D f s):SP X U D f s:=by
 cases f with
 |next=>obtain⟨du,H',I,q⟩:=h;exact⟨du,H',I.l_,q⟩
 |brk=>obtain⟨du,H',I,q⟩:=h;exact⟨du,H',I.l_,q⟩
 |cont=>obtain⟨du,H',I,q⟩:=h;exact⟨du,H',I.l_,q⟩
 |ret u=>obtain⟨v,du,H',I,r,q⟩:=h;exact⟨v,du,H',I.l_,r,q⟩
end
structure qR(K:Frag)(mg:Str->Option Value)(c:Str)(xs:List Str):Prop where
 mg:mg c=some (.ref (clsAt K c))
 all:∀x∈xs,PySem.W.exmOne K (.ref (clsAt K x)) (.ref (clsAt K c))=some true
noncomputable def XD(N i:Nat)(xs:List Str)(x:Str)(A:Ab)(G2:bT->Ab->Rz Out):Rz Out:=if xs.contains x=true then match G2 ((List.replicate N Cell.no).set i (.sh (.at A.length))) (A++[.D5 x])with
 |.ok (.nx Y) A=>.ok (.nx (Y.set i .no)) A
 |.ok (.ret t) A=>.ok (.ret t) A
 |_=>.bad
 else .bad
def E1(N i:Nat)(xs:List Str)(r:Rz Out)(G2:bT->Ab->Rz Out):Rz Out:=match r with
 |.ok o A=>.ok o A
 |.exc (.str x) A=>XD N i xs x A G2
 |_=>.bad
section
variable {c:Str}{tp hp:Pos}{G2:bT->Ab->Rz Out}
theorem Qb.XF {h0 h:Heap}{c:Value}(u:Qb h0 H h a c):PySem.W.Looks (model P w) h (typeOf (.ref a)) c:=by
 obtain⟨⟨b,vs,a0,he,rfl,_⟩,_,_⟩:=u;exact(mI (M:=model P w) (part:=none) he).andThen (f:=λo:Obj=>pure o.cls) .now
theorem K3(Tc:qR X.K X.mg c ps)(hb:∀pn E',oK (X.kU pn E') ah (tZ (X.kU pn E') aK))(hs:∀pn e,oK (X.pZ pn e) (ai::aj) (tZ (X.pZ pn e) G2))(hN:X.N.Nodup)(hi:X.N[i]?=some av)(hl:X.env.scope.names.lookup av=some .local)
  (cD:X.stack=X.env::X.outer) (hf:X.env.frame=some X.env.locals) (hx:X.ex=[]) (MY:y3 X av) (hg:Gl X c) (fF:Db c):
  PS X (.Try ah [.ExceptHandler (some (.Name c tp)) (some av) (ai::aj) hp] [] [] pos) (tZ X λY A=>E1 X.N.length i ps (aK Y A) G2):=by
 intro U s Z H D I ⟨B0,H0,B,A,Y,BW,g,ha,r,no,q⟩;have l:=I.ok;refine wpAny_Try_except (d6 (hb (X.pn++U) _ [] s Z H D I.kU ⟨B0,H0,B,A,Y,BW,g,ha,r,no,?_⟩) (λf s1 h1=>?_) λe s1 z=>z)
 ·have b:gM (XE X B0 H0) (E1 X.N.length i ps (aK Y A) G2) (vv X D B0 H0):=q;cases eG:aK Y A with
  |bad=>rw[eG]at b;exact fe b
  |ok o A1=>rw[eG]at b;cases o<;>exact b
  |exc t A1=>
   rw[eG]at b;cases t with
   |str x=>
    obtain⟨hxs,n⟩:=ig b;intro B' H' g' jW e s1 xs1;obtain⟨a,Y_,h0,rfl,C⟩:=xs1.cau;refine Ow C hx cD hf l.frames λs3 S T3=>?_
    refine wpAny_handleBy_cons (codeAny_handlers_test ?_) (by intro z;cases z);refine wH l.kind hg (Calls.loadGlobal_global (by rw[l.glob];exact l.mod.glob.keeps S.inv.bk) Tc.mg ?_) fF;refine PySem.W.exm_one S.inv.lZ S.Gp.XF (Tc.all x (by simpa using hxs)) _ _ _ s3 (λ_ _ z=>z) ?_
    refine codeAny_handlers_suite_as ?_
    refine Iu S T3 hx λs4 C4 T4=>?_
    refine hide λP go=>?_
    obtain⟨L,hc4,he4,I4⟩:=C4.XC hx;refine go ?_
    have M:H' a=none:=C4.Gp.fr;refine xm (X:=X.kU (X.pn++U) _) I4 hN hi (.inl hl) (v:=.ref a) rfl (λs5 I5=>?_) MY;have g5:=jW.push (p:=a) (o:=.D5 x) M (bf.upd M) ⟨qM,L,bK,hc4⟩;have b9:Y_.length=X.N.length:=C4.inv.len;have r5:cF X.K (pR B' a A1.length) (upd H' a (.ext λh=>h.get? a=some L)) (Y_.set i (some (.ref a))) ((List.replicate X.N.length Cell.no).set i (.sh (.at A1.length))):=by
     rw[<-b9];exact cF.none.set i (.at iC)
    have no5:fI ((List.replicate X.N.length Cell.no).set i (.sh (.at A1.length))):=fI.set (λj ts z=>by
     rw[sG]at z;split at z<;>cases z) i _
    have key:gM (λ_ _=>False) (G2 ((List.replicate X.N.length Cell.no).set i (.sh (.at A1.length))) (A1++[.D5 x])) λo A2=>match o with
      |.nx Y=>vv X D B0 H0 (.nx (Y.set i .no)) A2
      |.ret t=>vv X D B0 H0 (.ret t) A2
      |_=>False:=by
     cases e2:G2 ((List.replicate X.N.length Cell.no).set i (.sh (.at A1.length))) (A1++[.D5 x])with
     |bad=>simp only[e2]at n;exact n
     |exc c1 A2=>simp only[e2]at n;exact n
     |ok o A2=>
      simp only[e2]at n;cases o<;>exact n
    refine d6 (hs (X.pn++U) (.ref a) [] s5 _ _ {nx:=λv8 H2=>D.nx (v8.set i none) H2,rt:=D.rt} I5.pZ ⟨B0,H0,pR B' a A1.length,A1++[.D5 x],_,BW,g'.trans BW g5.1,g5.2,r5,no5,?_⟩) (λf s6 h6=>?_) λ_ _ z=>(show False from z).elim
    ·refine(key.imp λ_ _ z=>z.elim).mono λo A2 z=>?_
     cases o with
     |nx iw=>exact λv8 B2 H2 g2 pW r2 n2=>z (v8.set i none) B2 H2 g2 pW (r2.unset n2 i) (n2.unset i)
     |ret t=>exact z
     |_=>exact z.elim
    ·cases f with
     |next=>
      obtain⟨Z4,H6,I6,q6⟩:=h6;exact z8 (I6.K2 l) hN hi hl λs7 I7=>⟨_,H6,I7,q6⟩
     |ret u=>
      obtain⟨v,Z4,H6,I6,rv,q6⟩:=h6;exact z8 (I6.K2 l) hN hi hl λs7 I7=>⟨v,_,H6,I7,rv,q6⟩
     |_=>obtain⟨_,_,_,z⟩:=h6;exact fe z
   |_=>exact fe b
 ·cases f with
  |next=>exact sZ h1.l_
  |_=>exact h1.l_
end
section
variable {es:List Expr}{E:bT->Ab->Rz Tr}{keys:List (Option Expr)}{P:bT->Ab->Rz (List (Tr×Tr))}
structure S7(X:Cx)(pos:Pos)(keys:List (Option Expr))(aA:List Expr)(P:bT->Ab->Rz (List (Tr×Tr))):Prop where
 h:∃AL,UK X pos keys aA AL/\∀Z H Q,(∃B A Y,HA X.K B A H/\cF X.K B H Z Y/\fI Y/\gM (XE X B H) (P Y A) fun Sd A'=>∀N0 B' H',Grows B H B' H'->HA X.K B' A' H'->xZ X.K (bZ B' H') N0 Sd->Q N0 H')->xx AL Z H Q
theorem K4:S7 X pos [] [] λ_ A=>.ok [] A:=⟨[],FT,λZ H Q ⟨B,A,Y,ha,r,n,q⟩=>q [] B H .refl ha .nil⟩
def Qo(k:Rz Tr)(v:Ab->Rz Tr)(r:Ab->Rz (List (Tr×Tr))):Rz (List (Tr×Tr)):=k.bind λx A=>(v A).bind λy A=>(r A).bind λps A=>.ok ((x,y)::ps) A
theorem K5(hk:PE X e (tE X aI))(hv:PE X o (tE X aJ))(hr:S7 X pos keys aA P):S7 X pos (some e::keys) (o::aA) λY A=>Qo (aI Y A) (aJ Y) (P Y):=by
 obtain⟨AL,h1,h2⟩:=hr.h;refine⟨_,Cp hk hv h1,λZ H Q ⟨B,A,Y,ha,r,n,q⟩=>?_⟩;refine⟨B,A,Y,ha,r,n,(gM.bind q).mono λx A1 b u B1 H1 g1 g l=>⟨B1,A1,Y,g,r.grow n g1,n,((gM.bind b).imp λc A' z=>z.grow ha.hb g1).mono λy A2 I w B2 H2 g2 L M=>h2 _ _ _ ⟨B2,A2,Y,L,(r.grow n g1).grow n g2,n,((gM.bind I).imp λc A' z=>z.grow ha.hb (g1.trans ha.hb g2)).mono λps A3 S N0 B3 H3 g3 Gr r3=>?_⟩⟩⟩;exact S _ B3 H3 ((g1.trans ha.hb g2).trans ha.hb g3) Gr (.cons ((l.same g2.jK).same g3.jK) (M.same g3.jK) r3)
def isE(A:Ab)(i:Nat):Bool:=match A[i]? with
 |some (.bW [])=>true
 |_=>false
def XG(P:Ab->Rz (List (Tr×Tr)))(A:Ab):Rz Tr:=(P (A++[.bW []])).bind λps A2=>if ps.length<=15/\isE A2 A.length=true then(gE (xY ps) A2).bind λbB A2=>.ok (.at A.length) (A2.set A.length (.bW (l7 [] bB)))else .bad
theorem Ox(h:S7 X pos keys aA P)(uP:keys.all (·.isSome)=true:=by rfl) (hl:keys.length=aA.length:=by rfl) (h0:keys.isEmpty=false:=by rfl) (Nr:keys.length<=15:=by decide):PE X (.Dict keys aA pos) (tE X λY A=>XG (P Y) A):=by
 obtain⟨AL,h1,h2⟩:=h.h;refine(FU h1 uP hl (λz=>by rw[z]at h0;cases h0) Nr).weak λZ H Q ⟨B,A,Y,ha,r,n,q⟩ p hp=>?_
 obtain⟨g1,nj⟩:=ha.push (p:=p) (o:=.bW []) hp (bf.upd (o:=.dK []) hp) ⟨qM,[],bK,.nil⟩;have rj:(pR B p A.length).ix p=some A.length:=iC;refine h2 Z _ _ ⟨_,_,Y,nj,r.grow n g1,n,((gM.bind q).imp λc A' z=>z.grow ha.hb g1).mono λSd A2 g N0 B2 H2 g2 pW r2=>?_⟩;obtain⟨⟨hz,he⟩,g⟩:=ig g;have I:=g2.jK.x _ _ rj;have L:A2[A.length]?=some (.bW []):=by
  unfold isE at he;split at he
  ·assumption
  ·cases he
 obtain⟨hd,l,e0,M⟩:=(show r9 X.K B2 H2 p (.bW [])from pW.get I L);have S:l=[]:=by
  have e:=M.keys;cases l with
  |nil=>rfl
  |cons a b=>cases e
 subst S;cases ep:xY Sd with
 |ok bB=>
  rw[ep]at g;obtain⟨kvs,XH,k1,e1,rd⟩:=zO (X:=X) (H0:=H2) (k:=λz=>z=bB) r2 (by rw[ep];rfl);subst k1;refine⟨e0,kvs,e1,?_,?_⟩
  ·have e2:=cT List.length e1;rw[bt,r2.length]at e2;rw[<-e2];exact hz
  ·obtain⟨g4,h6⟩:=pW.write (o:=.bW (l7 [] XH)) (u:=.dK (iY [] kvs)) I ⟨hd,_,bK,by rw[jo hd];exact dY.merge rd dY.nil⟩;exact(show∀v B' H',Grows B H B' H'->HA X.K B' (A2.set A.length (.bW (l7 [] XH))) H'->Rep X.K (bZ B' H') v (.at A.length)->Q v H' from g) (.ref p) B2 _ ((g1.trans ha.hb g2).trans ha.hb g4) h6 (.at I)
 |_=>rw[ep]at g;exact fe g
end
section
variable {a b:Expr}{es:List Expr}{ix:List (Option Nat)}{T:oH}
def E2{Q:VK}(hT:jL T)(q:tF X (λY=>vq ix T aF F (L Y) Y) Z H Q):UM (tJ X L) ix (P0 X.K T) (PZ X.K aF) (PY X.K F) Z H (λv H'=>kT X H' (Q v)):=by
 obtain⟨B,Y,hb,r,q⟩:=q;refine⟨B,Y,hb,r,q.bind.mono λts b J H1 g gt D l=>?_⟩;by_cases hz:ts.length<=eM
 ·rw[aV hz]at b;exact wa hT (v_ ix Y) (g.hb hb) gt hz ((g.HQ r).comp ix (kR l)) l (Fi.bind b) λys H' k s' n=>by
   obtain⟨M,S,I,ku⟩:=g.Qd hb s';exact ku _ (k _ M S (I n) λp e=>by cases e;exact .lst (g.free l) (I n))
 ·rw[bb hz]at b;exact b.elim
theorem K6(Lk:gL X ps ix ax)(hit:PI X tg am (tJ X L))(lD:NI X ax ps tg o aA T aF F)(hT:jL T)(hN:X.N.Nodup:=by assumption) (hc:X.calm=true:=by rfl) (hi:X.N[i]?=some x:=by rfl) (hx:Loc X.env.scope x:=by first|exact Or.inl rfl|exact Or.inr rfl)
  (Hy:swapsWith (.ListComp o [⟨tg,am,aA,0⟩] ax pos) (some (.Name x p)) b8.line X.env=pure true:=by rfl) (hs:isSet am=false:=by rfl) (hf:y3 X x:=by first|exact .inl rfl|exact .inr rfl|assumption):
  PS X (.Assign [.Name x p] (.ListComp o [⟨tg,am,aA,0⟩] ax pos) b8) (tZ X λY A'=>AY i (uZ (vq ix T aF F (L (dm A' Y)) (dm A' Y)) A') Y):=
 (xE Lk hc hN hi hx hit lD.UQ Hy (gn hs) hf).UT.weak λD Z H ⟨B0,H0,B,A',Y,hb,g,ha,r,n,q⟩=>E2 (Q:=λv H'=>D.nx (Z.set i (some v)) H') hT (se (F:=λY=>vq ix T aF F (L Y) Y) (pU (F:=λY A'=>uZ (vq ix T aF F (L (dm A' Y)) (dm A' Y)) A') hb g ha r n q.bind λt A2 v B' H' b g' l I M _=>b _ B' H' g' l (I.set i M) (n.set i t)))
end
section
variable {P:bT->Ab->Rz Bool}{hp:Pos}{G2:bT->Ab->Rz Out}
def S8(r:Rz Tr):Rz Bool:=r.bind λt A=>gE (pM t) A
theorem S9(h:PE X e (tE X aI))(he:mR e=true:=by rfl):PT X e (Qc X λY A=>S8 (aI Y A)):=
 (Cd h (xI he)).weak λZ H Q ⟨B,A,Y,ha,r,av,q⟩=>⟨B,A,Y,ha,r,av,q.bind.mono λt A1 b v B1 H1 g1 g l=>by
  obtain⟨o,h1,h2⟩:=xM (l.same fy) (mV (X:=X) (H:=H1) b);exact⟨o,h1,h2 B1 H1 g1 g⟩⟩
def S_(r:Rz Bool):Rz Bool:=r.bind λo A=>.ok (!o) A
theorem eq_not(h:PT X e (Qc X P)):PT X (.UnaryOp .Not e pos) (Qc X λY A=>S_ (P Y A)):=
 (Jt h).weak λZ H Q ⟨B,A,Y,ha,r,av,q⟩=>⟨B,A,Y,ha,r,av,q.bind⟩
variable {st:Stmt}
def XI:PE X e (tP X λ_=>.bad):=λ_ _ _ _ _ _ ⟨_,_,_,_,q⟩=>(show False from q).elim
def XJ:PS X st (tS X λ_=>.bad):=λ_ _ _ _ _ _ ⟨_,_,_,_,_,_,_,q⟩=>(show False from q).elim
end
open PySem.W
structure Bk(K:Frag)(D:Addr):Prop where
 ga:findIn K (.ref D) "__getattribute__"=some (some (.builtin "BaseException.__getattribute__"))
 gh:findIn K (.ref D) "__getattr__"=some none
 cl:findIn K (.ref D) "__class__"=some (some (.builtin "object.__class__"))
 ob:mroIn K D (.type "object")=some true
 be:mroIn K D (.type "BaseException")=some true
section
variable {g:Array GenState}{d:Drawn}{t:Nat}{os:OsState}{o:Obj}{K:Frag}
theorem Ta(G:Bk K au)(X:K.In aa)(q:aa.get? a=some o)(hc:o.cls=.ref au)(hq:aw (.ok (.ret (.ref au))) ⟨aa,g,d,t,os⟩):
  codeAny (model P w) A (.call (.builtin "getset_descriptor.__get__") ⟨[.builtin "object.__class__",.ref a,af],[]⟩) aw ⟨aa,g,d,t,os⟩:=by
 have b:(⟨aa,g,d,t,os⟩:Shared).TypeIs (.builtin "object.__class__") "getset_descriptor":=wQ;have l:Looks (model P w) aa (typeOf (.ref a)) (.ref au):=hc▸(mI q).andThen .now;have n:Looks (model P w) aa (isSubtype (.ref au) (.type (".".intercalate ("object.__class__".cutAt '.').dropLast))) true:=by rw[show".".intercalate ("object.__class__".cutAt '.').dropLast="object" by decide+kernel];exact looks_mroIn X G.ob
 refine wX F.slot_gs_get.plain F.entry_gs_get (F.slot_gs_get.check _ _ _ _ _ _ _ _ b (F.args_gs_get _ _ _) ?_)
 repeat(any_goals (first|assumption|(with_reducible refine l.at ?_)|(with_reducible refine n.at ?_)|wp_step))
 refine⟨Code.quiet_builtin _ (by decide+kernel),fL F.entry_object_class ?_⟩
 repeat(any_goals (first|assumption|(with_reducible refine l.at ?_)|wp_step))
theorem K7{tk:Tok}{Q:Fin->Shared->Prop}(G:Bk K au)(X:K.In aa)(q:aa.get? a=some o)(hc:o.cls=.ref au)(hq:Q (.done (.ret (.ref au))) ⟨aa,g,d,t,os⟩):
  wpAny (model P w) A (Builtin.«object.__getattribute__» ⟨[.ref a,.str "__class__" tk],[]⟩) Q E ⟨aa,g,d,t,os⟩:=by
 have b:Looks (model P w) aa (typeOf (.ref a)) (.ref au):=hc▸(mI q).andThen .now;have l:=tm (M:=model P w) X G.cl;have n:(⟨aa,g,d,t,os⟩:Shared).TypeIs (.builtin "object.__class__") "getset_descriptor":=wQ;have r:=wQ;have I:=F.slot_gs_get.lookup;have L:=F.slot_gs_set.lookup
 repeat(any_goals (first|assumption|(with_reducible refine b.at ?_)|(with_reducible refine l.at ?_)|wp_step))
 refine Ta G X q hc ?_
 repeat(any_goals (first|assumption|wp_step))
theorem K8{M:Model}(G:Bk K au)(X:K.In aa)(q:aa.get? a=some o)(hc:o.cls=.ref au)(hq:ae () ⟨aa,g,d,t,os⟩):wpAny M A (checkBuiltinCall "BaseException.__getattribute__" ⟨[.ref a,af],[]⟩) ae E ⟨aa,g,d,t,os⟩:=by
 have b:Looks M aa (typeOf (.ref a)) (.ref au):=hc▸(mI q).andThen .now;have l:=looks_mroIn (M:=M) X G.be;have k1:builtinKind "BaseException.__getattribute__"=some .slot:=by decide+kernel
 have k2:splitId "BaseException.__getattribute__"=some ("BaseException","__getattribute__"):=by decide+kernel
 have n:=F.args_bexc_ga (.ref a) af;simp only[checkBuiltinCall,k1,k2];refine aS ?_
 unfold isInstance
 repeat(any_goals (first|assumption|(with_reducible refine b.at ?_)|(with_reducible refine l.at ?_)|wp_step))
theorem Oy{tk:Tok}(G:Bk K au)(X:K.In aa)(q:aa.get? a=some o)(hc:o.cls=.ref au)(hq:aw (.ok (.ret (.ref au))) ⟨aa,g,d,t,os⟩):
  codeAny (model P w) A (.call (.builtin "BaseException.__getattribute__") ⟨[.ref a,.str "__class__" tk],[]⟩) aw ⟨aa,g,d,t,os⟩:=
 wX (by decide+kernel) F.entry_bexc_ga (K8 G X q hc (K7 G X q hc hq))
theorem XM{tk:Tok}(FB:Slot "ValueError" "__getattribute__" "BaseException.__getattribute__")(G:Bk K au)(X:K.In aa)(q:aa.get? a=some o)(hc:o.cls=.ref au)(hq:Q (.ref au) ⟨aa,g,d,t,os⟩):
  wpAny (model P w) A (getAttrBy (.ref a) (.str "__class__" tk) false) Q E ⟨aa,g,d,t,os⟩:=by
 have b:Looks (model P w) aa (typeOf (.ref a)) (.ref au):=hc▸(mI q).andThen .now;have l:=tm (M:=model P w) X G.ga;have L2:=tm (M:=model P w) X G.gh;have n:=FB.bind (.ref a);have k0:onTheHeap (Value.builtin "BaseException.__getattribute__")=false:=rfl;have k2:(Value.builtin "BaseException.__getattribute__"==Value.builtin "object.__getattribute__")=false:=by decide+kernel
 have k1:(onTheHeap (Value.ref au)&&Value.builtin "BaseException.__getattribute__"==Value.builtin "object.__getattribute__")=false:=by rw[k2];rfl
 repeat(any_goals (first|assumption|(with_reducible refine b.at ?_)|(with_reducible refine l.at ?_)|(with_reducible refine L2.at ?_)|wp_step))
 refine Oy G X q hc ?_
 repeat(any_goals (first|assumption|wp_step))
def Oz(FB:Slot "ValueError" "__getattribute__" "BaseException.__getattribute__")(G:Bk K au)(X:K.In aa)(q:aa.get? a=some o)(hc:o.cls=.ref au)(hq:aM (some (.ref au)) ⟨aa,g,d,t+1,os⟩):
  wpAny (model P w) A (getAttr? (.ref a) "__class__") aM E ⟨aa,g,d,t,os⟩:=by
 unfold getAttr? getAttrBy?
 repeat(any_goals (first|assumption|with_reducible apply XM FB G X q hc|wp_step))
theorem K9(G:Bk K au)(FW:(clsIn K au).isSome=true):KitX K (.ref a) (.ref au) (λaa=>∃o,aa.get? a=some o/\o.cls=.ref au) where
 ty:=λM aa X ⟨o,b,l⟩=>l▸(mI b).andThen .now
 it:=λM aa X _=>by
  unfold clsIn at FW;split at FW
  ·rename_i S d' r Vd I;intro A' Q' E' s' k q;unfold isType loadHead;exact aS (wpAny_loadPart (k _ _ (X _ _ I)) (bc q))
  ·cases FW
 ne:=λaa tp dd cn n sl X L=>by
  refine Bool.eq_false_iff.mpr λq=>?_
  have e:au=tp:=Value.ref.inj (ff.mp q);subst e;unfold clsIn at FW;split at FW
  ·rename_i S d' r Vd I;cases(X _ _ I).symm.trans L
  ·cases FW
 ca:=λ{P w A E Q s} X ⟨o,b,l⟩ k=>by
  obtain⟨aa,g,d,t,os⟩:=s;exact Oz F.excAttr_ValueError.ga G X b l k
end
structure iW(K:Frag)(u:Value)(tab:List (Str×Bool)):Prop where
 all:∀x b,tab.lookup x=some b->kitOne K (.ref (clsAt K x)) u=some b/\Bk K (clsAt K x)/\(clsIn K (clsAt K x)).isSome=true
noncomputable def Iw(tab:List (Str×Bool)):Tr->Rs Tr
 |.zG x=>match tab.lookup x with
  |some b=>.ok (.bl b)
  |none=>.bad
 |_=>.bad
section
variable {p2:Pos}{c:Str}{tab:List (Str×Bool)}{cv:V}
theorem Dh(T:iW X.K af tab)(hu:∀u',RelV cv u'->u'=af):gC X (.builtin "isinstance") (λxs H Q=>∃B y t,HB B H/\xs=[y,cv]/\Rep X.K (bZ B H) y t/\Fi X H (Iw tab t) λt=>∀v H',bf H H'->Rep X.K (bZ B H') v t->Q v H'):=by
 intro U s Z H xs us Q I r ⟨B,y,t,hb,ex,L,q⟩;subst ex;obtain⟨v,M,rfl,r1,r2⟩:=vals2 r;cases hu M r2;cases L with
 |@zG a n x h S=>
  cases r1;have g:=q;unfold Iw at g;dsimp only at g;cases l:tab.lookup x with
  |none=>rw[l]at g;exact fe g
  |some b=>
   rw[l]at g;obtain⟨k1,k2,k3⟩:=T.all x b l;obtain⟨ho,_⟩:=(show cV X.prog X.w H s.heap a (.ext λh=>h.get? a=some n)from I.cU a _ (d7 h));exact fc (K9 k2 k3) I.lZ ⟨n,ho,S⟩ k1 (λz=>nomatch z) λtk=>⟨.bl b,H,I.tok _,rfl,(show∀v H',bf H H'->Rep X.K (bZ B H') v (.bl b)->Q v H' from g) _ H (bf.refl H) (.bl b)⟩
 |_=>exact fe q
def Di(hv:PE X (.Name c p2) (tC cv))(he:PE X e (tP X F))(cD:isStar e=false):PA X [e,.Name c p2] (λZ H Q=>∃B Y,HB B H/\cF X.K B H Z Y/\Fi X H (F Y) λt=>∀v H',bf H H'->Rep X.K (bZ B H') v t->Q [v,cv] H'):=
 (lM he (lM hv rX (bJ _ _ rfl)) (bJ _ _ cD)).weak λZ H Q ⟨B,Y,hb,r,q⟩=>⟨B,Y,hb,r,q.mono λt b v H1 s1 g=>b v H1 s1 g⟩
theorem Tb(T:iW X.K (.ref (clsAt X.K c)) tab)(hm:X.mg c=some (.ref (clsAt X.K c)))(hi:X.mg "isinstance"=none)(he:PE X e (tP X F))(hg:Gl X c:=by rfl) (K_:Gl X "isinstance":=by rfl) (fF:Db c:=by decide) (cD:bx [e,.Name c p2]=true:=by rfl):
  PE X (.Call (.Name "isinstance" p) [e,.Name c p2] [] pos) (tP X λY=>(F Y).bind (Iw tab)):=
 (pF (Dh (cv:=.ref (clsAt X.K c)) T λu' z=>z) K_ hi rfl (Di (AE (v:=.ref (clsAt X.K c)) hg hm rfl fF) he (bj cD).1) (by decide) (by decide) (bJ _ _ (bj cD).1) (cP (bj cD).2)).weak λZ H Q ⟨B,Y,hb,r,q⟩=>⟨B,Y,hb,r,q.bind.mono λt b v H1 s1 rv=>⟨B,v,t,hb.same s1,rfl,rv,(b.same s1).mono λt k v H2 s2 g=>k v H2 (s1.trans s2) g⟩⟩
theorem Td(T:iW X.K (.type ay) tab)(hm:X.mg c=none)(hi:X.mg "isinstance"=none)(he:PE X e (tP X F))(hv:bootBuiltins c=some (.type ay):=by rfl) (hg:Gl X c:=by rfl) (hn:c≠"__name__":=by decide) (K_:Gl X "isinstance":=by rfl) (fF:Db c:=by decide) (cD:bx [e,.Name c p2]=true:=by rfl):
  PE X (.Call (.Name "isinstance" p) [e,.Name c p2] [] pos) (tP X λY=>(F Y).bind (Iw tab)):=
 (pF (Dh (cv:=.ty ay) T λu' z=>z) K_ hi rfl (Di (FE (v:=.ty ay) hg hm hv rfl hn fF) he (bj cD).1) (by decide) (by decide) (bJ _ _ (bj cD).1) (cP (bj cD).2)).weak λZ H Q ⟨B,Y,hb,r,q⟩=>⟨B,Y,hb,r,q.bind.mono λt b v H1 s1 rv=>⟨B,v,t,hb.same s1,rfl,rv,(b.same s1).mono λt k v H2 s2 g=>k v H2 (s1.trans s2) g⟩⟩
end
noncomputable def rJ:List Tr->Option (List Int)
 |[]=>some []
 |.int i::ts=>(rJ ts).map λr=>i::r
 |_=>none
theorem z9{W:Vw}:∀{vs:List V} {ts:List Tr} {ns:List Int},bM K W vs ts->rJ ts=some ns->vs=ns.map V.int
 |[],[],ns,_,e=>by cases e;rfl
 |[],_::_,_,h,_=>by cases h
 |v::vs,ts,ns,h,e=>by
  cases h with
  |cons h r=>
   cases h with
   |int i=>
    rename_i ts;have b:(rJ ts).map (λr=>i::r)=some ns:=e;cases q:rJ ts with
    |none=>rw[q]at b;cases b
    |some rs=>
     rw[q]at b;cases b;rw[z9 r q];rfl
   |_=>cases e
noncomputable def rK(ns:List Int):Int:=ns.getD (argBest (λi j=>decide (ns.getD i 0>ns.getD j 0)) (ns.length - 1)) 0
def K':List Tr->Rs Tr
 |[.lst ts]=>match rJ ts with
  |some ns=>if 0<ns.length then .ok (.int (rK ns))else .bad
  |none=>.bad
 |[.int i,.int j]=>.ok (.int (if j>i then j else i))
 |_=>.bad
section
theorem Iy(hc:X.calm=true):gC X (.builtin "max") (λxs H Q=>∃(a:Addr) (ns:List Int),xs=[.ref a]/\lL X.K H a (ns.map V.int)/\0<ns.length/\Q (.int (rK ns)) H):=by
 intro U s Z H xs us Q I r h;obtain⟨a,ns,rfl,ha,hU,q⟩:=h;obtain⟨u,rfl,g⟩:=vals1 r;cases(show u=Value.ref a from g);obtain⟨cn,rv,pl,_⟩:=I.list ha;have l:cn.length=ns.length:=by have e:=rv.length;rw[bt]at e;exact e.symm
 have L:∀(i:Nat) (v:Value),cn.toArray[i]?=some v->∃t,v=.int (ns.getD i 0) t:=λi v hv=>by
  have M:cn[i]?=some v:=by simpa using hv
  have hi:i<ns.length:=by rw[<-l];exact(gb.mp M).1
  obtain⟨u,S,g⟩:=rv.get (i:=i) (x:=V.int ns[i]) (by rw[b_,bV hi];rfl);rw[M]at S;cases S;obtain⟨t,rfl⟩:=(show∃t,v=Value.int ns[i] t from g);exact⟨t,by rw[eJ,bV hi];rfl⟩
 have n:=pl.isList;have gm:a<s.heap.objs.size:=by obtain⟨_,e,_⟩:=n;exact bu e
 refine call_max_walk (kH n ?_);refine⟨_,_,_,_,_,_,_,rfl,Walks.list (A:=X.A.in1) (I.ok.hd hc) _ a (bY gm) cn.toArray,⟨⟨_,cp _ rfl,rfl,rfl⟩,n.push _⟩,λb hb=>?_,by simpa[l]using hU,CmpOf.ints_gt (λi=>ns.getD i 0) L,λv h' tk hP hk=>?_⟩
 ·show b<(s.heap.push _).objs.size;rw[jv];rcases bE.mp hb with rfl|hb
  ·exact o4 _
  ·rw[de.mp hb];exact lJ gm
 ·obtain⟨t,rfl⟩:=L _ v hP;have e:cn.toArray.size=ns.length:=by rw[cS];exact l
  rw[e];refine⟨.int (rK ns),H,I.kept (t':=tk) λb o e=>?_,⟨t,rfl⟩,q⟩;refine hk b o (λhm=>?_) (bP _ e);rw[de.mp hm]at e;exact absurd (bu e) (eP _)
def La(q:Fi X H (K' ts) aB):(∃us ns,ts=[.lst us]/\rJ us=some ns/\0<ns.length/\aB (.int (rK ns)))\/∃i j:Int,ts=[.int i,.int j]/\aB (.int (if j>i then j else i)):=by
 unfold K' at q;split at q
 ·rename_i us;cases e:rJ us with
  |none=>rw[e]at q;exact fe q
  |some ns=>
   rw[e]at q;obtain⟨h0,z⟩:=gD q;exact .inl ⟨us,ns,rfl,e,h0,z⟩
 ·exact .inr ⟨_,_,rfl,q⟩
 ·exact fe q
theorem Qp(hc:X.calm=true):lO X (.builtin "max") K':=by
 intro U s Z H xs us Q I b ⟨B,ts,hb,r,q⟩;rcases La q with⟨g,ns,rfl,e,h0,k⟩|⟨i,j,rfl,k⟩
 ·obtain⟨x,rfl,h⟩:=fT r;obtain⟨a,vs,rfl,h,rr⟩:=h.lst_inv;cases z9 rr e;exact Iy hc U s Z H _ us Q I b ⟨_,ns,rfl,.of (d7 h),h0,k _ H (bf.refl H) (.int _)⟩
 ·obtain⟨x,y,e,h1,h2⟩:=zI r;exact Hr hc U s Z H _ us Q I b ⟨i,j,by rw[e,h1.int_inv,h2.int_inv],k _ H (bf.refl H) (.int _)⟩
variable {l:Expr}{p1 p2 Xh Xi:Pos}
def Dj(q:Fi X H (pY aC) aB):∃ts ss,aC=.lst ts/\oo ts=some ss/\ss.length<64/\aB (.lst ((cZ (eN [] ss)).map .str)):=by
 unfold pY at q;split at q
 ·rename_i ts;cases e:oo ts with
  |none=>rw[e]at q;exact fe q
  |some ss=>
   rw[e]at q;obtain⟨h0,z⟩:=gD q;exact⟨ts,ss,rfl,e,h0,z⟩
 ·exact fe q
theorem ym:∀(xs ss:List Str),(eN ss xs).length<=ss.length+xs.length
 |[],ss=>bz _
 |x::xs,ss=>by
  have b:=ym xs (gG ss x);have h2:=yc ss x;show(eN (gG ss x) xs).length<=_;rw[dt];omega
def E3{ss:List Str}(h:av∈gG ss x):av∈ss\/av=x:=by
 unfold gG at h;split at h
 ·exact .inl h
 ·rcases dI.mp h with h|h
  ·exact .inl h
  ·exact .inr (de.mp h)
theorem yn:∀{xs ss:List Str} {z:Str},z∈eN ss xs->z∈ss\/z∈xs
 |[],ss,z,h=>.inl h
 |x::xs,ss,z,h=>by
  rcases yn (xs:=xs) (ss:=gG ss x) h with h|h
  ·rcases E3 h with h|h
   ·exact .inl h
   ·exact .inr (bE.mpr (.inl h))
  ·exact .inr (ck _ h)
theorem Te(hs:X.mg "sorted"=none)(hm:X.mg "set"=none)(hl:PE X l (tP X F))(hc:X.calm=true:=by rfl) (hg:Gl X "sorted":=by rfl) (K_:Gl X "set":=by rfl) (cD:bx [l]=true:=by rfl):
  PE X (.Call (.Name "sorted" p1) [.Call (.Name "set" p2) [l] [] Xi] [] Xh) (tP X λY=>(F Y).bind pY):=
 (pF (ye hc) hg hs rfl (lM (uU (Ig hc) K_ hm rfl (lM hl rX (bJ _ _ (bj cD).1)) (by decide) (by decide) (bJ _ _ (bj cD).1) (cP (bj cD).2)) rX (bJ _ _ rfl)) (by decide) (by decide) (bJ _ _ rfl) (cP (es:=[]) rfl)).weak λZ H Q ⟨B,Y,hb,r,q⟩=>⟨B,Y,hb,r,q.bind.mono λt g v H1 s1 n=>by
  obtain⟨ts,ss,rfl,I,S,k⟩:=Dj g;cases n with
  |lst h L=>
   obtain⟨rfl,hs⟩:=u7 L I;refine⟨_,ss,rfl,.of (d7 h),?_,λa M=>⟨a,eN [] ss,rfl,bK,?_,λD b=>?_⟩⟩
   ·have:scanBound=9007199254740992\/ss.length+1<scanBound:=by
     right;show ss.length+1<scanBound;have Nu:65<scanBound:=by decide
     omega
    rcases this with h|h
    ·omega
    ·exact h
   ·have:=ym ss [];simp at this;omega
   ·have s2:bf H1 (upd H1 a (Ic X.w a (eN [] ss))):=bf.upd M;have s3:bf (upd H1 a (Ic X.w a (eN [] ss))) (upd (upd H1 a (Ic X.w a (eN [] ss))) D (.lst ((cZ (eN [] ss)).map V.str))):=bf.upd b;exact k _ _ ((s1.trans s2).trans s3) (.zd ((hb.same s1).same s2) b (yj λz hz=>hs z ((yn hz).resolve_left (by simp))))⟩
end
def aaR:V->List V->Hp->VK->Prop:=λx xs H Q=>∃a b kvs more,x=.ref a/\xs=[.ref b]/\a≠b/\H a=some (.dK kvs)/\Rd H b (.dK more)/\kvs.length+more.length<=sizeLine/\Q .cx (upd H a (.dK (iY kvs more)))
theorem Iz:Ro X "dict.update" aaR:=by
 intro U s Z H x xs v us Q I L M ⟨a,b,kvs,more,S,e2,EB,ha,hb,hz,q⟩;subst S e2;obtain⟨u,rfl,ru⟩:=vals1 M;cases L;cases(show u=Value.ref b from ru);obtain⟨z1,s1,l,r1,r⟩:=(show cV X.prog X.w H s.heap a (.dK kvs)from I.cU a _ ha);obtain⟨z2,s2,n,r2,d2⟩:=(show cV X.prog X.w H s.heap b (.dK more)from hb.ok I.cU);refine jw PySem.F.slot_dict_update r.typeIs PySem.F.entry_dict_update (PySem.F.args_dict_update_2 _ _) (meets_dict_update (cj X.prog X.w) a b EB s2) ⟨l,n,r,d2,by rw[<-KV.length r1,<-KV.length r2];exact hz,λh' g _ hs=>?_⟩;have he:∃q,h'.get? a=some q:=let⟨q,_,_,hq,_⟩:=g;⟨q,hq⟩
 have hl:(iY kvs more).length<=sizeLine:=cB (by have:=jm more kvs;omega) hz;exact⟨.cx,_,t9 I (by rw[ha];exact True.intro) hs he (xw hl s1 (r2.merge r1) g),rfl,q⟩
def XN(o:Rz Tr)(k:Ab->Rz Tr):Rz Tr:=o.bind λt A=>match t with
 |.at i=>if mY A i=true then(k A).bind λb A=>match b with
  |.bW EF=>if mY A i=true/\(oJ A i).length+EF.length<=eM then .ok .cx (A.set i (.bW (l7 (oJ A i) EF)))else .bad
  |_=>.bad
  else .bad
 |_=>.bad
theorem XO(ho:PE X o (tE X aI))(he:PE X e (tE X aJ))(hb:isCall o=false:=by rfl) (cD:bx [e]=true:=by rfl) (hl:(b8.endLine==p.line)=true:=by rfl):PE X (.Call (.Attribute o "update" b8) [e] [] p) (tE X λY A=>XN (aI Y A) (aJ Y)):=
 (FO qE PySem.F.slot_dict_update PySem.F.type_dict_update Iz ho (Gu he Kp (bj cD).1) (gq hb) (by rw[jy cD];rfl) hl (bJ _ _ (bj cD).1) (cP (bj cD).2)).weak λZ H Q ⟨B,A,Y,ha,r,n,q⟩=>⟨B,A,Y,ha,r,n,q.bind.mono λt A1 I v B1 H1 g1 S rv=>by
  split at I
  ·obtain⟨a,rfl,rj⟩:=rv.nH;rename_i i;obtain⟨hd,q2⟩:=ig I;obtain⟨bB,kvs,e1,e2,e3,e4⟩:=qQ S rj hd;refine⟨.inr (.inr (.inl ⟨rfl,.inl ⟨_,e3⟩⟩)),B1,A1,Y,S,r.grow n g1,n,?_⟩;have l:=(gM.bind q2).imp (λc A' (z:XE X B H c A')=>z.grow ha.hb g1);have step:gM (XE X B1 H1) (Gs (aJ Y A1) λA=>.ok [] A) (λts A2=>∃L,ts=[L]/\gM (XE X B H) (match L with
     |.bW EF=>if mY A2 i=true/\(oJ A2 i).length+EF.length<=eM then .ok .cx (A2.set i (.bW (l7 (oJ A2 i) EF)))else .bad
     |_=>.bad) λt A'=>∀v B' H',Grows B H B' H'->HA X.K B' A' H'->Rep X.K (bZ B' H') v t->Q v H'):=by
    cases eg:aJ Y A1 with
    |ok x A2=>rw[eg]at l;exact⟨x,rfl,l⟩
    |_=>rw[eg]at l;exact l
   refine step.mono λts A2 ⟨L,et,M⟩ vs B2 H2 g2 pW rs=>?_
   subst et;obtain⟨y,rfl,ry⟩:=fT rs;have Bj:=g2.jK.x _ _ rj;split at M
   ·obtain⟨b,g,rfl,hm,em,rm⟩:=ry.nG;rename_i EF _;obtain⟨⟨hd2,hz⟩,q4⟩:=ig M;obtain⟨S3,K0,f1,f2,f3,f4⟩:=qQ pW Bj hd2;rw[Bi f1]at hz q4;have EB:a≠b:=λz=>by
     have n:(bZ B2 H2).H a=none:=by show(if B2.hd a=true then none else H2 a)=none;rw[aV f2]
     rw[<-z]at hm;rcases hm with h|⟨o,h⟩<;>(rw[n]at h;cases h)
    have b9:g.length=EF.length:=by have:=cT List.length em;rw[bt,bt]at this;exact this
    obtain⟨g4,h6⟩:=pW.write (o:=.bW (l7 S3 EF)) (u:=.dK (iY K0 g)) Bj ⟨f2,_,bK,by rw[jo f2];exact dY.merge ⟨em,rm⟩ f4⟩;exact⟨a,b,K0,g,rfl,rfl,EB,f3,hm.same bG,by rw[f4.length,b9,<-iZ];exact hz,q4 .cx B2 _ ((g1.trans ha.hb g2).trans ha.hb g4) h6 .cx⟩
   ·exact M.elim
  ·exact I.elim⟩
def Itk(ks:List Str):It:=⟨λi _=>i<ks.length,λi H x H'=>H'=H/\∃z,ks[i]?=some z/\x=.str z,λi _=>ks.length<=i⟩
theorem E4(a it:Addr)(kvs:List (Str×Value))(o:Obj)(es:Array DictEntry)(ep:Nat)(lk:K.lookup a=some o)(ex:o.ExactDict)(hd:o.data=.dict es ep)(hk:KeysOf (PySem.strKind P w) es/\Pairs (PySem.strKind P w) es.toList kvs/\(kvs.map (·.1)).Nodup):Turn P w K tg (Itk (kvs.map (·.1))) [it] it (λi h=>h.IsKeyIter it a i kvs.length ep) where
 mem:=by simp
 obj:=λi h st b hb=>by
  have e:b=it:=by simpa using hb
  subst e;obtain⟨o,e,c,d⟩:=st;exact⟨o,e,λv z=>by rw[d]at z;cases z⟩
 keep:=λi h h' st k=>by
  obtain⟨o,e,c⟩:=st;exact⟨o,k it (by simp) o e,c⟩
 item:=by
  intro X l hw n hc i U s Z H E I hf st r;subst l hw n;have hi:i<kvs.length:=by have q:i<(kvs.map (·.1)).length:=r;rw[bt]at q;exact q
  have L:s.heap.get? a=some o:=I.lZ a o lk;obtain⟨f0,f1,f2,M,f4,S⟩:=hf it (by simp);have g:kvs[i]?=some (kvs[i].1,kvs[i].2):=by simp[hi]
  refine wpAny_pyNext_dict_item (knd:=PySem.strKind X.prog X.w) st ⟨o,es,L,ex,hd,hk⟩ g λkey h' hk1 xo sb=>?_
  have I1:Inv X U Z H {s with heap:=h'}:=I.turned (t':=s.toks) (λb o hb e=>(sb.2 b hb).trans e) f0 f1 M f4 S;obtain⟨oi,e,c,d⟩:=id xo;refine⟨key,rfl,zw (s:={s with heap:=h'}) e c d (by decide) ⟨.str kvs[i].1,H,I1,?_,⟨rfl,kvs[i].1,by rw[b_,g];rfl,rfl⟩,xo,λb hb=>(hf b hb).1⟩⟩;exact u6 (k:=.inr kvs[i].1) hk1
 done:=by
  intro X l hw n hc i U s Z H E I hf st r;subst l hw n;have hi:kvs.length<=i:=by have q:(kvs.map (·.1)).length<=i:=r;rw[bt]at q;exact q
  have L:s.heap.get? a=some o:=I.lZ a o lk;obtain⟨f0,f1,f2,M,f4,S⟩:=hf it (by simp);exact wpAny_pyNext_dict_end (knd:=PySem.strKind X.prog X.w) (I.ok.hd hc) st ⟨o,es,L,ex,hd,hk⟩ (List.getElem?_eq_none hi) λh' eb=>⟨rfl,I.turned (t':=s.toks) (λb o hb e=>eb b o hb e) f0 f1 M f4 S⟩
 self:=λ_ _ _ _ _ st h=>wpAny_pyIter_keyiter st h
def Bl(K:Frag)(w:World)(mg:Str->Option Value)(x:Str)(ks:List Str):Prop:=∃a kvs,mg x=some (.ref a)/\Cs K w a kvs/\kvs.map (·.1)=ks/\∀z∈ks,z.length<=cY
theorem Tf(T:Bl X.K X.w X.mg x ps)(hg:Gl X x:=by rfl) (fF:Db x:=by decide):PI X tg (.Name x p) (tI X λ_=>.ok (ps.map .str)):=by
 obtain⟨a,kvs,hm,⟨hs,o,es,ep,lk,ex,hd,g⟩,rfl,hz⟩:=T;intro U s Z H R I ⟨B,Y,hb,r,q⟩;refine qH I hg hm ?_ fF
 have n:s.heap.get? a=some o:=I.lZ a o lk;refine wpAny_pyIter_dict (knd:=PySem.strKind X.prog X.w) hs ⟨o,es,n,ex,hd,g X.prog⟩ ?_
 refine⟨s.heap.objs.size,[s.heap.objs.size],_,Itk (kvs.map (·.1)),H,rfl,I.kept (t':=s.toks) λb o e=>bP _ e,E4 a _ kvs o es ep lk ex hd (g X.prog),⟨_,cp _ rfl,rfl,rfl⟩,λb hb=>?_,?_⟩
 ·have e:b=s.heap.objs.size:=by simpa using hb
  subst e;exact I.xn (bz _) (I.cU.fresh (bz _))
 ·refine(show∀J H',bf H H'->lP X.K B J H' ((kvs.map (·.1)).map .str)->R J H' from q) _ H (bf.refl H) ⟨λi B' H' hi _ _=>?_,λi B' H' y S hi s2 N9 ⟨L,z,l,M⟩=>?_,λB' H' _=>?_⟩
  ·have e:i<((kvs.map (·.1)).map Tr.str).length:=hi;rw[bt]at e;exact e
  ·subst L M;exact⟨bf.refl _,.str z,by rw[b_,l];rfl,.str z (hz z (dZ l))⟩
  ·show(kvs.map (·.1)).length<=((kvs.map (·.1)).map Tr.str).length;rw[bt (f:=Tr.str)];exact bz _
noncomputable def Bm:Heap:={}
def p4(b:Addr):Bm.get? b=none:=by
 cases e:Bm.get? b with
 |none=>rfl
 |some o=>exact absurd (bu e) (w8 _)
noncomputable def E5(h:Heap)(L:Addr):List (Addr×Obj):=(List.range h.objs.size).filterMap λb=>if b=L then none else(h.get? b).map λo=>(b,o)
def E6{o:Obj}:(au,o)∈E5 aa a↔au≠a/\aa.get? au=some o:=by
 unfold E5;rw[lI];constructor
 ·rintro ⟨c,_,e⟩
  by_cases z:c=a
  ·rw[aV z]at e;cases e
  ·rw[bb z]at e;cases q:aa.get? c with
   |none=>rw[q]at e;cases e
   |some u=>rw[q]at e;cases e;exact⟨z,q⟩
 ·rintro ⟨n,e⟩
  exact⟨au,sY.mpr (bu e),by rw[bb n,e];rfl⟩
theorem Inv.Lb {m:Str->Option Value}{h':Heap}{tk:Nat}(I:Inv X U Z H s)(hn0:s.heap.Ns X.env.locals m)(hn:h'.Ns X.env.locals m)(kp:∀b o,b≠X.env.locals->s.heap.get? b=some o->h'.get? b=some o):Inv X U Z H {s with heap:=h',toks:=tk}:=by
 obtain⟨m0,L,hl⟩:=id I.loc;have Hl:=I.Hl;have lo:∀{b:Addr} {o:Obj},X.gj.heap.get? b=some o->b≠X.env.locals:=λ{b o} e=>bY (c_ (bu e) I.ok.above);have em:m0=m:=by
  obtain⟨o1,vO,ep1,a1,b1,_,d1⟩:=L;obtain⟨o2,es2,ep2,a2,b2,_,d2⟩:=hn0;rw[a1]at a2;cases a2;rw[b1]at b2;cases b2;funext x;rw[<-d1 x,<-d2 x]
 subst em;refine⟨I.ok,I.os,I.bare,⟨λb o e n hb g=>kp b o (lo e) (I.base.keep b o e n hb g),λb o e n hb g=>?_,I.base.free,λb o e g=>?_,I.base.mL,I.base.lC,I.base.nE⟩,⟨m0,hn,λj y v' l e2 e3=>?_⟩,λy c e=>?_,I.free,I.fP,λp hp=>?_,λb u e=>?_,I.len⟩
 ·obtain⟨sl,l⟩:=I.base.slot b o e n hb g;exact⟨sl,kp b _ (lo e) l⟩
 ·obtain⟨o',l⟩:=I.base.there b o e g;exact⟨o',kp b o' (lo e) l⟩
 ·obtain⟨u',r',q⟩:=hl j y v' l e2 e3;refine⟨u',r',?_⟩;rcases q with⟨k,e⟩|⟨k,c,e,z⟩
  ·exact .inl ⟨k,e⟩
  ·obtain⟨oc,M,S⟩:=id z;exact .inr ⟨k,c,e,oc,kp c oc (Hl y c e) M,S⟩
 ·obtain⟨w',z⟩:=I.cell y c e;obtain⟨oc,M,S⟩:=id z;exact⟨w',oc,kp c oc (Hl y c e) M,S⟩
 ·obtain⟨e,n,ne,nf,d⟩:=I.pin p hp;exact⟨kp p.1 p.2 ne e,n,ne,nf,d⟩
 ·refine(I.cU b u e).pD (λc w' r q=>kp c w' ?_ q) (λ_ q=>q) λ_ _ q=>q
  rintro rfl
  rcases r with rfl|r
  ·rw[I.free]at e;cases e
  ·rw[I.free]at r;cases r
def z_:List Tr->Rs Tr
 |[.bW bB]=>.ok (.int bB.length)
 |ts=>NW ts
theorem i8:lO X (.builtin "len") z_:=by
 intro U s Z H xs us Q I b ⟨B,ts,hb,r,q⟩;by_cases z:∃bB,ts=[.bW bB]
 ·obtain⟨bB,rfl⟩:=z;cases r with
  |cons h r=>
   cases r;cases h with
   |@bW a kvs _ h g M=>
    obtain⟨u,rfl,l⟩:=vals1 b;cases l;have n:kvs.length=bB.length:=by have:=cT List.length g;rw[bt,bt]at this;exact this
    exact VI I (h.same bG) λt s' L=>⟨.int kvs.length,H,L,⟨t,rfl⟩,(show∀v H',bf H H'->Rep X.K (bZ B H') v (.int bB.length)->Q v H' from q) _ H (bf.refl H) (by rw[n];exact .int _)⟩
 ·have e:z_ ts=NW ts:=by
   unfold z_;split
   ·exact absurd ⟨_,rfl⟩ z
   ·rfl
  rw[e]at q;exact Ws U s Z H xs us Q I b ⟨B,ts,hb,r,q⟩
def IA:typeLookup (.type "list") "keys"=pure none:=by rw[typeLookup_type,wO];kernel_rfl
section
variable {k:Nat}{sl:Array (Option Value)}
theorem E7(q:s.heap.get? a=some {cls:=.type "list",dict:=none,data:=.seq ak k,slots:=sl}) (hA:A.handled=none)
  (h:∀h' tk,(∀b o,s.heap.get? b=some o->h'.get? b=some o)->aM none {s with heap:=h',toks:=tk}):wpAny (model P w) A (getAttr? (.ref a) "keys") aM E s:=by
 obtain⟨hp,g,d,tk,os⟩:=s;have r:∀l,(⟨hp,g,d,l,os⟩:Shared).TypeIs (.ref a) "list":=λ_=>⟨_,q,rfl⟩;have f1:=sub_AttributeError;have L:=wM.lookup;have f4:=wM.bind (.ref a);have M:=am_list_getattr_none;unfold getAttr? getAttrBy? getAttrBy
 repeat(any_goals (first|assumption|exact r _|((with_reducible show wpAny _ _ (call (Value.builtin "list.__getattribute__") _ _) _ _ _);refine kO wM (r _) am_entry_list_getattribute (F.args_list_getattribute_2 _ _) (meets_getattribute_miss_list a ak k sl "keys" _ IA (by decide+kernel) (by size_fits)) ⟨q,hA,λh' l e I=>?_⟩)|wp_step))
 obtain⟨t',u',he⟩:=I.there;have n:∀l,(⟨h',g,d,l,os⟩:Shared).TypeIs (.ref e) "AttributeError":=λ_=>⟨_,he,rfl⟩;show wpAny _ _ (getattributeRaised _ _ _ _ _ _ _) _ _ _;unfold getattributeRaised
 repeat(any_goals (first|assumption|exact n _|wp_step))
 exact h h' l I.of.keeps
def Aa:entryFor table "dict.update.loop"=some Builtin.«dict.update.loop»:=entryFor_of_tree (by kernel_rfl)
def qS:plainId "dict.update.loop"=true:=by decide+kernel
theorem Lc{h0:Heap}{d I:Addr}{pairs:List (Key×Value)}(hh:A.handled=none)(hl:h0.IsList a aq.toArray)(b9:aq.length=pairs.length)(hp:∀(j:Nat) (t:Value),aq[j]?=some t->∃ad key k v,t=.ref ad/\h0.IsTuple ad #[key,v]/\mK k key=true/\pairs[j]?=some (k,v))
  (Xk:h0.get? d=none) (hI0:h0.get? I=none) (q:d≠I) (hz:pairs.length<=100000)
  (hR:∀h' vR,(∀b o,h0.get? b=some o->h'.get? b=some o)->h'.DictOf (cj P w) d (merged [] pairs)->aw (.ok (.ret .none)) {s with heap:=h',toks:=vR}):
  ∀(r i:Nat) (h:Heap) (tk:Nat) (kvs:List (Key×Value)),pairs.length - i=r->i<=pairs.length->kvs.length<=i->merged kvs (pairs.drop i)=merged [] pairs->(∀b o,h0.get? b=some o->h.get? b=some o)->h.IsListIter I a i->h.DictOf (cj P w) d kvs->
   codeAny (model P w) A (.builtin "dict.update.loop" ⟨[.ref d,.ref I,rawInt i,.none],[]⟩) aw {s with heap:=h,toks:=tk}:=by
 have l:∀{h:Heap},(∀b o,h0.get? b=some o->h.get? b=some o)->h.IsList a aq.toArray:=λ{h} k=>by obtain⟨o,e,x⟩:=hl;exact⟨o,k _ _ e,x⟩
 have nd:∀{b:Addr} {o:Obj},h0.get? b=some o->b≠d:=λ{b o} e z=>by rw[z,Xk]at e;cases e
 have nI:∀{b:Addr} {o:Obj},h0.get? b=some o->b≠I:=λ{b o} e z=>by rw[z,hI0]at e;cases e
 intro r
 induction r with
 |zero=>
  intro i h tk kvs hr hi hk hm kp it dd;have e:i=pairs.length:=by omega
  subst e;refine fL Aa ?_
  rw[gV qS _];show wpAny _ A.in1 (pyNext (.ref I)>>=_) _ _ _;refine aS (wpAny_pyNext_list_end hh it (l kp) (by simp[b9]) λh' eb=>?_);rw[o7]at hm;have S:h'.DictOf (cj P w) d kvs:=by
   obtain⟨o,es,ep,e,x⟩:=dd;exact⟨o,es,ep,eb d o q e,x⟩
  show wpAny _ A.in1 (Builtin.Dict.addKeywords d []>>=_) _ _ _;refine aS (bc (bc ?_));exact hR h' tk (λb o e=>eb b o (nI e) (kp b o e)) (by rw[<-hm];exact S)
 |succ r ih=>
  intro i h tk kvs hr hi hk hm kp it dd;have gm:i<pairs.length:=by omega
  have L:i<aq.length:=by omega
  obtain⟨ad,key,k,v,et,tp,JE,ep⟩:=hp i aq[i] (by simp[L]);have Jr:pairs[i]=(k,v):=by rw[bV gm]at ep;exact Option.some.inj ep
  refine fL Aa ?_
  rw[gV qS _];show wpAny _ A.in1 (pyNext (.ref I)>>=_) _ _ _;refine aS (wpAny_pyNext_list_item it (l kp) (x:=.ref ad) (by simp[L,et]) λh' it' sb=>?_);have g:∀b o,h0.get? b=some o->h'.get? b=some o:=λb o e=>(sb.2 b (nI e)).trans (kp b o e);have S:h'.DictOf (cj P w) d kvs:=by
   obtain⟨o,es,ep,e,x⟩:=dd;exact⟨o,es,ep,(sb.2 d q).trans e,x⟩
  obtain⟨ot,e1,e2,n,e3⟩:=tp;have hT:Shared.TypeIs {s with heap:=h',toks:=tk} (.ref ad) "tuple":=⟨ot,g _ _ e1,e2⟩;refine aS ?_
  refine fw ?_
  refine aS (kM ?_);unfold Builtin.Dict.pairItems;refine aS (tD hT ?_);rw[aV (by decide)];refine aS (gZ (g _ _ e1) e3 ?_);refine bc ?_
  show wpAny _ A.in1 (holding [key,v] (dictSet d key v)) _ _ _;refine fw (wpAny_dictSet_pairs (knd:=cj P w) (hsz:=by rw[dQ];omega) JE S λh2 UD M=>?_);show wpAny _ A.in1 (pure _) _ _ _;refine bc ⟨g0 qS _,?_⟩;have hc:rawInt ((i:Int)+1)=rawInt ((i+1:Nat):Int):=by push_cast;rfl
  rw[hc];refine ih (i+1) h2 _ (stored kvs k v) (by omega) gm ?_ ?_ (λb o e=>(M.2 b (nd e)).trans (g b o e)) ?_ UD
  ·exact cB (stored_length_le kvs k v) (by omega)
  ·rw[oN gm,Jr]at hm;exact hm
  ·obtain⟨o,e,x⟩:=it';exact⟨o,(M.2 I (Ne.symm q)).trans e,x⟩
theorem E8{pairs:List (Key×Value)}{q:Array (Option Value)}(hh:A.handled=none)(hx:s.heap.get? a=some {cls:=.type "list",dict:=none,data:=.seq aq.toArray i,slots:=q}) (b9:aq.length=pairs.length)
  (hp:∀(j:Nat) (t:Value),aq[j]?=some t->∃ad key k v,t=.ref ad/\s.heap.IsTuple ad #[key,v]/\mK k key=true/\pairs[j]?=some (k,v)) (hz:pairs.length<=100000)
  (h:∀h' vR,(∀b o,s.heap.get? b=some o->h'.get? b=some o)->h'.DictOf (cj P w) s.heap.objs.size (merged [] pairs)->Q (.ref s.heap.objs.size) {s with heap:=h',toks:=vR}):
  wpAny (model P w) A (call (.type "dict") [.ref a]) Q E s:=by
 refine callType_codes (Q₁:=λobj I=>obj=.ref s.heap.objs.size/\I={s with heap:=s.heap.push {cls:=.type "dict",data:=.dict #[]}}) F.kt_called_dict (F.kt_typeCall_dict_1 _) F.entry_dict_init (kt_code_dict_new _ ⟨rfl,rfl⟩) ?_
 rintro obj I ⟨rfl,rfl⟩
 have n:(s.heap.push {cls:=.type "dict",data:=.dict #[]}).DictOf (cj P w) s.heap.objs.size []:=Heap.DictOf.new s.heap;have l:=bP {cls:=.type "dict",data:=.dict #[]} hx;have L:Shared.TypeIs {s with heap:=s.heap.push {cls:=.type "dict",data:=.dict #[]}} (.ref a) "list":=⟨_,l,rfl⟩;refine⟨n.typeIs,F.args_dict_init_2 _ _,?_⟩;unfold Builtin.«dict.__init__»;refine aS ?_
 unfold Builtin.Dict.selfAndRest;refine aS (wpAny_notOrdered_dict n.typeIs ?_);show wpAny _ _ (pure (s.heap.objs.size,[Value.ref a])) _ _ _;refine bc ?_
 show wpAny _ _ (Builtin.Dict.updateFrom "dict.__init__" s.heap.objs.size (.ref a) [] .none) _ _ _;unfold Builtin.Dict.updateFrom;refine aS (tD L ?_);rw[aV (by decide)];refine aS (E7 l hh λg M k1=>?_);rw[aV (show(none:Option Value).isNone=true from rfl)];have k2:∀b o,s.heap.get? b=some o->g.get? b=some o:=λb o e=>k1 b o (bP _ e);have S:g.get? s.heap.objs.size=some {cls:=.type "dict",data:=.dict #[]}:=k1 _ _ (cp _ rfl);have r:g.DictOf (cj P w) s.heap.objs.size []:=by
  obtain⟨o,es,ep,e,x⟩:=n;exact⟨o,es,ep,k1 _ _ e,x⟩
 have gm:s.heap.objs.size<g.objs.size:=bu S;have hl:s.heap.IsList a aq.toArray:=⟨_,hx,rfl,_,rfl⟩;refine aS (fE ?_);refine aS (kH (show g.IsList a aq.toArray from⟨_,k2 _ _ hx,rfl,_,rfl⟩) ?_);refine bc ⟨g0 qS _,?_⟩;refine Lc (s:=s) (h0:=s.heap) (A:=A.in1) hh hl b9 hp (by
   cases e:s.heap.get? s.heap.objs.size with
   |none=>rfl
   |some o=>exact absurd (bu e) (eP _)) (by
   cases e:s.heap.get? g.objs.size with
   |none=>rfl
   |some o=>exact absurd (bu (k2 _ _ e)) (eP _)) (bY gm) hz (λh' vR kp dd=>⟨rfl,h h' vR kp dd⟩) _ 0 _ _ [] rfl (d5 _) (bz _) rfl (λb o e=>bP _ (k2 b o e)) ⟨_,cp _ rfl,rfl,rfl⟩ ?_
 obtain⟨o,es,ep,e,x⟩:=r;exact⟨o,es,ep,bP _ e,x⟩
end
def Bo:List Tr->Option (List (Key×Tr))
 |[]=>some []
 |.tup [k,v]::r=>match kh k,Bo r with
  |some key,some l=>some ((key,v)::l)
  |_,_=>none
 |_=>none
def E9:List Tr->Rs Tr
 |[.lst ts]=>match Bo ts with
  |some bB=>if bB.length<=100000 then .ok (.bW (l7 [] bB))else .bad
  |none=>.bad
 |_=>.bad
def IB(h:Bo (aC::ts)=some aG):∃k v key l,aC=.tup [k,v]/\kh k=some key/\Bo ts=some l/\aG=(key,v)::l:=by
 unfold Bo at h;split at h
 ·cases‹aC::ts=[]›
 ·rename_i k v r e;cases e;cases b:kh k with
  |none=>rw[b]at h;cases h
  |some key=>
   cases g:Bo ts with
   |none=>rw[b,g]at h;cases h
   |some l=>rw[b,g]at h;cases h;exact⟨k,v,key,l,rfl,b,rfl,rfl⟩
 ·cases h
theorem GF(I:Inv X U Z H s):∀{vs:List V} {ts:List Tr} {bB:List (Key×Tr)} {cn:List Value},bM X.K (bZ B H) vs ts->Bo ts=some bB->Vals vs cn->
  ∃(kvs:List (Key×V)) (ps:List (Key×Value)),dY X.K (bZ B H) kvs bB/\KV kvs ps/\cn.length=ps.length/\∀(j:Nat) (t:Value),cn[j]?=some t->∃ad key k v,t=.ref ad/\s.heap.IsTuple ad #[key,v]/\mK k key=true/\ps[j]?=some (k,v)
 |[],[],_,_,_,e,rv=>by cases e;cases rv;exact⟨[],[],.nil,.nil,rfl,λj t e=>by simp at e⟩
 |[],_::_,_,_,h,_,_=>by cases h
 |v::vs,ts,bB,cn,h,e,rv=>by
  cases h with
  |cons h r=>
   obtain⟨k,w',key,l,rfl,n,L,rfl⟩:=IB e;cases rv with
   |cons M rv=>
    obtain⟨kvs,ps,S,q,q3,q4⟩:=GF I r L rv;obtain⟨ad,us,rfl,hq,rr⟩:=h.dR;cases M;obtain⟨x1,x2,rfl,rk,pG⟩:=zI rr;obtain⟨xu,MP,pl,_⟩:=I.tuple (bf.tup bG hq);obtain⟨u1,b,rfl,r1,r2⟩:=vals2 MP;cases nJ rk n;refine⟨(key,_)::kvs,(key,b)::ps,.cons pG S,.cons ⟨rfl,r2⟩ q,by rw[dt,dt,q3],λj t g=>?_⟩;cases j with
    |zero=>cases g;exact⟨ad,u1,key,b,rfl,pl,pJ (P:=X.prog) (w:=X.w) r1,rfl⟩
    |succ j=>exact q4 j t g
theorem GG(hc:X.calm=true):gC X (.type "dict") (rF X E9):=by
 intro U s Z H xs us Q I rv ⟨B,ts,hb,r,q⟩;have key:∃b bB,ts=[.lst b]/\Bo b=some bB/\bB.length<=100000/\∀v H',bf H H'->Rep X.K (bZ B H') v (.bW (l7 [] bB))->(∀p,v=.ref p->Sk H H' p)->Q v H':=by
  unfold E9 at q;split at q
  ·rename_i b;cases e:Bo b with
   |none=>rw[e]at q;exact fe q
   |some bB=>
    rw[e]at q;obtain⟨h0,z⟩:=gD q;exact⟨b,bB,rfl,e,h0,z⟩
  ·exact fe q
 obtain⟨b,bB,rfl,ep,hz,k⟩:=key;obtain⟨x,rfl,h⟩:=fT r;obtain⟨a,vs,rfl,h,rr⟩:=h.lst_inv;obtain⟨u,rfl,ru⟩:=vals1 rv;cases(show u=Value.ref a from ru);obtain⟨z0,cn,n0,g,hx⟩:=(show cV X.prog X.w H s.heap a (.lst vs)from I.cU a _ (d7 h));obtain⟨kvs,ps,l,S,q3,q4⟩:=GF I rr ep g;have hl:kvs.length=bB.length:=l.length;have n:ps.length<=100000:=by rw[<-KV.length S,hl];exact hz
 refine E8 (I.ok.hd hc) hx q3 q4 n λh' vR kp dd=>?_
 have hf:H s.heap.objs.size=none:=I.fresh;have L:(iY [] kvs).length<=sizeLine:=by have:=jm kvs [];rw[w6]at this;rw[dQ];omega
 have M:(s.heap.objs.size==sysModules)=false:=by
  have:=I.big;exact kc (dJ this)
 refine⟨.ref s.heap.objs.size,_,I.laid (t':=vR) (o:=.dK (iY [] kvs)) kp (bz _) (xw L M (S.merge .nil) dd),rfl,k _ _ (bf.upd hf) (.bW (.inl (hb.new hf)) ?_ ?_) λp' e=>by cases e;exact .upd hf (λ_ _ z=>by cases z)⟩
 ·exact(dY.merge l dY.nil).keys
 ·exact(dY.merge l dY.nil).vals.same (bI (bf.upd hf))
section
variable {prog:Program}
noncomputable def jM(x y:Int×Int):Bool:=decide (x.1<y.1\/(x.1=y.1/\x.2<y.2))
theorem int_lt{x y:Int}{t u:Tok}(h:Q (.bool (decide (x<y))) s):wpAny (model prog w) A (richCompare .Lt (.int x t) (.int y u)) Q E s:=
 CmpOf.ints_lt (prog:=prog) (w:=w) (A:=A) (P:=λi v=>∃t,v=.int ([x,y].getD i 0) t) (λi=>[x,y].getD i 0) (λi v h=>h) 0 1 _ _ _ _ _ ⟨t,rfl⟩ ⟨u,rfl⟩ h
theorem Bp{x y:Int×Int}{t1 t2 u1 u2:Tok}{oa ob:Obj}{P:PySem.Fin->Shared->Prop}
  (XQ:s.heap.get? a=some oa) (q:oa.data=.seq #[.int x.1 t1,.int x.2 t2] i) (Oa:s.heap.get? au=some ob) (fF:ob.data=.seq #[.int y.1 u1,.int y.2 u2] az) (hTb:s.TypeIs (.ref au) "tuple")
  (h:P (.done (.ret (.bool (jM x y)))) s):wpAny (model prog w) A (Builtin.«tuple.__lt__» ⟨[.ref a,.ref au],[]⟩) P E s:=by
 show wpAny _ _ (isInstance (.ref au) (.type "tuple")>>=_) _ _ s;refine aS (pf hTb isSubtype_tuple_tuple ?_);simp only[dA,cR,cq];refine aS (wpAny_tupleItemsOf XQ q ?_);refine aS (wpAny_tupleItemsOf Oa fF ?_);refine aS ?_
 show wpAny _ _ (forIn [(Value.int x.1 t1,Value.int y.1 u1),(Value.int x.2 t2,Value.int y.2 u2)] _ _) _ _ s;rw[o_];refine aS (aS (wpAny_eqBool_int ?_));by_cases b:x.1=y.1
 ·rw[ff.mpr b];simp only[dA,cR,cq];refine bc ?_
  dsimp only;rw[o_];refine aS (aS (wpAny_eqBool_int ?_));by_cases g:x.2=y.2
  ·rw[ff.mpr g];simp only[dA,cR,cq];refine bc ?_
   dsimp only;rw[xj];refine bc (bc ?_);have e:jM x y=false:=by unfold jM;exact fu (by omega)
   rw[e]at h;exact h
  ·rw[kc g];simp only[eL,cC];have e:jM x y=decide (x.2<y.2):=by unfold jM;exact w4.mpr (by omega)
   rw[e]at h;exact aS (fE (aS (int_lt (aS (bc (bc (bc (bc h))))))))
 ·rw[kc b];simp only[eL,cC];have e:jM x y=decide (x.1<y.1):=by unfold jM;exact w4.mpr (by omega)
  rw[e]at h;exact aS (fE (aS (int_lt (aS (bc (bc (bc (bc h))))))))
theorem OA{x y:Int×Int}{t1 t2 u1 u2:Tok}{q ob:Obj}(hu:A.units<cLine)
  (XQ:s.heap.get? a=some q) (hca:q.cls=.type "tuple") (hda:q.data=.seq #[.int x.1 t1,.int x.2 t2] i) (Oa:s.heap.get? au=some ob) (hcb:ob.cls=.type "tuple") (fF:ob.data=.seq #[.int y.1 u1,.int y.2 u2] az)
  (h:Q (.bool (jM x y)) s):wpAny (model prog w) A (richCompare .Lt (.ref a) (.ref au)) Q E s:=
 wpAny_richCompare_same_room (op:=.Lt) (T:="tuple") ⟨q,XQ,hca⟩ ⟨ob,Oa,hcb⟩ F.slot_tuple_lt (gX F.slot_tuple_lt ⟨q,XQ,hca⟩ F.entry_tuple_lt (Bp XQ hda Oa fF ⟨ob,Oa,hcb⟩ ⟨_,rfl,(λe=>nomatch e),h⟩) (F.args_tuple_lt_2 _ _)) hu
end
def dh(kf:Nat->Int×Int):Nat->Nat
 |0=>0
 |j+1=>if jM (kf (j+1)) (kf (dh kf j))=true then j+1 else dh kf j
section
variable {f l S I:Addr}{fd:FuncData}{k:Nat}{kf:Nat->Int×Int}
theorem Dk(G:d_ X.prog X.w X.K X.mg X.base mq k f fd ps (spT X.K h))(bd:Binds X.K fd ps [])(hr:dc (k+1) X.A){v:V}{t:Tr}{p:Int×Int}
  (q:Inv X U Z H s) (hq:(au,PySem.W.methodObj (.ref f) (.ref a))∈U) (hb:HB B H) (ro:Rep X.K (bZ B H) (.ref a) aC) (rt:Rep X.K (bZ B H) v t) (rv:RelV v af) (he:h [aC,t]=.ok (.tup [.int p.1,.int p.2])):
  wpAny (model X.prog X.w) X.A.in1 (call (.ref au) [af]) (λw' s'=>∃kb H',w'=.ref kb/\Inv X U Z H' s'/\bf H H'/\jl X.K H' kb [.int p.1,.int p.2]) E s:=by
 have l:spT X.K h [.ref a,v] H (λv' H'=>bf H H'/\Rep X.K (bZ B H') v' (.tup [.int p.1,.int p.2])) E0:=⟨B,[aC,t],hb,.cons ro (.cons rt .nil),_,he,λv' H' b r=>⟨b,r⟩⟩;have I:([.ref a,af]++[]:List Value).length=ps.length:=G.len _ _ _ _ l;refine pC (PySem.W.method_call (q.pin _ (dw _ hq)).1 ?_);refine iA (G.run X.A.in1 X.stack s H ⟨[.ref a,af],[]⟩ [.ref a,af] [.ref a,v] _ E0 hr.in1 q.Rj.in1 (bd s [.ref a,af] q.lZ I) (.cons rfl (.cons rv .nil)) l) λr s' g=>?_
 match r,g with
 |.ok (.ret w'),g=>
  obtain⟨v',H',L,M,b,rep⟩:=q.after g;obtain⟨kb,vs,rfl,n,rr⟩:=rep.dR;obtain⟨x,y,rfl,r1,r2⟩:=zI rr;rw[r1.int_inv,r2.int_inv]at n;exact⟨kb,H',M,L,b,bf.tup bG n⟩
end
section
variable {f l S I:Addr}{fd:FuncData}{k:Nat}{kf:Nat->Int×Int}
theorem Dl{p:Int×Int}(Iv:Inv X U Z H s)(hT:jl X.K H a [.int p.1,.int p.2]):∃q t1 t2 n,s.heap.get? a=some q/\q.cls=.type "tuple"/\q.data=.seq #[.int p.1 t1,.int p.2 t2] n:=by
 obtain⟨cn,rv,⟨q,e,b,n,hd⟩,_⟩:=Iv.tuple hT;obtain⟨g,l,rfl,r1,r2⟩:=vals2 rv;obtain⟨t1,rfl⟩:=(show∃t,g=Value.int p.1 t from r1);obtain⟨t2,rfl⟩:=(show∃t,l=Value.int p.2 t from r2);exact⟨q,t1,t2,n,e,b,hd⟩
def GH{c:HO}{vs:List V}(hU:a≠S)(q:jl K H a vs):jl K (upd H S c) a vs:=by
 rcases q with(q|⟨b,q⟩)|q
 ·exact .inl (.inl (by rw[bh hU];exact q))
 ·exact .inl (.inr ⟨b,by rw[bh hU];exact q⟩)
 ·exact .inr q
def Ld{l:List V}(Iv:Inv X U Z H s)(q:jl X.K H a ar)(e:H S=some (.lst l)):a≠S:=λz=>by
 subst z;rcases q with(q|⟨aC,q⟩)|⟨aC,cn,n,b,_⟩
 ·rw[e]at q;cases q
 ·rw[e]at q;cases q
 ·rw[(Iv.bs _ _ (Iv.ok.mod.Pu _ _ b)).2]at e;cases e
theorem IC(hc:X.calm=true)(G:d_ X.prog X.w X.K X.mg X.base mq k f fd ps (spT X.K h))(bd:Binds X.K fd ps [])(hr:dc (k+1) X.A)(hq:(au,PySem.W.methodObj (.ref f) (.ref a))∈U)
  (hS:ac S=none) (hb:HB B ac) (ro:Rep X.K (bZ B ac) (.ref a) aC) (rx:bM X.K (bZ B ac) ar ts) (hl:lL X.K ac l ar) (XR:l≠I)
  (hk:∀i t,ts[i]?=some t->h [aC,t]=.ok (.tup [.int (kf i).1,.int (kf i).2]))
  (hR:∀q u H s,ar[dh kf (ar.length - 1)]?=some q->Inv X U Z H s->bf ac H->RelV q u->aw (.ok (.ret u)) s):
  ∀(r j:Nat) (s:Shared) (H:Hp) (q:V) (kb:Addr),ar.length - (j+1)=r->j+1<=ar.length->Inv X U Z H s->bf ac H->H S=some (.lst [q,.ref kb])->ar[dh kf j]?=some q->
   jl X.K H kb [.int (kf (dh kf j)).1,.int (kf (dh kf j)).2]->s.heap.IsListIter I l (j+1)->kP X U H I->
   codeAny (model X.prog X.w) X.A (.builtin "min.loop" ⟨[.ref I,.ref au,.ref S],[]⟩) aw s:=by
 have Dm:(toString "min"++toString ".loop":String)="min.loop":=by decide
 intro r
 induction r with
 |zero=>
  intro j s H q kb OB hj g n UZ Dn hT hit L;have lD:j+1=ar.length:=by omega
  obtain⟨cn,rv,pl,_⟩:=g.list (bf.seq n hl);have b9:cn.length=ar.length:=rv.length.symm;have W:=Walks.list (prog:=X.prog) (w:=X.w) (A:=X.A.in1) (g.ok.hd hc) I l XR cn.toArray;obtain⟨_,xu,n2,MP,_,eS⟩:=g.y' UZ;obtain⟨u,u2,rfl,ru,Xd⟩:=vals2 MP;cases(show u2=Value.ref kb from Xd);refine fL wK ?_
  rw[gV nu _];show wpAny _ X.A.in1 (seqItems? (.ref S)>>=_) _ _ _;refine aS (gZ eS rfl ?_);show wpAny _ X.A.in1 (tryCatch (pyNext (.ref I)) _>>=_) _ _ _;refine aS (kM (W.done _ _ _ ⟨by rw[cS,b9,<-lD];exact hit,pl.isList⟩ λh' vR Ob=>?_));have I1:Inv X U Z H {s with heap:=h',toks:=vR}:=g.qP (ch:=[I]) (λb hb=>by rw[de.mp hb];exact L) Ob;obtain⟨_,XT,n3,Zx,_,eS'⟩:=I1.y' UZ;have M:=I1.Nj (tM:=[]) (f:=λ_=>(#[]:Array Value)) (t':=vR) UZ eS' rfl .nil (d5 _);show wpAny _ X.A.in1 (updateSeq S (λ_=>#[])>>=_) _ _ _;refine aS (pq eS' rfl (aS (mH (bc ?_))));refine hR q u _ _ ?_ M (n.AN hS) ru
  rw[<-lD];exact Dn
 |succ r ih=>
  intro j s H q kb OB hj g n UZ Dn hT hit L;have gm:j+1<ar.length:=by omega
  obtain⟨cn,rv,pl,_⟩:=g.list (bf.seq n hl);have b9:cn.length=ar.length:=rv.length.symm;have W:=Walks.list (prog:=X.prog) (w:=X.w) (A:=X.A.in1) (g.ok.hd hc) I l XR cn.toArray;obtain⟨_,xu,n2,MP,_,eS⟩:=g.y' UZ;obtain⟨u,u2,rfl,ru,Xd⟩:=vals2 MP;cases(show u2=Value.ref kb from Xd);refine fL wK ?_
  rw[gV nu _];show wpAny _ X.A.in1 (seqItems? (.ref S)>>=_) _ _ _;refine aS (gZ eS rfl ?_);show wpAny _ X.A.in1 (tryCatch (pyNext (.ref I)) _>>=_) _ _ _;refine aS (kM (W.item (j+1) _ _ _ (by rw[cS,b9];exact gm) ⟨hit,pl.isList⟩ λv h' vR hP Ky Ob=>?_));refine hide λP go=>?_
  have hv:cn[j+1]?=some v:=by simpa using hP
  obtain⟨xv,Tg⟩:∃y,ar[j+1]?=some y:=⟨_,bV gm⟩
  obtain⟨v',JF,XU⟩:=rv.get Tg;cases hv.symm.trans JF;obtain⟨tv,htv,rtv⟩:=rx.xF Tg;have I1:Inv X U Z H {s with heap:=h',toks:=vR}:=g.qP (ch:=[I]) (λb hb=>by rw[de.mp hb];exact L) Ob;obtain⟨oI,hoI,QY,U0⟩:=id Ky.1;have I1p:Inv X ((I,oI)::U) Z H {s with heap:=h',toks:=vR}:=I1.kg λp hp=>by
   rcases bE.mp hp with rfl|hp
   ·exact⟨hoI,L.1,L.2.1,L.2.2.1,λv z=>by rw[U0]at z;cases z⟩
   ·exact I1.pin p (dw _ hp)
  refine go ?_
  show wpAny _ X.A.in1 (tryCatch (holding [v] (call (.ref au) [v])) _>>=_) _ _ _;refine aS (kM (fw (d6 (Dk G bd hr I1p (ck _ hq) (hb.same n) (ro.same (bI n)) (rtv.same (bI n)) XU (hk _ _ htv)) (λw' s2 hw=>?_) λ_ _ x=>x)));obtain⟨kb2,H2,rfl,Th,Jk,U1⟩:=hw;refine hide λP go=>?_
  have nI:=Th.pin (I,oI) (dw _ (cz ..));have M:Inv X U Z H2 s2:=Th.kg λp hp=>Th.pin p (dw _ (ck _ hp));have zg:H2 S=some (.lst [q,.ref kb]):=Jk _ _ UZ;obtain⟨_,XT,n3,Zx,_,XW⟩:=M.y' zg;obtain⟨oa,t1,t2,na,ea,ca,da⟩:=Dl M U1;obtain⟨ob,t3,t4,nb,eb,cb,db⟩:=Dl M (Jk.tup hT);have hu:X.A.in1.units<cLine:=sP (by show X.A.units+1<=X.A.units+16*(k+1)+200;omega) hr.un;have aaS:kP X U H2 I:=⟨nI.2.1,L.2⟩;have Ti:bf ac H2:=n.trans Jk;refine go ?_
  show wpAny _ X.A.in1 (tryCatch (holding [v,.ref kb2] (richCompare .Lt (.ref kb2) (.ref kb)>>=_)) _>>=_) _ _ _;refine aS (kM (fw (aS (OA (x:=kf (j+1)) (y:=kf (dh kf j)) hu ea ca da eb cb db ?_))));refine aS (fw (o8 ?_));refine aS (mH (bc ?_));by_cases Jg:jM (kf (j+1)) (kf (dh kf j))=true
  ·have XX:dh kf (j+1)=j+1:=aV Jg;have I3:=M.Nj (tM:=[v,.ref kb2]) (f:=λ_=>(#[v,.ref kb2]:Array Value)) (ys:=[xv,.ref kb2]) (t':=s2.toks) zg XW rfl (.cons XU (.cons rfl .nil)) (by show 2<=sizeLine;decide);simp only[Jg,cC];refine aS (pq XW rfl (aS (mH ?_)));rw[Dm];have MO:S≠I:=λz=>by rw[z,nI.2.1]at zg;cases zg
   have hkS:kb2≠S:=Ld M U1 zg;refine bc ⟨g0 nu _,ih (j+1) _ _ xv kb2 (by omega) gm I3 (Ti.AN hS) bK (by rw[XX];exact Tg) ?_ ⟨oI,(ny s2.heap _ MO).trans nI.1,QY,U0⟩ ⟨by rw[bh MO.symm];exact nI.2.1,L.2⟩⟩;rw[XX];exact GH hkS U1
  ·have XX:dh kf (j+1)=dh kf j:=bb Jg;simp only[Jg,cq];refine aS (mH ?_);rw[Dm];refine bc ⟨g0 nu _,ih (j+1) s2 H2 q kb (by omega) gm M Ti zg (by rw[XX];exact Dn) (by rw[XX];exact Jk.tup hT) ⟨oI,nI.1,QY,U0⟩ aaS⟩
end
section
variable {f l S I:Addr}{fd:FuncData}{k:Nat}{xs:List V}{kf:Nat->Int×Int}
theorem ID(hc:X.calm=true)(G:d_ X.prog X.w X.K X.mg X.base mq k f fd ps (spT X.K h))(bd:Binds X.K fd ps [])(hr:dc (k+1) X.A)(hq:(au,PySem.W.methodObj (.ref f) (.ref a))∈U)
  (q:Inv X U Z H s) (hb:HB B H) (ro:Rep X.K (bZ B H) (.ref a) aC) (rx:bM X.K (bZ B H) xs ts) (hl:lL X.K H l xs) (hU:0<xs.length)
  (hk:∀i t,ts[i]?=some t->h [aC,t]=.ok (.tup [.int (kf i).1,.int (kf i).2])) {Q:VK}
  (hQ:∀xb H',xs[dh kf (xs.length - 1)]?=some xb->bf H H'->Q xb H'):
  wpAny (model X.prog X.w) X.A (call (.builtin "min") [.ref l] [(Str.ofString "key",.ref au)]) (EP X U Z Q) X.xe s:=by
 have Dm:(toString "min"++toString ".loop":String)="min.loop":=by decide
 obtain⟨cn,rv,pl,_⟩:=q.list hl;have b9:cn.length=xs.length:=rv.length.symm;have UY:=pl.isList;obtain⟨ol,Qg,_⟩:=id UY;have hll:l<s.heap.objs.size:=bu Qg;refine kmk_tree PySem.F.kind_min PySem.F.plain_min PySem.F.entry_min (kmk_min_key _ _) ?_
 show wpAny _ X.A.in1 (Builtin.Builtins.bindParams "min" ["key","default"] 0 ⟨[],[(Str.ofString "key",.ref au)]⟩>>=_) _ _ s;refine aS (wpAny_of_eq (show Builtin.Builtins.bindParams "min" ["key","default"] 0 ⟨[],[(Str.ofString "key",.ref au)]⟩=pure [some (.ref au),none]from rfl) ?_);refine aS (bc ?_);refine aS (kH UY ?_);refine aS (pz ?_ (d5 _));rw[Dm];have XR:l≠s.heap.objs.size:=bY hll;have I1:Inv X U Z H {s with heap:=s.heap.push {cls:=.type "list_iterator",data:=.fields #[.ref l,.int 0 0]}}:=q.kept (t':=s.toks) λb u e=>bP _ e;have L:=I1.Nk (cn:=[]) (ys:=[]) (t':=s.toks) .nil (d5 _);have hSe:(s.heap.push {cls:=.type "list_iterator",data:=.fields #[.ref l,.int 0 0]}).objs.size=s.heap.objs.size+1:=size_push' ..;have M:(s.heap.push {cls:=.type "list_iterator",data:=.fields #[.ref l,.int 0 0]}).objs.size≠s.heap.objs.size:=by rw[hSe];exact mD _
 have Zz:H (s.heap.push {cls:=.type "list_iterator",data:=.fields #[.ref l,.int 0 0]}).objs.size=none:=I1.fresh;have gI:((s.heap.push {cls:=.type "list_iterator",data:=.fields #[.ref l,.int 0 0]}).push {cls:=.type "list",data:=.seq (List.toArray [])}).get? s.heap.objs.size=some {cls:=.type "list_iterator",data:=.fields #[.ref l,.int 0 0]}:=
  bP _ (cp _ rfl)
 generalize hS:(s.heap.push {cls:=.type "list_iterator",data:=.fields #[.ref l,.int 0 0]}).objs.size=S at L M Zz;have g:kP X U (upd H S (.lst [])) s.heap.objs.size:=q.xn (bz _) (by rw[bh M.symm];exact q.fresh);have n:bf H (upd H S (.lst [])):=bf.upd Zz;refine bc ⟨g0 nu _,?_⟩;have W:=Walks.list (prog:=X.prog) (w:=X.w) (A:=X.A.in1) (q.ok.hd hc) s.heap.objs.size l XR cn.toArray;obtain⟨_,xu,n2,MP,_,eS⟩:=L.y' bK;cases MP;obtain⟨tM,HM,r,_⟩:=L.list (bf.seq n hl);have ei:tM=cn:=by
  obtain⟨o1,n1,e1,_,_,d1⟩:=pl;obtain⟨o2,n2,e2,_,_,d2⟩:=r;have e3:((s.heap.push {cls:=.type "list_iterator",data:=.fields #[.ref l,.int 0 0]}).push {cls:=.type "list",data:=.seq (List.toArray [])}).get? l=some o1:=bP _ (bP _ e1);have I:((s.heap.push {cls:=.type "list_iterator",data:=.fields #[.ref l,.int 0 0]}).push {cls:=.type "list",data:=.seq (List.toArray [])}).get? l=some o2:=e2;rw[e3]at I;cases I;rw[d1]at d2;injection d2 with d3 _
  simpa using(cT Array.toList d3).symm
 subst ei;refine fL wK ?_
 rw[gV nu _];show wpAny _ X.A.in1 (seqItems? (.ref S)>>=_) _ _ _;refine aS (gZ eS rfl ?_);show wpAny _ X.A.in1 (tryCatch (pyNext (.ref s.heap.objs.size)) _>>=_) _ _ _;refine aS (kM (W.item 0 _ _ _ (by rw[cS,b9];exact hU) ⟨⟨_,gI,rfl,rfl⟩,r.isList⟩ λv h' vR hP Ky Ob=>?_));refine hide λP go=>?_
 have hv:tM[0]?=some v:=by simpa using hP
 obtain⟨xv,Tg⟩:∃y,xs[0]?=some y:=⟨_,bV hU⟩
 obtain⟨v',JF,XU⟩:=rv.get Tg;cases hv.symm.trans JF;obtain⟨tv,htv,rtv⟩:=rx.xF Tg;have J1:=L.qP (h':=h') (t':=vR) (ch:=[s.heap.objs.size]) (λb hb=>by rw[de.mp hb];exact g) Ob;obtain⟨oI,hoI,QY,U0⟩:=id Ky.1;have J1p:=J1.kg (Js:=(s.heap.objs.size,oI)::U) λp hp=>by
  rcases bE.mp hp with rfl|hp
  ·exact⟨hoI,g.1,g.2.1,g.2.2.1,λv z=>by rw[U0]at z;cases z⟩
  ·exact J1.pin p (dw _ hp)
 refine go ?_
 show wpAny _ X.A.in1 (tryCatch (holding [v] (call (.ref au) [v])) _>>=_) _ _ _;refine aS (kM (fw (d6 (Dk G bd hr J1p (ck _ hq) (hb.same n) (ro.same (bI n)) (rtv.same (bI n)) XU (hk _ _ htv)) (λw' s2 hw=>?_) λ_ _ x=>x)));obtain⟨kb2,H2,rfl,Th,Jk,U1⟩:=hw;refine hide λP go=>?_
 have nI:=Th.pin (s.heap.objs.size,oI) (dw _ (cz ..));have J2:Inv X U Z H2 s2:=Th.kg λp hp=>Th.pin p (dw _ (ck _ hp));have zg:H2 S=some (.lst []):=Jk _ _ bK;obtain⟨_,XT,n3,Zx,_,XW⟩:=J2.y' zg;have J3:=J2.Nj (tM:=[v,.ref kb2]) (f:=λ_=>(#[v,.ref kb2]:Array Value)) (ys:=[xv,.ref kb2]) (t':=s2.toks) zg XW rfl (.cons XU (.cons rfl .nil)) (by show 2<=sizeLine;decide);have hkS:kb2≠S:=Ld J2 U1 zg;have Ti:bf H H2:=n.trans Jk;refine go ?_
 show wpAny _ X.A.in1 (updateSeq S (λ_=>#[v,.ref kb2])>>=_) _ _ _;refine aS (pq XW rfl ?_);rw[Dm];refine bc ⟨g0 nu _,?_⟩;exact IC hc G bd hr hq Zz hb ro rx hl XR hk (λxb u H' s' hx I' sm' ru=>⟨xb,H',I',ru,hQ xb H' hx sm'⟩) (xs.length - 1) 0 _ _ xv kb2 rfl hU J3 (Ti.AN Zz) bK Tg (GH hkS U1)
  ⟨oI,(ny s2.heap _ M).trans nI.1,QY,U0⟩ ⟨by rw[bh M.symm];exact nI.2.1,g.2⟩
end
open Builtin Builtin.ObjectAttr
structure Ac(K:Frag)(f:Addr):Prop where
 get:PySem.W.specialIn K (.ref f) "__get__"=some (some (.builtin "function.__get__"))
 tk:PySem.W.takesIn K (.ref f)=some false
def Dp{dx g:Addr}{fs:List (Str×V)}{b:Bool}(I:Inv X U Z H s)(e:H a=some (.ins au dx fs))(c:Ei X.K au)(k:Meth X.K au x g)(l:fs.lookup x=none)(hg:Ac X.K g)
  (Tj:PySem.W.copiedNames.contains x=false) (h:∀q s',Inv X ((q,PySem.W.methodObj (.ref g) (.ref a))::U) Z H s'->Q (.ref q) s'):wpAny (model X.prog X.w) A (getAttr (.ref a) x b) Q E s:=by
 obtain⟨mA,O,r,_,_,_⟩:=tU I.cU e;have hn:mA x=none:=lY.none_of (by rw[<-l];exact r x);obtain⟨M,J,L⟩:=O.look;refine PySem.W.get_bind I.lZ J (oU (c.get x)).1 (PySem.W.findObj_fn c.hd k.at_ hg.get hg.tk Tj (by rw[L,hn])) (oU (c.get x)).2 (pC (PySem.W.fn_get (s:={s with toks:=s.toks+1}) I.lZ (ff.mp k.fn) (PySem.W.handed_on rfl (h s.heap.objs.size _ ?_))));have n:Inv X U Z H {s with heap:=s.heap.push (PySem.W.methodObj (.ref g) (.ref a)),toks:=s.toks+1}:=I.kept λb u e=>bP _ e;refine n.kg λp hp=>?_
 rcases bE.mp hp with rfl|hp
 ·exact⟨cp _ rfl,I.fresh,dJ I.lt,I.Ve (bz _),λv z=>by cases z⟩
 ·exact n.pin p (dw _ hp)
noncomputable def keyOf(r:Rs Tr):Option (Int×Int):=match r with
 |.ok (.tup [.int x,.int y])=>some (x,y)
 |_=>none
def Le{r:Rs Tr}{p:Int×Int}(h:keyOf r=some p):r=.ok (.tup [.int p.1,.int p.2]):=by
 unfold keyOf at h;split at h
 ·cases h;rfl
 ·cases h
def keysOf(h:List Tr->Rs Tr)(o:Tr):List Tr->Option (List (Int×Int))
 |[]=>some []
 |t::ts=>(keyOf (h [o,t])).bind λk=>(keysOf h o ts).map λks=>k::ks
theorem Ad{o:Tr}:∀{ts:List Tr} {ks:List (Int×Int)},keysOf h o ts=some ks->∀i t,ts[i]?=some t->h [o,t]=.ok (.tup [.int (ks.getD i (0,0)).1,.int (ks.getD i (0,0)).2])
 |[],_,_,i,t,e=>by simp at e
 |u::ts,ks,b,i,t,e=>by
  rw[keysOf]at b;cases g:keyOf (h [o,u])with
  |none=>rw[g]at b;cases b
  |some k=>
   rw[g]at b;cases l:keysOf h o ts with
   |none=>rw[l]at b;cases b
   |some r=>
    rw[l]at b;cases b;cases i with
    |zero=>simp at e;subst e;exact Le g
    |succ i=>exact Ad l i t (by simpa using e)
def vD(c m:Str)(h:List Tr->Rs Tr)(tl o:Tr):Rs Tr:=match tl,o with
 |.lst ts,.ob x fs=>if x=c/\D6 fs m=true/\0<ts.length then match keysOf h (.ob x fs) ts with
  |some ks=>kS ts[dh (λi=>ks.getD i (0,0)) (ts.length - 1)]?
  |none=>.bad
  else .bad
 |_,_=>.bad
def GI(c m:Str)(h:List Tr->Rs Tr)(q ro:Rs Tr):Rs Tr:=q.bind λtl=>ro.bind λo=>vD c m h tl o
def IE{m:Str}{o:Tr}(q:Fi X H (vD av m h aC o) aB):∃ts fs ks t,aC=.lst ts/\o=.ob av fs/\D6 fs m=true/\0<ts.length/\keysOf h (.ob av fs) ts=some ks/\ts[dh (λi=>ks.getD i (0,0)) (ts.length - 1)]?=some t/\aB t:=by
 unfold vD at q;split at q
 ·rename_i ts x fs;by_cases b:x=av/\D6 fs m=true/\0<ts.length
  rotate_left
  ·rw[bb b]at q;exact fe q
  rw[aV b]at q;obtain⟨rfl,h2,l⟩:=b;have z:=q;cases e:keysOf h (.ob x fs) ts with
  |none=>rw[e]at z;exact fe z
  |some ks=>
   rw[e]at z;cases g:ts[dh (λi=>ks.getD i (0,0)) (ts.length - 1)]? with
   |none=>simp only[g]at z;exact fe z
   |some t=>simp only[g]at z;exact⟨ts,fs,ks,t,rfl,rfl,h2,l,e,g,z⟩
 ·exact fe q
section
variable {m:Str}{fd:FuncData}{k:Nat}{kp:Pos}{O:bT->Rs Tr}
theorem Lf(D:MethAt X.K av m ai ps a fd)(Bn:Ac X.K a)(G:d_ X.prog X.w X.K X.mg X.base mq k a fd ps (spT X.K h))(hr:dc (k+1) X.A)(hm:X.mg "min"=none)(hl:PE X e (tP X F))(ho:PE X o (tP X O))
  (hc:X.calm=true:=by rfl) (hg:Gl X "min":=by rfl) (cD:bx [e]=true:=by rfl) (hb:isCall o=false:=by rfl) (Tj:PySem.W.copiedNames.contains m=false:=by decide+kernel):
  PE X (.Call (.Name "min" p) [e] [⟨some "key",.Attribute o m b8,kp⟩] pos) (tP X λY=>GI av m h (F Y) (O Y)):=by
 intro U s Z H Q I ⟨B,Y,l,r,q⟩;refine mB (uQ (u:=.builtin "min") I hg hm rfl ?_ (by decide) (by decide));refine callWith_kw (eC (lM hl rX (bJ _ _ (bj cD).1) pos U s Z H (λvs H1=>∃tl,bM X.K (bZ B H1) vs [tl]/\bf H H1/\Fi X H ((O Y).bind λo=>vD av m h tl o) λt=>∀v H',bf H H'->Rep X.K (bZ B H') v t->Q v H') I ?_) λus s1 ⟨vs,H1,I1,rv,tl,rl,b,k1⟩=>?_) (by rw[bJ _ _ (bj cD).1];rfl) (cP cD)
 ·exact⟨B,Y,l,r,q.bind.mono λtl qt v H1 s1 r1=>⟨tl,.cons r1 .nil,s1,qt⟩⟩
 obtain⟨y,rfl,n⟩:=fT rl;refine kws_cons (FJ (gq hb) (eC (ho U s1 Z H1 (λx H2=>∃o,Rep X.K (bZ B H2) x o/\bf H1 H2/\Fi X H (vD av m h tl o) λt=>∀v H',bf H H'->Rep X.K (bZ B H') v t->Q v H') I1 ⟨B,Y,l.same b,r.same b,(k1.bind.same b).mono λo qo v H2 s2 r2=>⟨o,r2,s2,qo⟩⟩) λu2 s2 ⟨x,H2,I2,rx,ot,ro,g,k2⟩=>?_));obtain⟨ts,fs,ks,t,rfl,rfl,Jn,Tn,L,Dn,kq⟩:=IE k2;obtain⟨a1,xs,rfl,Je,F8⟩:=n.lst_inv;obtain⟨a2,dx,ib,rfl,hh,ek,Jh⟩:=ro.AQ;obtain⟨w1,rfl,M⟩:=vals1 rv;cases(show w1=Value.ref a1 from M);cases(show u2=Value.ref a2 from rx);refine Dp I2 (d7 hh) D.cl D.mt (Bh ek Jh Jn) Bn Tj λq s3 I3=>kws_nil ?_
 have sl:bM X.K (bZ B H2) xs ts:=F8.same (bI g);refine eC (ID (H:=H2) (B:=B) (xs:=xs) (ts:=ts) (kf:=λi=>ks.getD i (0,0)) hc G D.bd hr (cz ..) I3 ((l.same b).same g) (.ob hh ek Jh) sl (.of (g _ _ (d7 Je))) (by rw[sl.length];exact Tn) (Ad L) λxb S hx Ti=>?_) λw3 s4 ⟨v3,S,I4,r3,q3⟩=>⟨v3,S,I4.kg λp hp=>I4.pin p (dw _ (ck _ hp)),r3,q3⟩;rw[sl.length]at hx;obtain⟨t',e',rt'⟩:=sl.xF hx;cases Dn.symm.trans e';exact kq xb S ((b.trans g).trans Ti) (rt'.same (bI Ti))
end
def To:Tr->Option Int->Option Int->Rs Tr
 |.tup ts,lo,hi=>.ok (.tup (AW ts lo hi))
 |t,lo,hi=>slT t lo hi
def vU(r:Rs Tr)(lo hi:Rs (Option Int)):Rs Tr:=r.bind λt=>lo.bind λl=>hi.bind λh=>To t l h
theorem E_{ts:List ag}{lo hi:Option Int}(h:nL ts.length lo hi=true):AW ts lo hi=ts:=by
 unfold nL at h;rw[bU]at h;unfold AW;rw[eq_of_beq h.1,eq_of_beq h.2,List.drop_zero,Nat.sub_zero,List.take_length]
section
variable {P1 P2:bT->Rs (Option Int)}{lo hi:Option Expr}
inductive XZ(X:Cx)(x:V)(lo:Option Int)(hi:Option Int)(H:Hp)(Q:VK):Prop
 |mk (B:fg) (t:Tr):HB B H->Rep X.K (bZ B H) x t->(Fi X H (To t lo hi) fun t=>∀v H',bf H H'->Rep X.K (bZ B H') v t->Q v H')->XZ X x lo hi H Q
theorem X0:UJ X (XZ X):=by
 intro U s Z H x v n L lo hi sl Q I b hs pl pu ⟨B,t,hb,r,q⟩;by_cases hw:∃ts,t=.tup ts/\nL ts.length lo hi=true
 ·obtain⟨ts,rfl,hw⟩:=hw;have g:∀v H',bf H H'->Rep X.K (bZ B H') v (.tup (AW ts lo hi))->Q v H':=q;rw[E_ hw]at g;have M:=r;cases r with
  |@tup a vs _ h S=>
   cases b;obtain⟨cn,r2,l,hz⟩:=I.tuple h.up;have b9:cn.toArray.size=ts.length:=by rw[cS,<-r2.length];exact S.length
   refine⟨"tuple",_,wF.lookup,l.typeIs,?_⟩;unfold nL at hw;rw[bU]at hw;exact HT.rg l hs pl pu (by rw[b9];exact⟨eq_of_beq hw.1,eq_of_beq hw.2⟩) ⟨.ref a,H,I,rfl,g _ H (bf.refl H) M⟩
 ·have e:To t lo hi=slT t lo hi:=by
   cases t with
   |tup ts=>
    have:¬nL ts.length lo hi=true:=λz=>hw ⟨ts,rfl,z⟩;exact(bb this).symm
   |_=>rfl
  rw[e]at q;exact aaA U s Z H x v n L lo hi sl Q I b hs pl pu ⟨B,t,hb,r,q⟩
theorem X1(he:PE X e (tP X F))(hl:PO X lo (tO X P1))(hu:PO X hi (tO X P2)):PE X (.Subscript e (.Slice lo hi none p) pos) (tP X λY=>vU (F Y) (P1 Y) (P2 Y)):=
 (JN X0 he hl hu).weak λZ H Q ⟨B,Y,hb,r,q⟩=>⟨B,Y,hb,r,q.bind.mono λt b v H1 s1 r1=>⟨B,Y,hb.same s1,r.same s1,(b.bind.same s1).mono λl g H2 s2=>⟨B,Y,hb.same (s1.trans s2),r.same (s1.trans s2),(g.bind.same (s1.trans s2)).mono λh n M s3=>
  ⟨B,t,hb.same ((s1.trans s2).trans s3),r1.same (bI (s2.trans s3)),(n.same ((s1.trans s2).trans s3)).mono λt b v I s4 L=>b v I (((s1.trans s2).trans s3).trans s4) L⟩⟩⟩⟩
end
noncomputable def p5{α:Type}(n:Nat)(lt:Nat->Nat->Bool):PySem.W.KasT α->Option α
 |.ret a=>some a
 |.ask i j k=>if i<n/\j<n/\i≠j then p5 n lt (k (lt i j))else none
theorem Ae{α:Type}{n:Nat}{lt:Nat->Nat->Bool}{cmp:Nat->Nat->(Bool->Shared->Prop)->Shared->Prop}{Q:α->Shared->Prop}(q:∀i j C,i<n->j<n->i≠j->C (lt i j) s->cmp i j C s):∀(t:PySem.W.KasT α) {a:α},p5 n lt t=some a->Q a s->t.kasWp cmp Q s
 |.ret b,a,e,h=>by cases e;exact h
 |.ask i j k,a,e,h=>by
  unfold p5 at e;by_cases z:i<n/\j<n/\i≠j
  ·rw[aV z]at e;exact q i j _ z.1 z.2.1 z.2.2 (Ae q (k (lt i j)) e h)
  ·rw[bb z]at e;cases e
def Inv.adopt {b:Addr}{o:HO}(I:Inv X U Z H s)(h0:X.gj.heap.objs.size<=b)(f:kP X U H b)(new:cV X.prog X.w (upd H b o) s.heap b o):Inv X U Z (upd H b o) s:=by
 obtain⟨g,l,_,_,hC,L⟩:=f;refine⟨I.ok,I.os,I.bare,⟨I.base.keep,I.base.slot,λc u e n M=>?_,I.base.there,λc xs e=>?_,λc u v e=>?_,λc ps e=>?_⟩,I.loc,I.cell,?_,λx c e=>?_,λp hp=>?_,λc u e=>?_,I.len⟩
 ·rw[bh (bY (c_ (bu e) h0))];exact I.base.free c u e n M
 ·have q:=I.base.mL c xs e;rw[bh (bR q g)];exact q
 ·have q:=I.base.lC c u v e;rw[bh (bR q g)];exact q
 ·obtain⟨more,q⟩:=I.base.nE c ps e;exact⟨more,by rw[bh (bR q g)];exact q⟩
 ·rw[bh l.symm];exact I.free
 ·rw[bh (hC x c e)];exact I.fP x c e
 ·obtain⟨e,n,r⟩:=I.pin p hp;exact⟨e,by rw[bh (L p hp)];exact n,r⟩
 ·by_cases z:c=b
  ·subst z;rw[bK]at e;cases e;exact new
  ·rw[bh z]at e;exact(I.cU c u e).pD (λ_ _ _ q=>q) (λd q=>by rw[bh (bR q g)];exact q) λd xs q=>by rw[bh (bR q g)];exact q
def rL(H:Hp):List (Addr×List V)->Hp
 |[]=>H
 |p::r=>rL (upd H p.1 (.tup p.2)) r
theorem yo{H:Hp}:∀{l:List (Addr×List V)},(l.map (·.1)).Nodup->(∀p∈l,H p.1=none)->bf H (rL H l)/\∀p∈l,rL H l p.1=some (.tup p.2)
 |[],_,_=>⟨bf.refl H,λp m=>(nomatch m)⟩
 |p::l,nd,hn=>by
  rw[bL,gY]at nd;have hp:H p.1=none:=hn p (cz ..);obtain⟨s,k⟩:=yo (H:=upd H p.1 (.tup p.2)) (l:=l) nd.2 λq m=>by
   rw[bh λz=>nd.1 (by rw[<-z];exact gf m)];exact hn q (ck _ m)
  refine⟨(bf.upd hp).trans s,λq m=>?_⟩;rcases bE.mp m with rfl|m
  ·exact s _ _ bK
  ·exact k q m
theorem Inv.Dq:∀{l:List (Addr×List V)} {H:Hp},Inv X U Z H s->(l.map (·.1)).Nodup->(∀p∈l,X.gj.heap.objs.size<=p.1/\kP X U H p.1/\p.2.length<=sizeLine/\∃cn:List Value,Vals p.2 cn/\IsTup s.heap p.1 cn.toArray)->Inv X U Z (rL H l) s
 |[],H,I,_,_=>I
 |p::l,H,I,nd,h=>by
  rw[bL,gY]at nd;obtain⟨h0,hf,hz,cn,rv,it⟩:=h p (cz ..);refine Inv.Dq (H:=upd H p.1 (.tup p.2)) (I.adopt h0 hf ⟨hz,cn,rv,it⟩) nd.2 λq m=>?_
  obtain⟨g,b,r⟩:=h q (ck _ m);exact⟨g,⟨by rw[bh λz=>nd.1 (by rw[<-z];exact gf m)];exact b.1,b.2⟩,r⟩
def vE(v d:Addr):HO:=.ext λh=>h.IsItemsView v d
section
variable {to:TE}
def Tp(to:TE):TE:=λZ H Q=>to Z H λx H1=>∃d kvs,x=.ref d/\Rd H1 d (.dK kvs)/\∀v,H1 v=none->Q (.ref v) (upd H1 v (vE v d))
theorem Lg(q:PE X o to)(pH:attributeBase o "items" X.env (eval o X.env)=eval o X.env)(fQ:(b8.endLine==p.line)=true):PE X (.Call (.Attribute o "items" b8) [] [] p) (Tp to):=by
 intro U s Z H Q I h;refine wpAny_Call_method0_late pH fQ (eC (q U s Z H _ I h) λv s1 ⟨x,H1,g,r1,d,kvs,ex,hd,L⟩=>?_);subst ex;cases(show v=Value.ref d from r1);obtain⟨hz,hs,vs,rv,hm⟩:=(show cV X.prog X.w H1 s1.heap d (.dK kvs)from hd.ok g.cU);have l:=hm;obtain⟨n,es,ep,e,ex,_⟩:=hm;refine⟨"dict","dict.items",qE,PySem.F.slot_dict_items,PySem.F.type_dict_items,⟨n,e,ex.1⟩,λa M=>by cases M;exact⟨n,e,ex.2.1⟩,nv rfl (PySem.evalArgs_none ?_)⟩;refine jw PySem.F.slot_dict_items ⟨n,e,ex.1⟩ PySem.F.entry_dict_items (PySem.F.args_dict_items_1 _) (meets_dict_items (cj X.prog X.w) d hs) ⟨⟨vs,l⟩,?_⟩;refine⟨.ref s1.heap.objs.size,_,g.laid (t':=s1.toks) (o:=vE s1.heap.objs.size d) (λb u e=>bP _ e) (bz _) ?_,rfl,L _ g.fresh⟩;have S:(s1.heap.push {cls:=.type "dict_items",data:=.fields #[.ref d]}).IsItemsView s1.heap.objs.size d:=⟨_,cp _ rfl,rfl,rfl⟩;exact⟨S,⟨_,cp _ rfl⟩,λh1 h2 ⟨r,e1,r1⟩ k=>⟨r,k r e1,r1⟩⟩
end
noncomputable def yp(ss:List Str)(i j:Nat):Bool:=decide ((ss.getD i "").cps.toList<(ss.getD j "").cps.toList)
def hV(ss:List Str):Option (List Nat):=if ss.length<2 then some (List.range ss.length)else(p5 ss.length (yp ss) (PySem.W.kas_sort ss.length)).bind λp=>if p.toList.all (λi=>decide (i<ss.length))=true/\p.toList.length<=64 then some p.toList else none
def Fb{p:List Nat}(h:hV ps=some p):p.length<=64:=by
 unfold hV at h;split at h
 ·cases h;rw[sS];omega
 ·cases e:p5 ps.length (yp ps) (PySem.W.kas_sort ps.length)with
  |none=>rw[e]at h;cases h
  |some q=>
   rw[e]at h;by_cases z:q.toList.all (λi=>decide (i<ps.length))=true/\q.toList.length<=64
   ·have h':(if q.toList.all (λi=>decide (i<ps.length))=true/\q.toList.length<=64 then some q.toList else none)=some p:=h;rw[aV z]at h';cases h';exact z.2
   ·have h':(if q.toList.all (λi=>decide (i<ps.length))=true/\q.toList.length<=64 then some q.toList else none)=some p:=h;rw[bb z]at h';cases h'
def Ds{ox oy:Obj}{b:Str}{t u:Tok}{q:Value}{Q:Bool->Shared->Prop}(hx:s.heap.get? a=some ox)(dx:ox.data=.seq #[.str av t,af] i) (hy:s.heap.get? au=some oy) (dy:oy.data=.seq #[.str b u,q] az) (hU:av≠b)
  (h:Q (decide (av.cps.toList<b.cps.toList)) s):wpAny (model P w) A (keyLt' (tuples' true) (.ref a) (.ref au)) Q E s:=by
 refine PySem.W.kat_lt hx dx hy dy (PySem.W.kat_cons (wpAny_eqBool_str ?_));rw[fu hU];exact PySem.W.kat_no (oneLt_str h)
section
variable {prog:Program}
theorem vV{P:PySem.Fin->Shared->Prop}(ho:s.heap.get? a=some (seqObj "list" aq.toArray i))(h2:aq.length<2)
  (h:∀h' c,(∀b o,b≠a->s.heap.get? b=some o->h'.get? b=some o)->h'.get? a=some (seqObj "list" aq.toArray c)->P (.done (.ret .none)) {s with heap:=h'}):
  wpAny (model prog w) A (Builtin.«list.sort» ⟨[.ref a],[]⟩) P E s:=by
 rw[list_sort_plain];have r:a<s.heap.objs.size:=bu ho;refine aS (listItems_at ho rfl ?_);refine aS (listUpdate_at ho rfl ?_ (by rw[cS,dQ];omega) (d5 _));obtain⟨n,I⟩:∃n,(s.heap.update a (Obj.mapSeq λ_=>#[])).get? a=some (seqObj "list" #[] n):=⟨_,get?_update_seq ho (λ_=>#[])⟩;refine aS (seqEpoch_at I rfl ?_);refine aS (wpAny_newTuple ?_ (by rw[dQ];simp;omega));refine aS (pz ?_ (d5 _));refine fw ?_
 have g:(((s.heap.update a (Obj.mapSeq λ_=>#[])).push (seqObj "tuple" aq.toArray 0)).push (seqObj "list" #[] 0)).get? a=some (seqObj "list" #[] n):=by
  rw[Heap.get?_push_ne _ _ _ (by rw[size_push',Heap.size_update];exact bY (lJ r)),Heap.get?_push_ne _ _ _ (by rw[Heap.size_update];exact bY r)];exact I
 show wpAny (model prog w) A _ P E {s with heap:=((s.heap.update a (Obj.mapSeq λ_=>#[])).push (seqObj "tuple" aq.toArray 0)).push (seqObj "list" #[] 0)};dsimp only;have l:aq.toArray.size<2:=by simpa using h2
 rw[aV l,aV l];refine aS (bc ?_);rw[StateT.run_pure];refine aS (bc ?_);dsimp only;refine aS (seqEpoch_at g rfl ?_);refine aS (listUpdate_at g rfl ?_ (d5 _) (by rw[Array.size_map];show(pairsOf aq).size<=_;rw[pairsOf_size,dQ];omega));simp only[sR,cR,cq];refine bc ?_
 have L:(aq.toArray.zip aq.toArray).map (·.2)=aq.toArray:=by
  apply Array.toList_inj.mp;simp only[Array.toList_map,Array.toList_zip];exact List.map_snd_zip (bz _)
 obtain⟨e,he⟩:=sortedHeap_at (out:=(aq.toArray.zip aq.toArray).map (·.2)) ho;refine h (sortedHeap s.heap a aq ((aq.toArray.zip aq.toArray).map (·.2))) e (λb o hb q=>(sortedHeap_old hb (bu q)).trans q) ?_
 rw[he,L]
end
def OC{kvs:List (Key×V)}{vs:List (Key×Value)}(r:KV kvs vs){k:Key}{v:V}(e:kvs[i]?=some (k,v)):∃u,vs[i]?=some (k,u)/\RelV v u:=by
 have g:Paired _ kvs vs:=r
 clear r
 induction g generalizing i with
 |nil=>simp at e
 |cons h t l=>
  cases i with
  |zero=>
   simp at e;rename_i a b _ _;obtain⟨n,h2⟩:=h;obtain⟨I,b2⟩:=b;subst e;exact⟨b2,by simpa using n.symm,h2⟩
  |succ i=>obtain⟨u,x,y⟩:=l (i:=i) (by simpa using e);exact⟨u,by simpa using x,y⟩
theorem yq{b:Addr}:∀{l:List (Addr×List V)} {H:Hp},b∉l.map (·.1)->rL H l b=H b
 |[],_,_=>rfl
 |p::l,H,h=>by
  rw[bL]at h;show rL (upd H p.1 (.tup p.2)) l b=_;rw[yq λz=>h (ck _ z),bh λz=>h (by rw[z];exact cz ..)]
theorem Af(f:Nat->Addr):∀p:List Nat,Vals (p.map λi=>V.ref (f i)) (p.map λi=>Value.ref (f i))
 |[]=>.nil
 |i::p=>.cons rfl (Af f p)
def Bq(h:Heap)(L D:Addr):List (Addr×Obj):=(E5 h L).filter λp=>decide (p.1≠D)
def jD{b:Addr}{o:Obj}:(b,o)∈Bq aa a au↔b≠a/\b≠au/\aa.get? b=some o:=by
 unfold Bq;rw[gg,E6,iy];exact⟨λz=>⟨z.1.1,z.2,z.1.2⟩,λz=>⟨⟨z.1,z.2.2⟩,z.2.1⟩⟩
theorem yr{h:Heap}:∀{as:List Addr} {ss:List Str},as.length=ss.length->(∀(i:Nat) (a:Addr) (z:Str),as[i]?=some a->ss[i]?=some z->∃t x,h.get? a=some {cls:=.type "tuple",data:=.seq #[.str z t,x]})->∃fs:List Value,PySem.W.KatTups h (as.map Value.ref) fs/\fs.length=ss.length/\∀v∈fs,∃z t,v=Value.str z t
 |[],[],_,_=>⟨[],.nil,rfl,λv m=>(nomatch m)⟩
 |[],_::_,e,_=>by cases e
 |_::_,[],e,_=>by cases e
 |a::as,z::ss,e,k=>by
  obtain⟨t,x,g⟩:=k 0 a z rfl rfl;obtain⟨fs,h1,h2,l⟩:=yr (as:=as) (ss:=ss) (by simpa using e) λi b y n r=>k (i+1) b y (by simpa using n) (by simpa using r);refine⟨.str z t::fs,.cons g rfl rfl rfl h1,by rw[dt,dt,h2],λv m=>?_⟩;rcases bE.mp m with rfl|m
  ·exact⟨z,t,rfl⟩
  ·exact l v m
theorem Lh{α β:Type}:∀{xs:List α} {ys:List β} {p:α×β},p∈xs.zip ys->∃i:Nat,xs[i]?=some p.1/\ys[i]?=some p.2
 |[],_,_,h=>by simp at h
 |_::_,[],_,h=>by simp at h
 |x::xs,y::ys,p,h=>by
  rw[List.zip_cons_cons]at h;rcases bE.mp h with rfl|h
  ·exact⟨0,rfl,rfl⟩
  ·obtain⟨i,a,b⟩:=Lh h;exact⟨i+1,by simpa using a,by simpa using b⟩
section
theorem zh(hc:X.calm=true):gC X (.builtin "sorted") (λxs H Q=>∃(v d:Addr) (kvs:List (Key×V)) (ss:List Str) (p:List Nat),xs=[.ref v]/\H v=some (vE v d)/\Rd H d (.dK kvs)/\kvs.map (·.1)=ss.map Sum.inr/\ss.length<64/\hV ss=some p/\
  ∀(as:List Addr) (D:Addr),as.length=kvs.length->as.Nodup->(∀a∈as,H a=none)->D∉as->H D=none->Q (.ref D) (upd (rL H (as.zip (kvs.map λq=>[kV q.1,q.2]))) D (.lst (p.map λi=>V.ref (as.getD i 0))))):=by
 intro U s Z H xs us Q I r h;obtain⟨v,d,kvs,ss,p,rfl,hv,hd,hk,ER,hp,q⟩:=h;obtain⟨u,rfl,ru⟩:=vals1 r;cases(show u=Value.ref v from ru);obtain⟨hz,hs,vs,rv,hm⟩:=(show cV X.prog X.w H s.heap d (.dK kvs)from hd.ok I.cU);obtain⟨ep,hm⟩:=hm.dictAt;have X2:s.heap.IsItemsView v d:=(show cV X.prog X.w H s.heap v (vE v d)from I.cU v _ hv).1;have X3:=sg rv;have hsl:kvs.length=ss.length:=by have q:=cT List.length hk;rw[bt,bt]at q;exact q
 have hnd:ss.Nodup:=by
  obtain⟨_,_,_,_,_,_,_,nd⟩:=hm;have e:vs.map (·.1)=ss.map Sum.inr:=by
   rw[<-hk];refine oY λi=>?_
   rw[b_,b_];cases e:kvs[i]? with
   |none=>
    have g:vs[i]?=none:=jg.mpr (by rw[<-X3];exact jg.mp e)
    rw[g];rfl
   |some p=>
    obtain⟨z,e6⟩:=A5 rv (k:=p.1) (v:=p.2) e;rw[e6];rfl
  rw[e]at nd;exact List.Pairwise.of_map Sum.inr (λa b z e=>z (by rw[e])) nd
 refine call_function_entry kind_sorted plain_sorted entry_sorted (args_sorted1 _) ?_
 unfold Builtin.«sorted»;refine aS (m:=checkCount "sorted" 1 1 _) (bc ?_);refine aS (PySem.W.kdx_collect (A:=X.A.in1) (knd:=cj X.prog X.w) (kvs:=vs) (ep:=ep) (I.ok.hd hc) X2 hm (by rw[<-X3];exact hz) λg tk as ZC hl hG=>?_);refine aS (pz ?_ (by rw[bt,hl,<-X3];exact hz));have FD:(g.push (seqObj "list" (as.map Value.ref).toArray 0)).get? g.objs.size=some (seqObj "list" (as.map Value.ref).toArray 0):=cp _ rfl;have Qq:∀i a,as[i]?=some a->∃z y t,ss[i]?=some z/\kvs[i]?=some (Sum.inr z,y)/\∃x,RelV y x/\g.get? a=some {cls:=.type "tuple",data:=.seq #[.str z t,x]}:=λi a e=>by
  obtain⟨key,k,x,e1,e2,e3⟩:=hG.pairs i a e;have hi:i<kvs.length:=by rw[X3];exact(gb.mp e1).1
  have e4:kvs[i]?=some kvs[i]:=bV hi
  generalize kvs[i]=kv at e4;obtain⟨x',e6,rx⟩:=OC rv (k:=kv.1) (v:=kv.2) e4;rw[e1]at e6;cases e6;have e7:(kvs.map (·.1))[i]?=some kv.1:=by rw[b_,e4];rfl
  rw[hk,b_]at e7;cases e8:ss[i]? with
  |none=>rw[e8]at e7;cases e7
  |some z=>
   rw[e8]at e7;have e9:Sum.inr z=kv.1:=by simpa using e7
   obtain⟨t,rfl⟩:∃t,key=Value.str z t:=by
    rw[<-e9]at e2;exact Value.isStrOf_shape e2
   exact⟨z,kv.2,t,e8,by rw[e4,e9],x,rx,e3⟩
 obtain⟨m,RH,_⟩:=id I.loc;have hL:X.env.locals<s.heap.objs.size:=I.lt;have ZD:∀a∈as,s.heap.objs.size<=a:=λa L=>dB (hG.above a L);have aD:∀a∈as,a≠g.objs.size:=λa L=>bY (hG.there L);have aL:∀a∈as,a≠X.env.locals:=λa L=>dJ (c_ hL (ZD a L));have asz:∀b o,s.heap.get? b=some o->b<g.objs.size:=λb o e=>bu (ZC b o e);have J:Inv X U Z H {s with heap:=g,toks:=tk}:=I.kept ZC;have Tq:H g.objs.size=none:=J.fresh;have hDf:kP X U H g.objs.size:=J.xn (bz _) Tq;have hD0:X.gj.heap.objs.size<=g.objs.size:=J.sz;have hDL:g.objs.size≠X.env.locals:=dJ J.lt;have S:as.length=ss.length:=by rw[hl,<-X3,hsl]
 have nda:as.Nodup:=hG.rise.imp λh=>bY h;have hkl:(as.zip (kvs.map λq=>[kV q.1,q.2])).map (·.1)=as:=List.map_fst_zip (by rw[bt,S,hsl];exact bz _);have fin:∀h' c,(∀b o,b≠X.env.locals->b≠g.objs.size->(g.push (seqObj "list" (as.map Value.ref).toArray 0)).get? b=some o->h'.get? b=some o)->h'.Ns X.env.locals m->
   h'.get? g.objs.size=some (seqObj "list" (p.map λi=>Value.ref (as.getD i 0)).toArray c)->EP X U Z Q (.ref g.objs.size) {s with heap:=h',toks:=tk}:=by
  intro h' c kp Px hD;have kp1:∀b o,b≠X.env.locals->b≠g.objs.size->g.get? b=some o->h'.get? b=some o:=λb o n1 n2 e=>kp b o n1 n2 (bP _ e);have I1:Inv X U Z H {s with heap:=h',toks:=tk}:=I.Lb RH Px λb o n e=>kp1 b o n (bY (asz b o e)) (ZC b o e);have zf:∀b,s.heap.objs.size<=b->kP X U H b:=λb hb=>I.xn hb (I.cU.fresh hb);have I2:=I1.Dq (l:=as.zip (kvs.map λq=>[kV q.1,q.2])) (by rw[hkl];exact nda) λt ht=>by
   obtain⟨i,e1,e2⟩:=Lh ht;obtain⟨z,y,vR,_,e4,x,rx,e5⟩:=Qq i t.1 e1;have L:t.1∈as:=dZ e1;rw[b_,e4]at e2;have e6:[V.str z,y]=t.2:=Option.some.inj e2;refine⟨cB I.sz (ZD _ L),zf _ (ZD _ L),by rw[<-e6];show 2<=sizeLine;decide,[.str z vR,x],by rw[<-e6];exact .cons ⟨vR,rfl⟩ (.cons rx .nil),⟨_,kp1 _ _ (aL _ L) (aD _ L) e5,rfl,_,rfl⟩⟩
  have hDn:rL H (as.zip (kvs.map λq=>[kV q.1,q.2])) g.objs.size=none:=by
   rw[yq (by rw[hkl];exact λz=>aD _ z rfl)];exact Tq
  have oF:p.length<=sizeLine:=cB (Fb hp) (by decide);refine⟨.ref g.objs.size,_,I2.adopt (o:=.lst (p.map λi=>V.ref (as.getD i 0))) hD0 ⟨hDn,hDf.2⟩ ⟨by rw[bt];exact oF,_,c,Af _ p,hD⟩,rfl,q as g.objs.size (by rw[S,hsl]) nda (λa L=>I.cU.fresh (ZD a L)) (λz=>aD _ z rfl) Tq⟩
 refine aS (fw (gX slot_list_sort ⟨_,FD,rfl⟩ entry_list_sort ?_ (args_list_sort _)));have X4:(g.push (seqObj "list" (as.map Value.ref).toArray 0)).Ns X.env.locals m:=by
  obtain⟨o,es,Jr,ho,r'⟩:=RH;exact⟨o,es,Jr,bP _ (ZC _ _ ho),r'⟩
 by_cases h2:ss.length<2
 ·have ep:p=List.range ss.length:=by
   unfold hV at hp;rw[aV h2]at hp;exact(Option.some.inj hp).symm
  have eo:as.map Value.ref=p.map λi=>Value.ref (as.getD i 0):=by
   rw[ep,<-S];refine oY λi=>?_
   rw[b_,b_];by_cases hi:i<as.length
   ·rw[List.getElem?_range hi,bV hi];simp[hi]
   ·rw[jg.mpr (by omega),jg.mpr (by rw[sS];omega)]
    rfl
  refine vV FD (by rw[bt,S];exact h2) λh' c kp hD=>⟨_,rfl,bc ⟨_,rfl,?_⟩⟩;refine fin h' c (λb o _ n e=>kp b o n e) ?_ (by rw[<-eo];exact hD)
  obtain⟨o,es,Jr,ho,r'⟩:=X4;exact⟨o,es,Jr,kp _ _ hDL.symm ho,r'⟩
 ·obtain⟨M,er,uP,ep⟩:∃M:Array Nat,p5 ss.length (yp ss) (PySem.W.kas_sort ss.length)=some M/\M.toList.all (λi=>decide (i<ss.length))=true/\p=M.toList:=by
   unfold hV at hp;rw[bb h2]at hp;cases e:p5 ss.length (yp ss) (PySem.W.kas_sort ss.length)with
   |none=>rw[e]at hp;cases hp
   |some M=>
    rw[e]at hp;have Qf:(if M.toList.all (λi=>decide (i<ss.length))=true/\M.toList.length<=64 then some M.toList else none)=some p:=hp;by_cases z:M.toList.all (λi=>decide (i<ss.length))=true/\M.toList.length<=64
    ·rw[aV z]at Qf;exact⟨M,rfl,z.1,(Option.some.inj Qf).symm⟩
    ·rw[bb z]at Qf;cases Qf
  have F:Fr Bm X.env.locals (g.push (seqObj "list" (as.map Value.ref).toArray 0)) m:=⟨X4,(λb o e=>by rw[p4]at e;cases e),d5 _⟩;have N:News Bm X.env.locals (g.push (seqObj "list" (as.map Value.ref).toArray 0)) (Bq (g.push (seqObj "list" (as.map Value.ref).toArray 0)) X.env.locals g.objs.size):=λt ht=>by
   obtain⟨n1,n2,e⟩:=jD.mp (show(t.1,t.2)∈_ from ht);exact⟨e,n1,p4 _⟩
  refine PySem.W.kat_list_sort (s:={s with heap:=g.push (seqObj "list" (as.map Value.ref).toArray 0),toks:=tk}) F N FD hDL (p4 _) (λt ht=>(jD.mp (show(t.1,t.2)∈_ from ht)).2.1) (by rw[bt,S];omega) (by rw[bt,S];exact ER) λe1 h' F' N'=>?_
  have tp:∀(i:Nat) (a:Addr) (z:Str),as[i]?=some a->ss[i]?=some z->∃t x,h'.get? a=some {cls:=.type "tuple",data:=.seq #[.str z t,x]}:=λi a z ea ez=>by
   obtain⟨z',y,t,e3,_,x,_,e5⟩:=Qq i a ea;rw[ez]at e3;cases e3;have L:a∈as:=dZ ea;exact⟨t,x,(N' (a,_) (ck _ (jD.mpr ⟨aL a L,aD a L,bP _ e5⟩))).1⟩
  obtain⟨fs,kt,fl,aaT⟩:=yr S tp;refine PySem.W.kat_kind (T:=.type "str") kt (by rw[fl];omega) (λv hv=>by obtain⟨z,t,rfl⟩:=aaT v hv;exact .of_pure rfl) (by decide) ?_
  rw[show(Value.type "str" !=Value.type "tuple")=true by decide,bt,S];refine Ae (λi j C hi hj AO hC=>?_) _ er ?_
  ·have ei:as[i]?=some as[i]:=bV (by rw[S];exact hi)
   have ej:as[j]?=some as[j]:=bV (by rw[S];exact hj)
   generalize as[i]=a at ei;generalize as[j]=b at ej;have zi:ss[i]?=some ss[i]:=bV hi
   have zj:ss[j]?=some ss[j]:=bV hj
   obtain⟨t1,x1,g1⟩:=tp i a _ ei zi;obtain⟨t2,x2,g2⟩:=tp j b _ ej zj;have va:(as.map Value.ref).getD i Value.none=Value.ref a:=by rw[eJ,b_,ei];rfl
   have vb:(as.map Value.ref).getD j Value.none=Value.ref b:=by rw[eJ,b_,ej];rfl
   show wpAny _ _ (keyLt' _ ((as.map Value.ref).getD i Value.none) ((as.map Value.ref).getD j Value.none)) _ _ _;rw[va,vb];refine Ds g1 rfl g2 rfl (λe=>AO (tL hnd zi (by rw[zj,e]))) ?_
   have e9:yp ss i j=decide (ss[i].cps.toList<ss[j].cps.toList):=by
    unfold yp;rw[eJ,eJ,zi,zj]
    rfl
   rw[<-e9];exact hC
  ·refine PySem.W.KasFin.intro F' N' (.head λt ht=>(jD.mp (show(t.1,t.2)∈_ from ht)).2.1) λh'' c F'' N''=>⟨_,rfl,bc ⟨_,rfl,?_⟩⟩;have eo:(M.toList.map λi=>(as.map Value.ref).getD i Value.none)=p.map λi=>Value.ref (as.getD i 0):=by
    rw[ep];refine gW λi hi=>?_
    have Zn:i<as.length:=by rw[S];exact eK (dz.mp uP i hi)
    rw[eJ,eJ,b_,bV Zn]
    rfl
   refine fin h'' c (λb o n1 n2 e=>(N'' (b,o) (ck _ (jD.mpr ⟨n1,n2,e⟩))).1) F''.ns ?_
   rw[<-eo];exact(N'' _ (cz ..)).1
noncomputable def rM:List (Key×Tr)->Option (List Str)
 |[]=>some []
 |(.inr z,_)::r=>(rM r).map λs=>z::s
 |_=>none
theorem uo:∀{bB:List (Key×Tr)} {ss:List Str},rM bB=some ss->bB.map (·.1)=ss.map Sum.inr
 |[],_,h=>by cases h;rfl
 |(.inr z,_)::r,ss,h=>by
  have h':(rM r).map (λs=>z::s)=some ss:=h;cases e:rM r with
  |none=>rw[e]at h';cases h'
  |some s=>rw[e]at h';cases h';rw[bL,bL,uo e]
 |(.inl _,_)::_,_,h=>by cases h
def we:Tr->Rs Tr
 |.bW bB=>kS ((rM bB).bind λss=>if ss.length<64/\(ss.all λz=>decide (z.length<=cY))=true then(hV ss).map λp=>Tr.lst (p.map λi=>.tup [.str (ss.getD i ""),(bB.map (·.2)).getD i .cx])else none)
 |_=>.bad
def Fc(q:Fi X H (we aC) aB):∃bB ss p,aC=.bW bB/\rM bB=some ss/\ss.length<64/\(∀z∈ss,z.length<=cY)/\hV ss=some p/\aB (.lst (p.map λi=>.tup [.str (ss.getD i ""),(bB.map (·.2)).getD i .cx])):=by
 cases aC with
 |bW bB=>
  obtain⟨x,e,n⟩:=gs q;cases g:rM bB with
  |none=>rw[g]at e;cases e
  |some ss=>
   rw[g]at e;have b:(if ss.length<64/\(ss.all λz=>decide (z.length<=cY))=true then(hV ss).map λp=>Tr.lst (p.map λi=>.tup [.str (ss.getD i ""),(bB.map (·.2)).getD i .cx])else none)=some x:=e;by_cases z:ss.length<64/\(ss.all λz=>decide (z.length<=cY))=true
   ·rw[aV z]at b;cases l:hV ss with
    |none=>rw[l]at b;cases b
    |some p=>
     rw[l]at b;cases b;exact⟨bB,ss,p,rfl,g,z.1,λy r=>eK (dz.mp z.2 y r),l,n⟩
   ·rw[bb z]at b;cases b
 |_=>exact fe q
def Ag{p:List Nat}(h:hV ps=some p):∀i∈p,i<ps.length:=by
 unfold hV at h;split at h
 ·cases h;exact λi hi=>sY.mp hi
 ·cases e:p5 ps.length (yp ps) (PySem.W.kas_sort ps.length)with
  |none=>rw[e]at h;cases h
  |some q=>
   rw[e]at h;have h':(if q.toList.all (λi=>decide (i<ps.length))=true/\q.toList.length<=64 then some q.toList else none)=some p:=h;by_cases z:q.toList.all (λi=>decide (i<ps.length))=true/\q.toList.length<=64
   ·rw[aV z]at h';cases h';exact λi hi=>eK (dz.mp z.1 i hi)
   ·rw[bb z]at h';cases h'
variable {p1 dD:Pos}
theorem GJ{W:Vw}{f:Nat->V}{g:Nat->Tr}:∀{p:List Nat},(∀i∈p,Rep K W (f i) (g i))->bM K W (p.map f) (p.map g)
 |[],_=>.nil
 |i::p,h=>.cons (h i (cz ..)) (GJ λj m=>h j (ck _ m))
theorem Lj(hs:X.mg "sorted"=none)(ho:PE X o (tP X F))(hc:X.calm=true:=by rfl) (hg:Gl X "sorted":=by rfl) (hb:isCall o=false:=by rfl) (fQ:(b8.endLine==dD.line)=true:=by rfl):
  PE X (.Call (.Name "sorted" p1) [.Call (.Attribute o "items" b8) [] [] dD] [] pos) (tP X λY=>(F Y).bind we):=
 (pF (zh hc) hg hs rfl (lM (Lg ho (gq hb) fQ) rX (bJ _ _ rfl)) (by decide) (by decide) (bJ _ _ rfl) (cP (es:=[]) rfl)).weak λZ H Q ⟨B,Y,hb,r,q⟩=>⟨B,Y,hb,r,q.bind.mono λt qt v H1 s1 rv=>by
  obtain⟨bB,ss,p,rfl,e1,ER,htx,e2,k⟩:=Fc qt;cases rv with
  |@bW a kvs _ h ek rr=>
   refine⟨a,kvs,rfl,Rd.same bG h,λb I=>⟨b,a,kvs,ss,p,rfl,bK,Rd.same (bf.upd I) (Rd.same bG h),by rw[ek];exact uo e1,ER,e2,λas D hl hnd hn hD hDn=>?_⟩⟩;have AZ:=hb.same s1;have sv:bf H1 (upd H1 b (vE b a)):=bf.upd I;have N9:=AZ.same sv;have L:(as.zip (kvs.map λq=>[kV q.1,q.2])).map (·.1)=as:=List.map_fst_zip (by rw[bt,hl];exact bz _);obtain⟨st,gt⟩:=yo (H:=upd H1 b (vE b a)) (l:=as.zip (kvs.map λq=>[kV q.1,q.2])) (by rw[L];exact hnd) λt ht=>hn t.1 (sU ht).1;have M:rL (upd H1 b (vE b a)) (as.zip (kvs.map λq=>[kV q.1,q.2])) D=none:=by rw[yq (by rw[L];exact hD)];exact hDn
   have sd:=bf.upd (o:=.lst (p.map λi=>V.ref (as.getD i 0))) M;refine k _ _ (((s1.trans sv).trans st).trans sd) (.lst (vs:=p.map λi=>V.ref (as.getD i 0)) ?_ (GJ λi hi=>?_))
   ·exact((N9.same st).new M)
   ·have S:=Ag e2 i hi;have ekl:kvs.length=ss.length:=by
     have g:=cT List.length (ek.trans (uo e1));rw[bt,bt]at g;exact g
    have n:i<as.length:=by rw[hl,ekl];exact S
    have VW:i<kvs.length:=by rw[ekl];exact S
    have ea:as.getD i 0=as[i]:=by rw[eJ,bV n];rfl
    have ez:ss.getD i ""=ss[i]:=by rw[eJ,bV S];rfl
    have ekz:kvs[i].1=Sum.inr ss[i]:=by
     have g:=cT (λl=>l[i]?) (ek.trans (uo e1));simp only[b_,bV VW,bV S,di]at g;exact Option.some.inj g
    have hm:(as[i],[V.str ss[i],kvs[i].2])∈as.zip (kvs.map λq=>[kV q.1,q.2]):=by
     have g:(as.zip (kvs.map λq=>[kV q.1,q.2]))[i]?=some (as[i],[V.str ss[i],kvs[i].2]):=by
      rw[List.getElem?_zip_eq_some];refine⟨bV n,?_⟩;rw[b_,bV VW];show some [kV kvs[i].1,kvs[i].2]=_;rw[ekz];rfl
     exact dZ g
    have g1:=gt _ hm;have nB:B.hd as[i]=false:=N9.free (hn _ (kJ n));have g2:(bZ B (upd (rL (upd H1 b (vE b a)) (as.zip (kvs.map λq=>[kV q.1,q.2]))) D (.lst (p.map λi=>V.ref (as.getD i 0))))).H as[i]=some (.tup [V.str ss[i],kvs[i].2]):=by
     rw[fS nB];exact sd _ _ g1
    obtain⟨tv,et,rt⟩:=rr.xF (i:=i) (v:=kvs[i].2) (by rw[b_,bV VW];rfl);have etd:(bB.map (·.2)).getD i .cx=tv:=by rw[eJ,et];rfl
    rw[ea,ez,etd];exact .tup (.of g2) (.cons (.str _ (htx _ (kJ S))) (.cons (rt.same (bI ((sv.trans st).trans sd))) .nil))⟩
end
structure QE(X:Cx)(e:Expr)(F:bT->Rs Tr):Prop where
 h:PE X e (tP X F)
structure QT(X:Cx)(e:Expr)(F:bT->Rs Bool):Prop where
 h:PT X e (tQ X F)
structure QW(X:Cx)(e:Expr)(F:bT->Rs Bool):Prop where
 h:PW X e (tQ X F)
structure QA(X:Cx)(e:List Expr)(F:bT->Rs (List Tr)):Prop where
 h:PA X e (Ct X F)
structure QS(X:Cx)(e:Stmt)(F:bT->Rs Out):Prop where
 h:PS X e (tS X F)
structure QB(X:Cx)(e:List Stmt)(F:bT->Rs Out):Prop where
 h:oK X e (tS X F)
structure QG(X:Cx)(e:Expr)(F:oH):Prop where
 h:PG X e (tG X F)
structure ZF(X:Cx)(e:List Expr)(F:List Tr->bT->Rs bT):Prop where
 h:M3 X e (UP X F)
structure QI(X:Cx)(tg e:Expr)(F:bT->Rs (List Tr)):Prop where
 h:PI X tg e (tI X F)
structure QJ(X:Cx)(tg e:Expr)(F:bT->Rs (List Tr)):Prop where
 h:PI X tg e (tJ X F)
structure QO(X:Cx)(e:Option Expr)(F:bT->Rs (Option Int)):Prop where
 h:PO X e (tO X F)
structure QF(X:Cx)(e:List Expr)(F:bT->Rs Bool):Prop where
 h:PF X e (tQ X F)
structure ZE(X:Cx)(e:Expr)(F:bT->Ab->Rz Tr):Prop where
 h:PE X e (tE X F)
structure NE(X:Cx)(e:Expr)(F:bT->Rs Tr):Prop where
 h:PE X e (tF X F)
structure ZT(X:Cx)(e:Expr)(F:bT->Ab->Rz Bool):Prop where
 h:PT X e (Qc X F)
structure ZL(X:Cx)(e:List Expr)(F:bT->Ab->Rz (List Tr)):Prop where
 h:PA X e (MN X F)
structure ZS(X:Cx)(e:Stmt)(F:bT->Ab->Rz Out):Prop where
 h:PS X e (tZ X F)
structure ZB(X:Cx)(e:List Stmt)(F:bT->Ab->Rz Out):Prop where
 h:oK X e (tZ X F)
structure Dt(X:Cx)(scope:Scope)(N':List Str)(tg elt:Expr)(ifs:List Expr)(T:oH)(A:bT->Rs Bool)(F:bT->Rs Tr):Prop where
 all:∀s H ex,QG (ub X scope N' s H ex) tg T/\QF (ub X scope N' s H ex) ifs A/\QE (ub X scope N' s H ex) elt F
def Dt.to {scope:Scope}{N':List Str}{elt:Expr}{ifs:List Expr}{T:oH}{A:bT->Rs Bool}(b:Dt X scope N' tg elt ifs T A F):NI X scope N' tg elt ifs T A F:=
 ⟨λs H ex=>⟨(b.all s H ex).1.h,(b.all s H ex).2.1.h,(b.all s H ex).2.2.h⟩⟩
section
variable {b:Expr}{E:bT->Rs Tr}
theorem aQ(i:Nat)(q:X.N[i]?=some x:=by rfl) (hv:Y8 X.env.scope x:=by first|exact Or.inl rfl|exact Or.inr (Or.inl rfl)|exact Or.inr (Or.inr rfl)) (hd:Db x:=by decide) (D_:(x==("__classdict__":Str))=false:=by decide):QE X (.Name x pos) (λY=>xJ Y i):=⟨VX i q hv hd D_⟩
def bC{i:Int}{j pos}:QE X (.Constant (.int i) j pos) (λ_=>.ok (.int i)):=⟨VY⟩
def zk{b:Bool}{j pos}:QE X (.Constant (.bool b) j pos) (λ_=>.ok (.bl b)):=⟨aat⟩
def fU{j pos}:QE X (.Constant .none j pos) (λ_=>.ok .cx):=⟨VZ⟩
def aU{j pos}(hz:x.length<=cY:=by decide):QE X (.Constant (.str x) j pos) (λ_=>.ok (.str x)):=⟨V0 hz⟩
def Du(hm:X.mg x=none)(q:bootBuiltins x=some (.type ay):=by rfl) (hg:Gl X x:=by rfl) (hn:x≠"__name__":=by decide) (hd:Db x:=by decide):QE X (.Name x pos) (λ_=>.ok (.ty ay)):=⟨aau hm q hg hn hd⟩
def fj{op:Operator}(q:BV X (binaryOp op) aE)(ha:QE X e F)(hb:QE X b G):QE X (.BinOp e op b pos) (λY=>HD aE (F Y) (G Y)):=⟨V2 q ha.h hb.h⟩
def Ah{op:CmpOp}(q:BV X (compareOp op) aE)(ha:QE X e F)(hb:QE X b G)(hm:behindInMarks op b=false:=by first|exact AG _|rfl|with_unfolding_all rfl):QE X (.Compare e [op] [b] pos) (λY=>HD aE (F Y) (G Y)):=⟨V3 q ha.h hb.h hm⟩
def bD{op:CmpOp}(q:BV X (compareOp op) aE)(ha:QE X e F)(hb:QE X b G)(hm:behindInMarks op b=false:=by first|exact AG _|rfl|with_unfolding_all rfl):QT X (.Compare e [op] [b] pos) (λY=>Zi (HD aE (F Y) (G Y))):=⟨V4 q ha.h hb.h hm⟩
def mZ(q:QE X e F)(he:mR e=true:=by rfl):QT X e (λY=>(F Y).bind pM):=⟨V5 q.h he⟩
end
section
variable {E:bT->Rs Tr}{A:bT->Rs Bool}
def yt(q:QT X e A):QT X (.UnaryOp .Not e pos) (λY=>HE (A Y)):=⟨V6 q.h⟩
def i9(q:QT X e A):QW X (.BoolOp .And [e] pos) A:=⟨RR q.h⟩
def vF(q:QT X e A):QW X (.BoolOp .Or [e] pos) A:=⟨V8 q.h⟩
def m3(q:QT X e A)(hb:QW X (.BoolOp .And (o::aA) pos) aF):QW X (.BoolOp .And (e::o::aA) pos) (λY=>HF (A Y) (aF Y)):=⟨w_and q.h hb.h⟩
def Dv(q:QT X e A)(hb:QW X (.BoolOp .Or (o::aA) pos) aF):QW X (.BoolOp .Or (e::o::aA) pos) (λY=>V7 (A Y) (aF Y)):=⟨w_or q.h hb.h⟩
def eW{op}(h:QW X (.BoolOp op aA pos) A):QT X (.BoolOp op aA pos) A:=⟨RS h.h⟩
def Ll(q:QE X e F)(hb:QE X (.BoolOp .And (o::aA) pos) G):QE X (.BoolOp .And (e::o::aA) pos) (λY=>V9 (F Y) (G Y)):=⟨V_ q.h hb.h⟩
def Qr{op}(h:QE X e F):QE X (.BoolOp op [e] pos) F:=⟨V' h.h⟩
def Dw(q:QT X tg A)(ha:QE X e F)(hb:QE X o G):QE X (.IfExp tg e o pos) (λY=>J9 (A Y) (F Y) (G Y)):=⟨aav q.h ha.h hb.h⟩
end
section
variable {E:bT->Rs Tr}{B:bT->Rs Bool}{c9:List Expr}
def ba:QA X [] (λ_=>.ok []):=⟨F0⟩
def aR(q:QE X o F)(hr:QA X aA L)(hs:isStar o=false:=by rfl):QA X (o::aA) (λY=>xN (F Y) (L Y)):=⟨AR q.h hr.h hs⟩
def cc{q}(h:QA X aA L):QE X (.Tuple aA q pos) (λY=>AS (L Y)):=⟨Wa h.h⟩
def p7(h:QA X aA L):QE X (.List aA pos) (λY=>zb (L Y)):=⟨Wb h.h⟩
def cM(q:lO X (.builtin ay) h)(hm:X.mg x=none)(ha:QA X (e::aA) L)(hv:bootBuiltins x=some (.builtin ay):=by rfl) (hg:Gl X x:=by rfl) (hn:x≠"__name__":=by decide) (fF:Db x:=by decide) (cD:bx (e::aA)=true:=by rfl):QE X (.Call (.Name x p) (e::aA) [] pos) (λY=>dG h (L Y)):=⟨NB q hm ha.h hv hg hn fF cD⟩
def eQ(q:lO X (.type ay) h)(hm:X.mg x=none)(ha:QA X (e::aA) L)(hv:bootBuiltins x=some (.type ay):=by rfl) (hg:Gl X x:=by rfl) (hn:x≠"__name__":=by decide) (fF:Db x:=by decide) (cD:bx (e::aA)=true:=by rfl):QE X (.Call (.Name x p) (e::aA) [] pos) (λY=>dG h (L Y)):=⟨J_ q hm ha.h hv hg hn fF cD⟩
def X6{fd:FuncData}(D:zF X.K X.mg x ai ps a fd)(G:d_ X.prog X.w X.K X.mg X.base mq i a fd ps (spT X.K h))(q:dc i X.A)(ha:QA X (e::aA) L)(hg:Gl X x:=by rfl) (fF:Db x:=by decide) (cD:bx (e::aA)=true:=by rfl):QE X (.Call (.Name x p) (e::aA) [] pos) (λY=>dG h (L Y)):=⟨Wc D G q ha.h hg fF cD⟩
end
section
variable {c:Expr}{G G':bT->Rs Out}
def dO:QB X [] (λY=>.ok (.nx Y)):=⟨Wd⟩
def bN(q:QS X ai G)(h2:QB X ah G'):QB X (ai::ah) (λY=>Cv (G Y) G'):=⟨RU q.h h2.h⟩
def cy(q:QS X ai G):QB X [ai] G:=⟨We q.h⟩
def fk{i:Nat}(he:QE X e F)(q:X.N.Nodup:=by assumption) (hi:X.N[i]?=some x:=by rfl) (hx:Loc X.env.scope x:=by first|exact Or.inl rfl|exact Or.inr rfl) (hs:r6 e=false:=by rfl) (hf:y3 X x:=by first|exact .inl rfl|exact .inr rfl|assumption):QS X (.Assign [.Name x p] e pos) (λY=>J' i (F Y) Y):=⟨Wg he.h q hi hx hs hf⟩
def cG(he:QE X e F):QS X (.Return (some e) pos) (λY=>Ka (F Y)):=⟨Wh he.h⟩
def fV(q:QT X c aF)(ha:QB X ah G)(hb:QB X aj G'):QS X (.If c ah aj pos) (λY=>UO (aF Y) (G Y) (G' Y)):=⟨aaw q.h ha.h hb.h⟩
def fB(i:Nat)(q:X.N.Nodup:=by assumption) (hi:X.N[i]?=some x:=by rfl) (hx:Loc X.env.scope x:=by first|exact Or.inl rfl|exact Or.inr rfl) (hf:y3 X x:=by first|exact .inl rfl|exact .inr rfl|assumption):QG X (.Name x pos) (gN i):=⟨RV i q hi hx hf⟩
def GK:ZF X [] (Ew []):=⟨Wi⟩
def p8{i:Nat}{is:List Nat}(h2:ZF X aA (Ew is))(q:X.N.Nodup:=by assumption) (hi:X.N[i]?=some x:=by rfl) (hx:Loc X.env.scope x:=by first|exact Or.inl rfl|exact Or.inr rfl) (hf:y3 X x:=by first|exact .inl rfl|exact .inr rfl|assumption) (hs:(assignEach (.Name x pos::aA) X.env).map (·.2)=assign (.Name x pos) X.env::(assignEach aA X.env).map (·.2):=by rfl):ZF X (.Name x pos::aA) (Ew (i::is)):=⟨RW h2.h q hi hx hf hs⟩
def GL{is:List Nat}(h:ZF X aA (Ew is))(q:X.calm=true:=by rfl) (hn:(assignEach aA X.env).length=is.length:=by rfl) (cD:(assignEach aA X.env).findIdx? (·.1)=none:=by rfl):QG X (.Tuple aA i pos) (gT is):=⟨Wj h.h q hn cD⟩
def X7{T:oH}(q:QG X tg T)(he:QE X e F)(hs:swapsWithSole [tg] e pos.line X.env=pure false:=by rfl) (hw:swappedStores [tg] e X.env=pure none:=by rfl) (h1:(assignEach [tg] X.env).map (·.2)=[assign tg X.env]:=by rfl):QS X (.Assign [tg] e pos) (λY=>ND T (F Y) Y):=⟨Wk q.h he.h hs hw h1⟩
def oq(q:QE X e F):QI X tg e (λY=>Kb (F Y)):=⟨Wl q.h⟩
end
section
variable {G G':bT->Rs Out}
def Lm(hm:X.mg "range"=none)(q:QA X [e] L)(hg:Gl X "range":=by rfl) (hs:bx [e]=true:=by rfl):QI X tg (.Call (.Name "range" p) [e] [] pos) (λY=>F4 (L Y)):=⟨Kc hm q.h hg hs⟩
end
section
variable {b c:Expr}{G G':bT->Rs Out}{A:bT->Rs Bool}{N':List Str}{ix:List (Option Nat)}{T:oH}
def Ai:QF X [] (λ_=>.ok true):=⟨Wn⟩
def vG(h:QT X c A):QF X [c] A:=⟨Wo h.h⟩
def IF(q:gL X N' ix ax)(hi:QI X tg o L)(lD:Dt X ax N' tg e aA T A F)(hT:jL T)(hc:X.calm=true:=by rfl) (hs:isSet o=false:=by rfl):QE X (.ListComp e [⟨tg,o,aA,0⟩] ax pos) (λY=>vq ix T A F (L Y) Y):=⟨aax q hi.h lD.to hT hc hs⟩
def OD{i:Nat}(q:gL X N' ix ax)(hit:QI X tg o L)(lD:Dt X ax N' tg e aA T A F)(hT:jL T)(hN:X.N.Nodup:=by assumption) (hc:X.calm=true:=by rfl) (hi:X.N[i]?=some x:=by rfl) (hx:Loc X.env.scope x:=by first|exact Or.inl rfl|exact Or.inr rfl) (Hy:swapsWith (.ListComp e [⟨tg,o,aA,0⟩] ax pos) (some (.Name x p)) b8.line X.env=pure true:=by rfl) (hs:isSet o=false:=by rfl) (hf:y3 X x:=by first|exact .inl rfl|exact .inr rfl|assumption):QS X (.Assign [.Name x p] (.ListComp e [⟨tg,o,aA,0⟩] ax pos) b8) (λY=>J' i (vq ix T A F (L Y) Y) Y):=⟨NJ q hit.h lD.to hT hN hc hi hx Hy hs hf⟩
end
section
variable {b:Expr}
def bS(q:X.A.units+1<cLine)(ha:QE X o F)(hb:QE X b G)(hs:tW b:=by exact λ_ _=>rfl):QE X (.Subscript o b pos) (λY=>HD jX (F Y) (G Y)):=⟨aaz q ha.h hb.h hs⟩
def p9:QO X none (λ_=>.ok none):=⟨R9⟩
def p_(h:QE X e F):QO X (some e) (λY=>Ji (F Y)):=⟨R_ h.h⟩
end
def Qs(q:QE X e F):QE X (.UnaryOp .USub e pos) (λY=>(F Y).bind Sa):=⟨Wu q.h⟩
section
variable {E:bT->Rs Tr}{keys:List (Option Expr)}{P:bT->Rs (List (Tr×Tr))}
def Ln(h:QP X pos keys aA P)(q:keys.all (·.isSome)=true:=by rfl) (hl:keys.length=aA.length:=by rfl) (h0:keys.isEmpty=false:=by rfl) (Nr:keys.length<=15:=by decide):QE X (.Dict keys aA pos) (λY=>Wv (P Y)):=⟨Se h q hl h0 Nr⟩
def Ts(q:X.A.units+1<cLine)(ho:QE X o F)(he:QE X e G)(hb:isCall o=false:=by rfl) (cD:bx [e]=true:=by rfl) (hl:(b8.endLine==p.line)=true:=by rfl):QE X (.Call (.Attribute o "get" b8) [e] [] p) (λY=>Kh (F Y) (G Y)):=⟨Sf q ho.h he.h hb cD hl⟩
def Lo(q:X.A.units+1<cLine)(ho:QE X o F)(he:QE X e G)(hf:QE X am E)(hb:isCall o=false:=by rfl) (cD:bx [e,am]=true:=by rfl) (hl:(b8.endLine==p.line)=true:=by rfl):QE X (.Call (.Attribute o "get" b8) [e,am] [] p) (λY=>Gg (F Y) (G Y) (E Y)):=⟨Sg q ho.h he.h hf.h hb cD hl⟩
end
section
variable {a:Expr}{keys:List (Option Expr)}{P:bT->Rs (List (Tr×Tr))}
def X8(g:AX X.K X.w X.mg x bB)(q:QE X a F)(hg:Gl X x:=by rfl) (hd:Db x:=by decide) (hs:Nn a:=by exact λ_ _=>rfl):QE X (.Subscript (.Name x p) a pos) (λY=>(F Y).bind (Si bB)):=⟨Ww g q.h hg hd hs⟩
end
def X9(hm:X.mg "zip"=none)(q:QA X [e,o] L)(hg:Gl X "zip":=by rfl) (hs:bx [e,o]=true:=by rfl):QI X (.Tuple aA i b8) (.Call (.Name "zip" p) [e,o] [] pos) (λY=>zpW (L Y)):=⟨Xe hm q.h hg hs⟩
def iF(h:QE X e F):QE X (.FormattedValue e (-1) none pos) (λY=>(F Y).bind Oe):=⟨SK h.h⟩
def GN(q:QE X e F):QJ X tg e (λY=>Ks (F Y)):=⟨WO q.h⟩
section
variable {b:Expr}{es:List Expr}{N':List Str}{ix:List (Option Nat)}{T:oH}
def Qt(q:gL X N' ix ax)(hi:QJ X tg o L)(lD:Dt X ax N' tg e aA T aF F)(hT:jL T)(hc:X.calm=true:=by rfl) (hs:isSet o=false:=by rfl):QE X (.ListComp e [⟨tg,o,aA,0⟩] ax pos) (λY=>vq ix T aF F (L Y) Y):=⟨WQ q hi.h lD.to hT hc hs⟩
def Tt{G:bT->Rs Out}(hi:QJ X tg o L)(q:QG X tg T)(hb:QB X ah G)(hp:PassesOwn (model X.prog X.w) X.A X.env X.xe:=by exact pj) (hc:X.calm=true:=by rfl) (hs:isSet o=false:=by rfl):QS X (.For tg o ah [] pos) (λY=>F3 T G (L Y) Y):=⟨Sx hi.h q.h hb.h hp hc hs⟩
end
def X_{h:List Tr->Tr->Rs Tr}(slot:Slot "list" x ay)(q:typeOf (.builtin ay)=pure (.type "method_descriptor"))(hm:Ro X ay (Xm X h))(ho:QE X o F)(he:QE X e G)(pa:PlainAttrs "list":=by exact sH) (pH:isCall o=false:=by rfl) (cD:bx [e]=true:=by rfl) (fQ:(b8.endLine==pos.line)=true:=by rfl):QE X (.Call (.Attribute o x b8) [e] [] pos) (λY=>lmR h (F Y) (G Y)):=⟨aaO slot q hm ho.h he.h pa pH cD fQ⟩
section
variable {dD:Pos}
def X'(q:X.A.units+1<cLine)(g:KW X.K X.mg x ts)(he:QE X e G)(hg:Gl X x:=by rfl) (hd:Db x:=by decide) (cD:bx [e]=true:=by rfl) (fQ:(b8.endLine==dD.line)=true:=by rfl):QE X (.Call (.Attribute (.Name x p) "index" b8) [e] [] dD) (λY=>(G Y).bind (vS ts)):=⟨Xo q g he.h hg hd cD fQ⟩
def Ya{q}(hu:X.A.units+1<cLine)(ht:QA X aA L)(he:QE X e G)(cD:bx [e]=true:=by rfl) (fQ:(b8.endLine==dD.line)=true:=by rfl):QE X (.Call (.Attribute (.Tuple aA q pos) "index" b8) [e] [] dD) (λY=>(L Y).bind λts=>if ts.length<=eM then(G Y).bind (vS ts)else .bad):=⟨Xp hu ht.h he.h cD fQ⟩
end
section
variable {dD:Pos}{fd:FuncData}{k:Nat}
def Tu(D:MethAt X.K x av ai ps a fd)(G:d_ X.prog X.w X.K X.mg X.base mq k a fd ps (spT X.K h))(q:dc k X.A)(ho:QE X o F)(ha:QA X (e::aA) L){pl:Sem Bool}(cD:bx (e::aA)=true:=by rfl) (ht:eval (.Call (.Attribute o av b8) (e::aA) [] pos) X.env=tK pos b8 o av (e::aA) X.env pl:=by rfl):QE X (.Call (.Attribute o av b8) (e::aA) [] pos) (λY=>vB x av h (F Y) (L Y)):=⟨SV D G q ho.h ha.h cD ht⟩
def OE(D:MethAt X.K x av ai ps a fd)(G:d_ X.prog X.w X.K X.mg X.base mq k a fd ps (spT X.K h))(q:dc k X.A)(ho:QE X o F){pl:Sem Bool}(ht:eval (.Call (.Attribute o av b8) [] [] pos) X.env=tK pos b8 o av [] X.env pl:=by rfl):QE X (.Call (.Attribute o av b8) [] [] pos) (λY=>vB x av h (F Y) (.ok [])):=⟨Oi D G q ho.h ht⟩
end
section
variable {p2:Pos}
def Tv(hs:X.mg "sorted"=none)(hm:X.mg "set"=none)(q:QE X e F)(hc:X.calm=true:=by rfl) (hg:Gl X "sorted":=by rfl) (K_:Gl X "set":=by rfl) (cD:bx [e]=true:=by rfl):QE X (.Call (.Name "sorted" p) [.Call (.Name "set" p2) [e] [] b8] [] pos) (λY=>(F Y).bind pY):=⟨Te hs hm q.h hc hg K_ cD⟩
end
def Tw(T:Bl X.K X.w X.mg x ps)(q:Gl X x:=by rfl) (fF:Db x:=by decide):QI X tg (.Name x p) (λ_=>.ok (ps.map .str)):=⟨Tf T q fF⟩
def aW(h:QE X e F):ZE X e (λY A=>gE (F Y) A):=⟨Sl h.h⟩
def bo(h:QE X e F):ZE X e (λY A=>r_ (F (dm A Y)) A):=⟨Sm h.h⟩
def cu(h:QT X e aF):ZT X e (λY A=>gE (aF (dm A Y)) A):=⟨N4 h.h⟩
def fY(h:NE X e F):ZE X e (λY A=>uZ (F (dm A Y)) A):=⟨WB h.h⟩
section
variable {c:Expr}{G:bT->Ab->Rz Out}{P:bT->Ab->Rz Bool}
def dv:ZB X [] (λY A=>.ok (.nx Y) A):=⟨WC⟩
def bp(q:ZS X ai G)(h2:ZB X ah aK):ZB X (ai::ah) (λY A=>EH (G Y A) aK):=⟨Sn q.h h2.h⟩
def bO(q:ZS X ai G):ZB X [ai] G:=⟨WD q.h⟩
def yu:ZE X e (λ_ _=>.bad):=⟨WE⟩
def gO{i:Nat}(he:ZE X e aI)(q:X.N.Nodup:=by assumption) (hi:X.N[i]?=some x:=by rfl) (hx:Loc X.env.scope x:=by first|exact Or.inl rfl|exact Or.inr rfl) (hs:r6 e=false:=by rfl) (hf:y3 X x:=by first|exact .inl rfl|exact .inr rfl|assumption):ZS X (.Assign [.Name x p] e pos) (λY A=>AY i (aI Y A) Y):=⟨WG he.h q hi hx hs hf⟩
def eY(he:ZE X e aI):ZS X (.Return (some e) pos) (λY A=>Kl (aI Y A)):=⟨WH he.h⟩
def Tx:ZS X (.Return none pos) (λ_ A=>.ok (.ret .cx) A):=⟨Sq⟩
def cH(he:ZE X e aI)(hs:r6 e=false:=by rfl):ZS X (.Expr e pos) (λY A=>pV (aI Y A) Y):=⟨Sr he.h hs⟩
def fo(q:ZT X c P)(h1:ZB X ah G)(h2:ZB X aj aK):ZS X (.If c ah aj pos) (λY A=>Zm (P Y A) (G Y) (aK Y)):=⟨aaC q.h h1.h h2.h⟩
def Qu{T:oH}(q:QG X tg T)(hT:jL T)(he:ZE X e aI)(hs:swapsWithSole [tg] e pos.line X.env=pure false:=by rfl) (hw:swappedStores [tg] e X.env=pure none:=by rfl) (h1:(assignEach [tg] X.env).map (·.2)=[assign tg X.env]:=by rfl):ZS X (.Assign [tg] e pos) (λY A=>Km T (aI Y A) Y):=⟨WI q.h hT he.h hs hw h1⟩
theorem GO{T:oH}(hi:QI X tg e L)(q:QG X tg T)(hT:jL T)(hb:ZB X ah G)(hp:PassesOwn (model X.prog X.w) X.A X.env X.xe:=by first|exact pj|exact xh) (hc:X.calm=true:=by rfl) (hs:isSet e=false:=by rfl):ZS X (.For tg e ah [] pos) (λY A=>Gq T G (gE (L Y) A) Y):=⟨WJ hi.h q.h hT hb.h hp hc hs⟩
end
def bH:ZL X [] (λ_ A=>.ok [] A):=⟨Kp⟩
def aX(q:ZE X e aI)(hr:ZL X aA aH)(hs:isStar e=false:=by rfl):ZL X (e::aA) (λY A=>Gs (aI Y A) (aH Y)):=⟨Gu q.h hr.h hs⟩
section
variable {r:V->List V->Hp->VK->Prop}{h:Nat->List Tr->Ab->Rz Tr}
def Aj(slot:Slot "list" x ay)(q:typeOf (.builtin ay)=pure (.type "method_descriptor"))(hm:MtM X ay r)(hz:WrZ X r h)(ho:ZE X o aI)(ha:ZL X (e::aA) aH)(pa:PlainAttrs "list":=by exact sH) (pH:isCall o=false:=by rfl) (cD:bx (e::aA)=true:=by rfl) (hn:(e::aA).length<30:=by decide) (fQ:(b8.endLine==p.line)=true:=by rfl):ZE X (.Call (.Attribute o x b8) (e::aA) [] p) (λY A=>mtL h (aI Y A) (aH Y)):=⟨WL slot q hm hz ho.h ha.h pa pH cD hn fQ⟩
end
def yv(h:QA X aA L):NE X (.List aA pos) (λY=>zb (L Y)):=⟨WM h.h⟩
def md:NE X (.Dict [] [] pos) (λ_=>.ok (.bW [])):=⟨Sv⟩
section
variable {a b:Expr}{es:List Expr}{N':List Str}{ix:List (Option Nat)}{T:oH}{W:bT->Rs (List Tr)}
def Tz(q:gL X N' ix ax)(hi:QI X tg am W)(lD:Dt X ax N' tg o aA T aF F)(hT:jL T)(hc:X.calm=true:=by rfl) (hs:isSet am=false:=by rfl):NE X (.ListComp o [⟨tg,am,aA,0⟩] ax pos) (λY=>vq ix T aF F (W Y) Y):=⟨aaD q hi.h lD.to hT hc hs⟩
def OF{i:Nat}(q:gL X N' ix ax)(hit:QI X tg am W)(lD:Dt X ax N' tg o aA T aF F)(hT:jL T)(hN:X.N.Nodup:=by assumption) (hc:X.calm=true:=by rfl) (hi:X.N[i]?=some x:=by rfl) (hx:Loc X.env.scope x:=by first|exact Or.inl rfl|exact Or.inr rfl) (Hy:swapsWith (.ListComp o [⟨tg,am,aA,0⟩] ax pos) (some (.Name x p)) b8.line X.env=pure true:=by rfl) (hs:isSet am=false:=by rfl) (hf:y3 X x:=by first|exact .inl rfl|exact .inr rfl|assumption):ZS X (.Assign [.Name x p] (.ListComp o [⟨tg,am,aA,0⟩] ax pos) b8) (λY A'=>AY i (uZ (vq ix T aF F (W (dm A' Y)) (dm A' Y)) A') Y):=⟨N6 q hit.h lD.to hT hN hc hi hx Hy hs hf⟩
def yw(q:gC X (.type ay) (rF X h))(hm:X.mg x=none)(ha:QA X (e::es) L)(hv:bootBuiltins x=some (.type ay):=by rfl) (hg:Gl X x:=by rfl) (hn:x≠"__name__":=by decide) (fF:Db x:=by decide) (cD:bx (e::es)=true:=by rfl):NE X (.Call (.Name x p) (e::es) [] pos) (λY=>dG h (L Y)):=⟨Kr q hm ha.h hv hg hn fF cD⟩
end
section
variable {h:List Tr->Ab->Rz Tr}{fd:FuncData}{k:Nat}
def Yb(D:zF X.K X.mg x ai ps a fd)(G:d_ X.prog X.w X.K X.mg X.base (uY X.prog X.w) k a fd ps (vC X.K h))(q:dc k X.A)(ha:ZL X (e::aA) aH)(hx:X.ex=[]:=by rfl) (hg:Gl X x:=by rfl) (fF:Db x:=by decide) (cD:bx (e::aA)=true:=by rfl):ZE X (.Call (.Name x p) (e::aA) [] pos) (λY A=>(aH Y A).bind h):=⟨Xs D G q ha.h hx hg fF cD⟩
end
section
variable {h:List Tr->Ab->Rz Tr}{fd:FuncData}{k:Nat}
def TB(D:MethAt X.K x av ai ps a fd)(G:d_ X.prog X.w X.K X.mg X.base (uY X.prog X.w) k a fd ps (vC X.K h))(q:dc k X.A)(ho:ZE X o aI)(ha:ZL X (e::aA) aH){pl:Sem Bool}(hx:X.ex=[]:=by rfl) (cD:bx (e::aA)=true:=by rfl) (ht:eval (.Call (.Attribute o av b8) (e::aA) [] pos) X.env=tK pos b8 o av (e::aA) X.env pl:=by rfl):ZE X (.Call (.Attribute o av b8) (e::aA) [] pos) (λY A=>rG x av h (aI Y A) (aH Y)):=⟨SW D G q ho.h ha.h hx cD ht⟩
def OG(D:MethAt X.K x av ai ps a fd)(G:d_ X.prog X.w X.K X.mg X.base (uY X.prog X.w) k a fd ps (vC X.K h))(q:dc k X.A)(ho:ZE X o aI){pl:Sem Bool}(hx:X.ex=[]:=by rfl) (ht:eval (.Call (.Attribute o av b8) [] [] pos) X.env=tK pos b8 o av [] X.env pl:=by rfl):ZE X (.Call (.Attribute o av b8) [] [] pos) (λY A=>rG x av h (aI Y A) λA=>.ok [] A):=⟨Ol D G q ho.h hx ht⟩
end
def iG(D:rH X.K X.mg x)(q:ZL X (e::aA) aH)(hx:X.ex=[]:=by rfl) (hc:X.calm=true:=by rfl) (hg:Gl X x:=by rfl) (fF:Db x:=by decide) (cD:bx (e::aA)=true:=by rfl):ZS X (.Raise (some (.Call (.Name x p) (e::aA) [] b8)) none pos) (λY A=>EY x (aH Y A)):=⟨Oo D q.h hx hc hg fF cD⟩
theorem dq(T:iV X.K ps x)(he:QE X e F)(hb:attributeBase e x X.env (eval e X.env)=eval e X.env:=by first|exact gq rfl|rfl):QE X (.Attribute e x pos) (λY=>(F Y).bind (jY ps x)):=⟨SX T he.h hb⟩
theorem me(T:iV X.K ps x)(he:ZE X e aJ)(hb:attributeBase e x X.env (eval e X.env)=eval e X.env:=by first|exact gq rfl|rfl):ZE X (.Attribute e x pos) (λY A=>um ps x (aJ Y A)):=⟨SY T he.h hb⟩
def qa(T:iV X.K ps x)(q:ZE X o aJ)(hv:ZE X tg aI):ZS X (.Assign [.Attribute o x p] tg pos) (λY A=>Xu ps x (aI Y A) (aJ Y) Y):=⟨Xv T q.h hv.h⟩
section
variable {b i:Expr}{E:bT->Ab->Rz Tr}
def uq(q:X.A.units+1<cLine)(h1:ZE X e aI)(h2:ZE X b aJ)(hs:tW b:=by exact λ_ _=>rfl):ZE X (.Subscript e b pos) (λY A=>Ot jX (aI Y A) (aJ Y)):=⟨aaP q h1.h h2.h hs⟩
def hW(q:X.A.units+1<cLine)(ho:ZE X o aI)(hi:ZE X i aJ)(hv:ZE X tg E):ZS X (.Assign [.Subscript o i p] tg pos) (λY A=>S0 (E Y A) (aI Y) (aJ Y) Y):=⟨S1 q ho.h hi.h hv.h⟩
end
section
variable {E:bT->Ab->Rz Tr}
def Lp(q:ZE X o aI)(he:ZE X e aJ)(hb:isCall o=false:=by rfl) (cD:bx [e]=true:=by rfl) (hl:(b8.endLine==p.line)=true:=by rfl):ZE X (.Call (.Attribute o "pop" b8) [e] [] p) (λY A=>KZ (aI Y A) (aJ Y)):=⟨S2 q.h he.h hb cD hl⟩
def TC(q:ZE X o aI)(he:ZE X e aJ)(hf:ZE X tg E)(hb:isCall o=false:=by rfl) (cD:bx [e,tg]=true:=by rfl) (hl:(b8.endLine==p.line)=true:=by rfl):ZE X (.Call (.Attribute o "pop" b8) [e,tg] [] p) (λY A=>K1 (aI Y A) (aJ Y) (E Y)):=⟨S4 q.h he.h hf.h hb cD hl⟩
end
section
variable {E:bT->Ab->Rz Tr}{c:Str}{h:List Tr->Ab->Rz Tr}{fd:FuncData}{k:Nat}
def TF(D:yl X.K X.mg c ps a fd)(aJ:d_ X.prog X.w X.K X.mg X.base (uY X.prog X.w) k a fd ps (vC X.K h))(q:dc (k+1) X.A)(ha:ZL X (e::aA) aH)(hx:X.ex=[]:=by rfl) (hg:Gl X c:=by rfl) (fF:Db c:=by decide) (cD:bx (e::aA)=true:=by rfl):ZE X (.Call (.Name c p) (e::aA) [] pos) (λY A=>yk c h (aH Y A)):=⟨S5 D aJ q ha.h hx hg fF cD⟩
def OH(D:yl X.K X.mg c ps a fd)(aJ:d_ X.prog X.w X.K X.mg X.base (uY X.prog X.w) k a fd ps (vC X.K h))(q:dc (k+1) X.A)(hx:X.ex=[]:=by rfl) (hg:Gl X c:=by rfl) (fF:Db c:=by decide):ZE X (.Call (.Name c p) [] [] pos) (λ_ A=>yk c h (.ok [] A)):=⟨Ou D aJ q hx hg fF⟩
end
section
variable {b:Expr}{es:List Expr}{N':List Str}{ix:List (Option Nat)}{T:oH}
def Lq{i:Nat}(q:gL X N' ix ax)(hit:QJ X tg o L)(lD:Dt X ax N' tg e aA T aF F)(hT:jL T)(hN:X.N.Nodup:=by assumption) (hc:X.calm=true:=by rfl) (hi:X.N[i]?=some x:=by rfl) (hx:Loc X.env.scope x:=by first|exact Or.inl rfl|exact Or.inr rfl) (Hy:swapsWith (.ListComp e [⟨tg,o,aA,0⟩] ax pos) (some (.Name x p)) b8.line X.env=pure true:=by rfl) (hs:isSet o=false:=by rfl) (hf:y3 X x:=by first|exact .inl rfl|exact .inr rfl|assumption):ZS X (.Assign [.Name x p] (.ListComp e [⟨tg,o,aA,0⟩] ax pos) b8) (λY A'=>AY i (uZ (vq ix T aF F (L (dm A' Y)) (dm A' Y)) A') Y):=⟨K6 q hit.h lD.to hT hN hc hi hx Hy hs hf⟩
end
section
variable {P:bT->Ab->Rz Bool}{hp:Pos}{G2:bT->Ab->Rz Out}
def Lr(h:ZE X e aI)(he:mR e=true:=by rfl):ZT X e (λY A=>S8 (aI Y A)):=⟨S9 h.h he⟩
def Ls(h:ZT X e P):ZT X (.UnaryOp .Not e pos) (λY A=>S_ (P Y A)):=⟨eq_not h.h⟩
end
section
variable {P:bT->Ab->Rz Bool}{hp:Pos}{abE:Stmt}{G2:bT->Ab->Rz Out}
def Lu:QE X e (λ_=>.bad):=⟨XI⟩
def Yc:QS X ai (λ_=>.bad):=⟨XJ⟩
end
section
variable {p2:Pos}{c:Str}{tab:List (Str×Bool)}{cv:V}
def mf(T:iW X.K (.ref (clsAt X.K c)) tab)(hm:X.mg c=some (.ref (clsAt X.K c)))(hi:X.mg "isinstance"=none)(he:QE X e F)(q:Gl X c:=by rfl) (K_:Gl X "isinstance":=by rfl) (fF:Db c:=by decide) (cD:bx [e,.Name c p2]=true:=by rfl):QE X (.Call (.Name "isinstance" p) [e,.Name c p2] [] pos) (λY=>(F Y).bind (Iw tab)):=⟨Tb T hm hi he.h q K_ fF cD⟩
def TH(T:iW X.K (.type ay) tab)(hm:X.mg c=none)(hi:X.mg "isinstance"=none)(he:QE X e F)(q:bootBuiltins c=some (.type ay):=by rfl) (hg:Gl X c:=by rfl) (hn:c≠"__name__":=by decide) (K_:Gl X "isinstance":=by rfl) (fF:Db c:=by decide) (cD:bx [e,.Name c p2]=true:=by rfl):QE X (.Call (.Name "isinstance" p) [e,.Name c p2] [] pos) (λY=>(F Y).bind (Iw tab)):=⟨Td T hm hi he.h q hg hn K_ fF cD⟩
end
def Yd(q:ZE X o aI)(he:ZE X e aJ)(hb:isCall o=false:=by rfl) (cD:bx [e]=true:=by rfl) (hl:(b8.endLine==p.line)=true:=by rfl):ZE X (.Call (.Attribute o "update" b8) [e] [] p) (λY A=>XN (aI Y A) (aJ Y)):=⟨XO q.h he.h hb cD hl⟩
section
variable {fd:FuncData}{k:Nat}{kp:Pos}{O:bT->Rs Tr}
def Lv(D:MethAt X.K x av ai ps a fd)(q:Ac X.K a)(G:d_ X.prog X.w X.K X.mg X.base mq k a fd ps (spT X.K h))(hr:dc (k+1) X.A)(hm:X.mg "min"=none)(hl:QE X e F)(ho:QE X o O)(hc:X.calm=true:=by rfl) (hg:Gl X "min":=by rfl) (cD:bx [e]=true:=by rfl) (hb:isCall o=false:=by rfl) (Tj:PySem.W.copiedNames.contains av=false:=by decide+kernel):QE X (.Call (.Name "min" p) [e] [⟨some "key",.Attribute o av b8,kp⟩] pos) (λY=>GI x av h (F Y) (O Y)):=⟨Lf D q G hr hm hl.h ho.h hc hg cD hb Tj⟩
end
section
variable {P1 P2:bT->Rs (Option Int)}{lo hi:Option Expr}
def vH(he:QE X e F)(q:QO X lo P1)(hu:QO X hi P2):QE X (.Subscript e (.Slice lo hi none p) pos) (λY=>vU (F Y) (P1 Y) (P2 Y)):=⟨X1 he.h q.h hu.h⟩
end
section
variable {dD:Pos}
def Lw(hs:X.mg "sorted"=none)(q:QE X o F)(hc:X.calm=true:=by rfl) (hg:Gl X "sorted":=by rfl) (hb:isCall o=false:=by rfl) (fQ:(b8.endLine==dD.line)=true:=by rfl):QE X (.Call (.Name "sorted" p) [.Call (.Attribute o "items" b8) [] [] dD] [] pos) (λY=>(F Y).bind we):=⟨Lj hs q.h hc hg hb fQ⟩
end
def Br{keys:List (Option Expr)}{P:bT->Rs (List (Tr×Tr))}(q:QE X e F)(hv:QE X o G)(hr:QP X pos keys aA P):QP X pos (some e::keys) (o::aA) λY=>P5 (F Y) (G Y) (P Y):=N1 q.h hv.h hr
def y4.okQ {base:Heap}{qual:Str}{st:Stmt}{f:Addr}{fd:FuncData}{N:List Str}{k:Nat}(Fn:y4 K x qual st f fd)(S:g6 N ps (bF st))(len:∀ts t,h ts=.ok t->ts.length=ps.length)
  (kQ:∀(fO:Value) (A:Around) (outer:List Env) (s:Shared) (H:Hp) (E:XK),dc k (A.deeper (envOfC qual (bF st) s.heap.objs.size f fO))->
   ∃G,QB (oG mq P w K mg base N qual (bF st) f fO A outer s H E).Jf (fM st) G/\∀ts t,h ts=.ok t->dH (G (startT N.length ts))=.ok t):d_ P w K mg base mq (k+1) f fd ps (spT K h):=
 Fn.okT S len λfO A outer s H E b=>let⟨G,h,q⟩:=kQ fO A outer s H E b;⟨G,h.h,q⟩
def y4.aaU {base:Heap}{qual:Str}{st:Stmt}{f:Addr}{fd:FuncData}{N:List Str}{k:Nat}(Fn:y4 K x qual st f fd)(S:g6 N ps (bF st))(len:∀ts t,h ts=.ok t->ts.length=ps.length)
  (kQ:∀(fO:Value) (A:Around) (outer:List Env) (s:Shared) (H:Hp) (E:XK),dc k (A.deeper (envOfC qual (bF st) s.heap.objs.size f fO))->
   ∃G,ZB (oG mq P w K mg base N qual (bF st) f fO A outer s H E).Jf (fM st) G/\∀ts t,h ts=.ok t->jz ts=true/\x6 (G (startT N.length ts) [])=.ok t):d_ P w K mg base mq (k+1) f fd ps (spT K h):=
 Fn.okZ S len λfO A outer s H E b=>let⟨G,h,q⟩:=kQ fO A outer s H E b;⟨G,h.h,q⟩
def nO{keys:List (Option Expr)}{P:bT->Ab->Rz (List (Tr×Tr))}(q:ZE X e aI)(hv:ZE X o aJ)(hr:S7 X pos keys aA P):S7 X pos (some e::keys) (o::aA) λY A=>Qo (aI Y A) (aJ Y) (P Y):=K5 q.h hv.h hr
def Lx{keys:List (Option Expr)}{P:bT->Ab->Rz (List (Tr×Tr))}(h:S7 X pos keys aA P)(q:keys.all (·.isSome)=true:=by rfl) (hl:keys.length=aA.length:=by rfl) (h0:keys.isEmpty=false:=by rfl) (Nr:keys.length<=15:=by decide):ZE X (.Dict keys aA pos) (λY A=>XG (P Y) A):=⟨Ox h q hl h0 Nr⟩
structure JQ(X:Cx)(es:List Expr)(J:bT->Str->Rs Tr):Prop where
 h:PJ X es J
def qd:JQ X [] λ_ acc=>Be acc:=⟨Xf⟩
def dE{J:bT->Str->Rs Tr}(h:QE X e F)(q:JQ X aA J):JQ X (e::aA) λY acc=>mX (F Y) (J Y) acc:=⟨SM h.h q.h⟩
def kW{J:bT->Str->Rs Tr}(h:JQ X (e::o::aA) J):QE X (.JoinedStr (e::o::aA) pos) (λY=>J Y Str.empty):=⟨Of h.h⟩
def OI{c n:Str}{G2:bT->Ab->Rz Out}(Tc:qR X.K X.mg c ps)(hb:∀pn q,ZB (X.kU pn q) ah aK)(hs:∀pn e,ZB (X.pZ pn e) (ai::aj) G2)(hN:X.N.Nodup)(hi:X.N[i]?=some n:=by rfl) (hl:X.env.scope.names.lookup n=some .local:=by rfl)
  (cD:X.stack=X.env::X.outer:=by rfl) (hf:X.env.frame=some X.env.locals:=by rfl) (hx:X.ex=[]:=by rfl) (MY:y3 X n:=by exact .inl rfl) (hg:Gl X c:=by rfl) (fF:Db c:=by decide):
  ZS X (.Try ah [.ExceptHandler (some (.Name c p)) (some n) (ai::aj) b8] [] [] pos) (λY A=>E1 X.N.length i ps (aK Y A) G2):=⟨K3 Tc (λpn q=>(hb pn q).h) (λpn e=>(hs pn e).h) hN hi hl cD hf hx MY hg fF⟩
def y4.aaV {base:Heap}{qual:Str}{st:Stmt}{f:Addr}{fd:FuncData}{N:List Str}{k:Nat}{h:List Tr->Ab->Rz Tr}(Fn:y4 K x qual st f fd)(S:g6 N ps (bF st))(len:∀ts A,h ts A≠ .bad->ts.length=ps.length)
  (kQ:∀(fO:Value) (A:Around) (outer:List Env) (s:Shared) (H:Hp) (E:XK),dc k (A.deeper (envOfC qual (bF st) s.heap.objs.size f fO))->
   ∃G,ZB (oG (uY P w) P w K mg base N qual (bF st) f fO A outer s H E) (fM st) G/\∀ts A,h ts A≠ .bad->h ts A=cI (G (startT N.length ts) A)):d_ P w K mg base (uY P w) (k+1) f fd ps (vC K h):=
 Fn.okS S len λfO A outer s H E b=>let⟨G,h,q⟩:=kQ fO A outer s H E b;⟨G,h.h,q⟩
noncomputable def Ly(K:Frag)(D:Addr):Bool:=decide (findIn K (.ref D) "__getattribute__"=some (some (.builtin "BaseException.__getattribute__")))&&(decide (findIn K (.ref D) "__getattr__"=some none)&&(decide (findIn K (.ref D) "__class__"=some (some (.builtin "object.__class__")))&&(decide (mroIn K D (.type "object")=some true)&&decide (mroIn K D (.type "BaseException")=some true))))
def OJ{K:Frag}{D:Addr}(h:Ly K D=true):Bk K D:=by
 unfold Ly at h;rw[bU,bU,bU,bU]at h;exact⟨eK h.1,eK h.2.1,eK h.2.2.1,eK h.2.2.2.1,eK h.2.2.2.2⟩
def Ye(K:Frag)(u:Value)(tab:List (Str×Bool)):Bool:=tab.all λp=>decide (kitOne K (.ref (clsAt K p.1)) u=some p.2)
def Yf(K:Frag)(xs:List Str):Bool:=xs.all λx=>Ly K (clsAt K x)&&(clsIn K (clsAt K x)).isSome
theorem i_{α:Type}{z:Str}:∀{l:List (Str×α)} {a:α},l.lookup z=some a->(z,a)∈l
 |[],_,h=>by cases h
 |(y,b)::l,a,h=>by
  rw[cK]at h;cases e:(z==y)with
  |true=>rw[e]at h;cases h;rw[eq_of_beq e];exact cz ..
  |false=>rw[e]at h;exact ck _ (i_ h)
def TJ{K:Frag}{tab:List (Str×Bool)}{xs:List Str}(h:Ye K af tab=true)(q:Yf K xs=true)(e:tab.map (·.1)=xs):iW K af tab:=⟨λx b g=>by
 have m:=i_ g;have l:=eK (dz.mp h _ m);have n:x∈xs:=by rw[<-e];exact gf m
 have h2:=dz.mp q x n;rw[bU]at h2;exact⟨l,OJ h2.1,h2.2⟩⟩
def Yg(K:Frag)(c:Str)(xs:List Str):Bool:=xs.all λx=>decide (exmOne K (.ref (clsAt K x)) (.ref (clsAt K c))=some true)
def Lz{K:Frag}{xs:List Str}(m:mg av=some (.ref (clsAt K av)))(h:Yg K av xs=true):qR K mg av xs:=⟨m,λx b=>eK (dz.mp h x b)⟩
theorem Yh{P:List Value->Prop}(h:P []):∀us:List Value,us.length=0->P us
 |[],_=>h
theorem Yi{P:List Value->Prop}(h:∀a us,us.length=i->P (a::us)):∀us:List Value,us.length=i+1->P us
 |a::us,e=>h a us (Nat.succ.inj e)
def Yj{P:List Value->Prop}(h:∀a,P [a]):∀us:List Value,us.length=1->P us:=Yi λa=>Yh (P:=λl=>P (a::l)) (h a)
def Yk{P:List Value->Prop}(h:∀a b,P [a,b]):∀us:List Value,us.length=2->P us:=Yi λa=>Yj (P:=λl=>P (a::l)) (h a)
def Yl{P:List Value->Prop}(h:∀a b c,P [a,b,c]):∀us:List Value,us.length=3->P us:=Yi λa=>Yk (P:=λl=>P (a::l)) (h a)
def Ym{P:List Value->Prop}(h:∀a b c d,P [a,b,c,d]):∀us:List Value,us.length=4->P us:=Yi λa=>Yl (P:=λl=>P (a::l)) (h a)
def ZG{P:List Value->Prop}(h:∀a b c d e,P [a,b,c,d,e]):∀us:List Value,us.length=5->P us:=Yi λa=>Ym (P:=λl=>P (a::l)) (h a)
section
variable {K:Frag}{f:Str}{C:Addr}
noncomputable def OK(K:Frag)(C:Addr):Bool:=plainGet K C Str.empty&&(hasDictIn K C&&(plainOver K C&&decide (findIn K (.ref C) "__setattr__"=some (some (.builtin "object.__setattr__")))))
def LA(h:OK K C=true):Ei K C:=by
 unfold OK at h;rw[bU,bU,bU]at h;exact⟨h.1,h.2.1,h.2.2.1,eK h.2.2.2⟩
def aaW(K:Frag)(C:Addr)(fs:List Str):Bool:=fs.all λf=>decide (findIn K (.ref C) f=some none)
end
def EG.gk {K:Frag}{bB:List (Str×Tr)}{ep:Nat}(h:EG K w es kvs bB)(hm:mg x=some (.ref a))(q:K.lookup a=some ⟨.type "dict",none,.dict es.toArray ep,#[]⟩) (hs:(a==sysModules)=false) (hn:(kvs.map (·.1)).Nodup) (hz:∀z∈kvs.map (·.1),z.length<=cY):Bl K w mg x (kvs.map (·.1)):=
 ⟨a,kvs,hm,⟨hs,_,_,_,q,⟨rfl,rfl,rfl⟩,rfl,λprog=>⟨λe he=>h.keys prog e (by simpa using he),h.pairs prog,hn⟩⟩,rfl,hz⟩
structure Df where
 c:Option Str
 x:Str
 q:Str
 st:Stmt
 ps:List Str
def mtA(K:Frag)(c m:Str):Addr:=match findIn K (.ref (clsAt K c)) m with
 |some (some (.ref a))=>a
 |_=>0
noncomputable def fdA(K:Frag)(a:Addr):FuncData:=match K.lookup a with
 |some ⟨_,_,.func d,_⟩=>d
 |_=>default
noncomputable def isF(K:Frag)(a:Addr):Bool:=match K.lookup a with
 |some ⟨_,_,.func _,_⟩=>true
 |_=>false
def TK{K:Frag}(h:isF K a=true):∃q od JL,K.lookup a=some ⟨q,od,.func (fdA K a),JL⟩:=by
 unfold isF at h;unfold fdA;split at h
 ·rename_i e;rw[e];exact⟨_,_,_,rfl⟩
 ·cases h
namespace Df
def adr(K:Frag)(d:Df):Addr:=match d.c with
 |none=>clsAt K d.x
 |some c=>mtA K c d.x
def fd(K:Frag)(d:Df):FuncData:=fdA K (d.adr K)
def re(d:Df)(f:FuncData):FuncData:=fnOf d.x d.q (v9 d.st) (fM d.st) (bF d.st) .none f.kwdefaults f.doc f.pyModule f.annotations f.code f.closureTuple
def isAt(K:Frag)(d:Df):Bool:=match d.c with
 |none=>decide (nsIn K mainGlobals d.x=some (some (.ref (d.adr K))))
 |some c=>decide (findIn K (.ref (clsAt K c)) d.x=some (some (.ref (d.adr K))))&&(isFn K (.ref (d.adr K))&&OK K (clsAt K c))
def Qv(K:Frag)(d:Df):Bool:=isF K (d.adr K)&&(codeIn K (d.fd K).code d.q&&(keepIn K (.ref (d.adr K))&&d.isAt K))
structure Ok(K:Frag)(mg:Str->Option Value)(d:Df):Prop where
 fn:y4 K d.x d.q d.st (d.adr K) (d.fd K)
 m0:d.c=none->mg d.x=some (.ref (d.adr K))
 m1:∀c,d.c=some c->Meth K (clsAt K c) d.x (d.adr K)/\Ei K (clsAt K c)
def of{K:Frag}{d:Df}(X:K.In aa)(G:aa.Ns mainGlobals mg)(e:d.fd K=d.re (d.fd K))(k:d.Qv K=true):d.Ok K mg:=by
 unfold Qv at k;rw[bU,bU,bU]at k;obtain⟨k1,k2,k3,b⟩:=k;obtain⟨g,od,JL,l⟩:=TK k1;refine⟨⟨⟨g,od,_,_,_,_,_,_,JL,e,l,k2⟩,k3⟩,λz=>?_,λc z=>?_⟩<;>unfold isAt at b<;>rw[z]at b
 ·exact mg_of X G (eK b)
 ·rw[bU,bU]at b;exact⟨⟨eK b.1,b.2.1,k3⟩,LA b.2.2⟩
end Df
theorem LB{K:Frag}{h:Heap}(X:K.In h)(G:h.Ns mainGlobals mg):∀{ds:List Df},ds.map (Df.fd K)=ds.map (λd=>d.re (d.fd K))->ds.all (Df.Qv K)=true->∀d∈ds,d.Ok K mg
 |[],_,_,d,m=>nomatch m
 |a::ds,e,k,d,m=>by
  rw[iz,bU]at k;rw[bL,bL]at e;injection e with b g
  rcases bE.mp m with rfl|m
  ·exact Df.of X G b k.1
  ·exact LB X G g k.2 d m
section
variable {K:Frag}{d:Df}{N:List Str}{k:Nat}
structure yx(P:Program)(w:World)(K:Frag)(mg:Str->Option Value)(aa:Heap)(CX:Ce)(i:Nat)(d:Df)(sp:Sp):Prop where
 ok:d_ P w K mg aa CX i (d.adr K) (d.fd K) d.ps sp
 bd:Binds K (d.fd K) d.ps []
 df:d.Ok K mg
abbrev ZH(d:Df):Prop:=∀(kV doc pm:Value) (an:Option Addr) (fO ct:Value) (us:List Value),us.length=d.ps.length->bindArgs (fnOf d.x d.q (v9 d.st) (fM d.st) (bF d.st) .none kV doc pm an fO ct) ⟨us,[]⟩=pure (d.ps.zip us)
abbrev cxD(CX:Ce)(P:Program)(w:World)(K:Frag)(mg:Str->Option Value)(aa:Heap)(N:List Str)(d:Df):=oG CX P w K mg aa N d.q (bF d.st) (d.adr K)
abbrev LC(K:Frag)(d:Df)(k:Nat)(fO:Value)(A:Around)(s:Shared):Prop:=dc k (A.deeper (envOfC d.q (bF d.st) s.heap.objs.size (d.adr K) fO))
def gP(N:List Str){a b:Nat}(D:d.Ok K mg)(hb:N.Nodup->∀q A outer s H E,LC K d k q A s->ZB (cxD (uY P w) P w K mg aa N d q A outer s H E) (fM d.st) aK)(S:g6 N d.ps (bF d.st):=by exact⟨rfl,rfl,rfl,by decide+kernel,rfl,by decide+kernel,by decide+kernel⟩) (B:ZH d:=by exact λ_ _ _ _ _ _=>by first|exact Yh rfl|exact Yj λ_=>rfl|exact Yk λ_ _=>rfl|exact Yl λ_ _ _=>rfl|exact Ym λ_ _ _ _=>rfl|exact ZG λ_ _ _ _ _=>rfl) (ha:d.ps.length=a:=by rfl) (hn:N.length=b:=by rfl):
  yx P w K mg aa (uY P w) (k+1) d (vC K (fA a b aK)):=by
 subst ha;subst hn;exact⟨y4.aaV D.fn S (λts A e=>Dc e) λq A outer s H E g=>⟨aK,hb S.nd q A outer s H E g,λts A e=>Oj e⟩,D.fn.binds B,D⟩
def jO(N:List Str){a b:Nat}{G:bT->Rs Out}(D:d.Ok K mg)(hb:N.Nodup->∀q A outer s H E,LC K d k q A s->QB (cxD mq P w K mg aa N d q A outer s H E).Jf (fM d.st) G)(S:g6 N d.ps (bF d.st):=by exact⟨rfl,rfl,rfl,by decide+kernel,rfl,by decide+kernel,by decide+kernel⟩) (B:ZH d:=by exact λ_ _ _ _ _ _=>by first|exact Yh rfl|exact Yj λ_=>rfl|exact Yk λ_ _=>rfl|exact Yl λ_ _ _=>rfl|exact Ym λ_ _ _ _=>rfl|exact ZG λ_ _ _ _ _=>rfl) (ha:d.ps.length=a:=by rfl) (hn:N.length=b:=by rfl):
  yx P w K mg aa mq (k+1) d (spT K (rD a b G)):=by
 subst ha;subst hn;exact⟨y4.okQ D.fn S (λts t e=>NZ e) λq A outer s H E g=>⟨G,hb S.nd q A outer s H E g,λts t e=>Sb e⟩,D.fn.binds B,D⟩
def aaX(N:List Str){a b:Nat}(D:d.Ok K mg)(hb:N.Nodup->∀q A outer s H E,LC K d k q A s->ZB (cxD mq P w K mg aa N d q A outer s H E).Jf (fM d.st) aK)(S:g6 N d.ps (bF d.st):=by exact⟨rfl,rfl,rfl,by decide+kernel,rfl,by decide+kernel,by decide+kernel⟩) (B:ZH d:=by exact λ_ _ _ _ _ _=>by first|exact Yh rfl|exact Yj λ_=>rfl|exact Yk λ_ _=>rfl|exact Yl λ_ _ _=>rfl|exact Ym λ_ _ _ _=>rfl|exact ZG λ_ _ _ _ _=>rfl) (ha:d.ps.length=a:=by rfl) (hn:N.length=b:=by rfl):
  yx P w K mg aa mq (k+1) d (spT K (CM a b aK)):=by
 subst ha;subst hn;exact⟨y4.aaU D.fn S (λts t e=>Kq e) λq A outer s H E g=>⟨aK,hb S.nd q A outer s H E g,λts t e=>N5 e⟩,D.fn.binds B,D⟩
def aaY(D:d.Ok K mg)(B:ZH d:=by exact λ_ _ _ _ _ _=>by first|exact Yh rfl|exact Yj λ_=>rfl|exact Yk λ_ _=>rfl|exact Yl λ_ _ _=>rfl|exact Ym λ_ _ _ _=>rfl|exact ZG λ_ _ _ _ _=>rfl):yx P w K mg aa mq k d (spT K λ_=>.bad):=
 ⟨⟨λvs H Q E ⟨_,ts,_,_,t,e,_⟩=>(nomatch e),λA outer s H args us vs Q E _ _ _ _ ⟨_,ts,_,_,t,e,_⟩=>(nomatch e)⟩,D.fn.binds B,D⟩
theorem yx.toZ (C:yx P w K mg aa mq i d (spT K h)):yx P w K mg aa (uY P w) i d (vC K λts A=>gE (h ts) A):=⟨C.ok.toZ,C.bd,C.df⟩
def yx.da {CX:Ce}{sp:Sp}(C:yx P w K mg aa CX i d sp)(hc:d.c=none)(hx:d.x=x)(hq:d.q=x):zF K mg x d.st d.ps (d.adr K) (d.fd K):=
 ⟨by have f:=C.df.fn;rw[hx,hq]at f;exact f,C.bd,by have m:=C.df.m0 hc;rw[hx]at m;exact m⟩
def yx.ma {CX:Ce}{sp:Sp}{c m:Str}(C:yx P w K mg aa CX i d sp)(hc:d.c=some c)(hx:d.x=m):MethAt K c m d.st d.ps (d.adr K) (d.fd K):=
 ⟨⟨d.q,by have f:=C.df.fn;rw[hx]at f;exact f⟩,C.bd,by have m:=(C.df.m1 c hc).1;rw[hx]at m;exact m,(C.df.m1 c hc).2⟩
structure IG(K:Frag)(mg:Str->Option Value)(c:Str):Prop where
 m:makesIn K (clsAt K c)=true
 k:keepIn K (.ref (clsAt K c))=true
 g:mg c=some (.ref (clsAt K c))
def yx.mk' {CX:Ce}{sp:Sp}{c:Str}(C:yx P w K mg aa CX i d sp)(M:IG K mg c)(q:d.c=some c)(hx:d.x="__init__"):yl K mg c d.ps (d.adr K) (d.fd K):=
 ⟨by have m:=(C.df.m1 c q).1;rw[hx]at m;exact⟨M.m,m.at_,m.fn,M.k⟩,C.bd,M.g⟩
end
section
variable {d:Df}{k:Nat}{kp:Pos}{c m:Str}
section
variable {O:bT->Rs Tr}(C:yx X.prog X.w X.K X.mg X.base mq i d (spT X.K h))
include C
theorem eE(hr:dc k X.A)(ha:QA X (e::aA) L)(hn:i<=k:=by first|decide|omega) (hc:d.c=none:=by rfl) (hx:d.x=x:=by rfl) (hq:d.q=x:=by rfl) (hg:Gl X x:=by rfl) (fF:Db x:=by decide) (cD:bx (e::aA)=true:=by rfl):QE X (.Call (.Name x p) (e::aA) [] pos) (λY=>dG h (L Y)):=
 X6 (C.da hc hx hq) (C.ok.mono hn) hr ha hg fF cD
theorem jP(q:dc k X.A)(ho:QE X o F)(ha:QA X (e::aA) L)(hn:i<=k:=by first|decide|omega) (hc:d.c=some c:=by rfl) (hx:d.x=m:=by rfl) {pl:Sem Bool} (cD:bx (e::aA)=true:=by rfl) (ht:eval (.Call (.Attribute o m b8) (e::aA) [] pos) X.env=tK pos b8 o m (e::aA) X.env pl:=by rfl):QE X (.Call (.Attribute o m b8) (e::aA) [] pos) (λY=>vB c m h (F Y) (L Y)):=
 Tu (C.ma hc hx) (C.ok.mono hn) q ho ha cD ht
theorem qT(q:dc k X.A)(ho:QE X o F)(hn:i<=k:=by first|decide|omega) (hc:d.c=some c:=by rfl) (hx:d.x=m:=by rfl) {pl:Sem Bool} (ht:eval (.Call (.Attribute o m b8) [] [] pos) X.env=tK pos b8 o m [] X.env pl:=by rfl):QE X (.Call (.Attribute o m b8) [] [] pos) (λY=>vB c m h (F Y) (.ok [])):=
 OE (C.ma hc hx) (C.ok.mono hn) q ho ht
theorem LD(q:Ac X.K (d.adr X.K))(hr:dc (k+1) X.A)(hm:X.mg "min"=none)(hl:QE X tg F)(ho:QE X o O)(hn:i<=k:=by first|decide|omega) (hc:d.c=some c:=by rfl) (hx:d.x=m:=by rfl) (ca:X.calm=true:=by rfl) (hg:Gl X "min":=by rfl) (cD:bx [tg]=true:=by rfl) (hb:isCall o=false:=by rfl) (Tj:PySem.W.copiedNames.contains m=false:=by decide+kernel):
  QE X (.Call (.Name "min" p) [tg] [⟨some "key",.Attribute o m b8,kp⟩] pos) (λY=>GI c m h (F Y) (O Y)):=
 Lv (C.ma hc hx) q (C.ok.mono hn) hr hm hl ho ca hg cD hb Tj
end
section
variable {F:bT->Ab->Rz Tr}{L:bT->Ab->Rz (List Tr)}{h:List Tr->Ab->Rz Tr}(C:yx X.prog X.w X.K X.mg X.base (uY X.prog X.w) i d (vC X.K h))
include C
theorem gQ(hr:dc k X.A)(ha:ZL X (e::aA) L)(hn:i<=k:=by first|decide|omega) (hc:d.c=none:=by rfl) (hx:d.x=x:=by rfl) (hq:d.q=x:=by rfl) (he:X.ex=[]:=by rfl) (hg:Gl X x:=by rfl) (fF:Db x:=by decide) (cD:bx (e::aA)=true:=by rfl):ZE X (.Call (.Name x p) (e::aA) [] pos) (λY A=>(L Y A).bind h):=
 Yb (C.da hc hx hq) (C.ok.mono hn) hr ha he hg fF cD
theorem dk(q:dc k X.A)(ho:ZE X o F)(ha:ZL X (e::aA) L)(hn:i<=k:=by first|decide|omega) (hc:d.c=some c:=by rfl) (hx:d.x=m:=by rfl) {pl:Sem Bool} (he:X.ex=[]:=by rfl) (cD:bx (e::aA)=true:=by rfl) (ht:eval (.Call (.Attribute o m b8) (e::aA) [] pos) X.env=tK pos b8 o m (e::aA) X.env pl:=by rfl):ZE X (.Call (.Attribute o m b8) (e::aA) [] pos) (λY A=>rG c m h (F Y A) (L Y)):=
 TB (C.ma hc hx) (C.ok.mono hn) q ho ha he cD ht
theorem Bs(q:dc k X.A)(ho:ZE X o F)(hn:i<=k:=by first|decide|omega) (hc:d.c=some c:=by rfl) (hx:d.x=m:=by rfl) {pl:Sem Bool} (he:X.ex=[]:=by rfl) (ht:eval (.Call (.Attribute o m b8) [] [] pos) X.env=tK pos b8 o m [] X.env pl:=by rfl):ZE X (.Call (.Attribute o m b8) [] [] pos) (λY A=>rG c m h (F Y A) λA=>.ok [] A):=
 OG (C.ma hc hx) (C.ok.mono hn) q ho he ht
theorem TL(M:IG X.K X.mg c)(q:dc (k+1) X.A)(ha:ZL X (e::aA) L)(hn:i<=k:=by first|decide|omega) (hc:d.c=some c:=by rfl) (hx:d.x="__init__":=by rfl) (he:X.ex=[]:=by rfl) (hg:Gl X c:=by rfl) (fF:Db c:=by decide) (cD:bx (e::aA)=true:=by rfl):ZE X (.Call (.Name c p) (e::aA) [] pos) (λY A=>yk c h (L Y A)):=
 TF (C.mk' M hc hx) (C.ok.mono hn) q ha he hg fF cD
theorem OL(M:IG X.K X.mg c)(q:dc (k+1) X.A)(hn:i<=k:=by first|decide|omega) (hc:d.c=some c:=by rfl) (hx:d.x="__init__":=by rfl) (he:X.ex=[]:=by rfl) (hg:Gl X c:=by rfl) (fF:Db c:=by decide):ZE X (.Call (.Name c p) [] [] pos) (λ_ A=>yk c h (.ok [] A)):=
 OH (C.mk' M hc hx) (C.ok.mono hn) q he hg fF
end
end
def TM(nn:Nat){c n:Str}{i:Nat}{G2:bT->Ab->Rz Out}(Tc:qR X.K X.mg c ps)(hb:∀pn E',ZB (X.kU pn E') ah aK)(hs:∀pn e,ZB (X.pZ pn e) (ai::aj) G2)(hN:X.N.Nodup)(hi:X.N[i]?=some n:=by rfl) (hl:X.env.scope.names.lookup n=some .local:=by rfl)
  (cD:X.stack=X.env::X.outer:=by rfl) (hf:X.env.frame=some X.env.locals:=by rfl) (hx:X.ex=[]:=by rfl) (MY:y3 X n:=by exact .inl rfl) (hg:Gl X c:=by rfl) (q:X.N.length=nn:=by rfl) (fF:Db c:=by decide):
  ZS X (.Try ah [.ExceptHandler (some (.Name c p)) (some n) (ai::aj) b8] [] [] pos) (λY A=>E1 nn i ps (aK Y A) G2):=by
 subst q;exact OI Tc hb hs hN hi hl cD hf hx MY hg fF
def LF(r:Rs Tr):Rs (List Tr):=match r with
 |.ok (.lst ts)=>if mT ts=true then .ok ts else .bad
 |_=>.bad
def GP:Tr->Tr->Rs Tr
 |.lst a,.lst b=>if a.length+b.length<=eM then .ok (.lst (a++b))else .bad
 |_,_=>.bad
section
variable {b:Expr}{T:oH}
inductive tIn(X:Cx)(W:bT->Ab->Rs (List Tr))(Z:St)(H:Hp)(R:It->Hp->Prop):Prop
 |mk (B:fg) (A:Ab) (Y:bT):HA X.K B A H->cF X.K B H Z Y->fI Y->(Fi X H (W Y A) fun ts=>∀J H',bf H H'->lP X.K B J H' ts->R J H')->tIn X W Z H R
theorem Yn(h:PE X e (tF X F)):PI X tg e (tIn X λY A=>LF (F (dm A Y))):=by
 intro U s Z H R I ⟨B,A,Y,ha,r,n,q⟩;refine eC (h U s Z H (λx H1=>∃p vs ts,x=.ref p/\bf H H1/\(bZ B H1).H p=some (.lst vs)/\bM X.K (bZ B H1) vs ts/\∀J H',bf H H'->lP X.K B J H' ts->R J H') I ⟨B.un,dm A Y,CI ha.hb,r.N3 ha n,?_⟩) λv s1 ⟨x,H1,g,r1,p,vs,ts,ex,l,hp,rr,k⟩=>?_
 ·have q:Fi X H (LF (F (dm A Y))) _:=q;cases e:F (dm A Y)with
  |bad=>rw[e]at q;exact q
  |exc c=>rw[e]at q;exact fe q
  |ok t=>
   rw[e]at q;intro v H' s rv fr;have L:=ha.same s;have q:=q;unfold LF at q;split at q
   ·rename_i e;cases e;obtain⟨p,vs,rfl,h,rr⟩:=rv.lst_inv;obtain⟨f,M⟩:=gD q;have S:H' p=some (.lst vs):=bG _ _ h;exact⟨p,vs,_,rfl,s,by rw[fS (ha.hb.free (fr p rfl).1)];exact S,pT (lQ.un L) rr f,M⟩
   ·exact q.elim
 ·subst ex;cases r1;obtain⟨cn,rv,pl,hz⟩:=g.list (lL.of (bG _ _ hp));refine kH pl.isList ?_
  refine⟨s1.heap.objs.size,[s1.heap.objs.size],_,_,H1,rfl,g.kept (t':=s1.toks) λb o e=>bP _ e,zx p _,⟨_,cp _ rfl,rfl,rfl⟩,λb hb=>?_,k _ H1 l (xO hp rr)⟩;have e:b=s1.heap.objs.size:=by simpa using hb
  subst e;exact g.xn (bz _) (g.cU.fresh (bz _))
theorem TN(ha:PE X am (tP X F))(hb:PE X b (tP X G)):PE X (.BinOp am .Add b pos) (tF X λY=>HD GP (F Y) (G Y)):=
 (PC (JP (X:=X)) ha hb).weak λZ H Q ⟨B,Y,hb,r,q⟩=>⟨B,Y,hb,r,q.bind.mono λx L v H1 s1 M=>⟨B,Y,hb.same s1,r.same s1,(L.bind.same s1).mono λy g u H2 s2 S=>by
  have l:=s1.trans s2;unfold GP at g;split at g
  ·have f:=gD g;obtain⟨_,_,e1,h1,n⟩:=(M.same (bI s2)).lst_inv;obtain⟨_,_,e2,h2,I⟩:=S.lst_inv;exact⟨_,_,_,_,e1,e2,bG _ _ h1,bG _ _ h2,by rw[n.length,I.length,<-iZ];exact f.1,λp hp=>f.2 (.ref p) _ (l.AN (l.free hp)) (.zd ((hb.same s1).same s2) hp (n.append I)) λp' e=>by cases e;exact .upd (l.free hp) (λ_ _ z=>by cases z)⟩
  ·exact g.elim⟩⟩
def TQ(q:QE X am F)(hb:QE X b G):NE X (.BinOp am .Add b pos) (λY=>HD GP (F Y) (G Y)):=⟨TN q.h hb.h⟩
theorem TR(h:NE X e F)(hg:QG X tg T)(hT:jL T)(hb:ZB X ah aK)(hp:PassesOwn (model X.prog X.w) X.A X.env X.xe:=by first|exact pj|exact xh) (hc:X.calm=true:=by rfl)
  (hs:isSet e=false:=by rfl):ZS X (.For tg e ah [] pos) (λY A=>Gq T aK (gE (LF (F (dm A Y))) A) Y):=
 ⟨(Ed hp hc (Yn h.h) hg.h hb.h (gn hs)).weak λD Z H ⟨B0,H0,B,A,Y,S,g,ha,r,n,q⟩=>⟨B,A,Y,ha,r,n,(mV (gM.bind q)).mono λts qt J H1 s1 gt=>by
   have g1:Grows B0 H0 B H1:=g.trans S (.of s1);have AZ:HB B H1:=ha.hb.same s1;refine⟨λi m du H'=>m=ts.length - i/\i<=ts.length/\∃B' A' iu,Grows B H1 B' H'/\HA X.K B' A' H'/\cF X.K B' H' du iu/\fI iu/\gM (XE X B0 H0) (sf T aK (ts.drop i) iu A') (vv X D B0 H0),⟨_,rfl,d5 _,B,A,Y,.refl,ha.same s1,r.same s1,n,qt⟩,?_⟩
   rintro i m du H' ⟨rfl,hi,B',A',iu,g',jW,r',n',q'⟩
   by_cases gm:i<ts.length
   ·rw[oN gm]at q';refine .inr ⟨gt.go i B' H' gm g'.jK jW.hb,λv8 H2=>∃B2 A2 b,Grows B H1 B2 H2/\HA X.K B2 A2 H2/\cF X.K B2 H2 v8 b/\fI b/\gM (XE X B0 H0) (sf T aK (ts.drop (i+1)) b A2) (vv X D B0 H0),
     λv8 H2 x=>⟨ts.length - (i+1),by omega,rfl,gm,x⟩,λx H2 hx=>?_⟩
    obtain⟨s2,t,et,rt⟩:=gt.FI i B' H' x H2 gm g'.jK jW.hb hx;have R0:ts[i]=t:=by rw[bV gm]at et;exact Option.some.inj et
    rw[R0]at q';have g2:Grows B H1 B' H2:=g'.trans AZ (.of s2);refine Kn hT AZ g2 (jW.same s2) (r'.same s2) n' rt (gM.bind q') λrA M6 H3 q1 g3 Gr r3 n3 _=>?_
    refine⟨B,H1,B',A',rA,AZ,g3,Gr,r3,n3,((gM.bind q1).imp λc A'' x=>x.grow S g1).mono λo A4 qo=>?_⟩;cases o with
    |nx b=>exact λKo l H4 I L M n4=>⟨l,A4,b,I,L,M,n4,qo⟩
    |ct b=>exact λKo l H4 I L M n4=>⟨l,A4,b,I,L,M,n4,qo⟩
    |bk b=>exact λKo l H4 I L M n4=>qo Ko l H4 (g1.trans S I) L M n4
    |ret t=>exact λv l H4 I L M=>qo v l H4 (g1.trans S I) L M
   ·have e:i=ts.length:=by omega
    subst e;rw[o7]at q';exact .inl ⟨gt.stop B' H' g'.jK,q' du B' H' (g1.trans S g') jW r' n'⟩⟩⟩
end
section
variable {A A':Ab}{n:Nat}{Y:bT}{t:Tr}
def LG:aY n A (.tup ts)=.tup ts:=by cases n<;>rfl
def sx{z:Str}:aY n A (.str z)=.str z:=by cases n<;>rfl
def LH{z:Int}:aY n A (.int z)=.int z:=by cases n<;>rfl
def LJ{z:Bool}:aY n A (.bl z)=.bl z:=by cases n<;>rfl
def TU:aY n A .cx=.cx:=by cases n<;>rfl
def TV{ns:List Int}:aY n A (.vn ns)=.vn ns:=by cases n<;>rfl
def gH(h:A[i]?=some (.ins x bB)):aY (n+1) A (.at i)=.ob x (bB.map λp=>(p.1,aY n A p.2)):=by simp only[aY,h]
def kX(h:A[i]?=some (.lst ts)):aY (n+1) A (.at i)=.lst (ts.map (aY n A)):=by simp only[aY,h]
def fZ(h:A[i]?=some (.bW aG)):aY (n+1) A (.at i)=.bW (aG.map λp=>(p.1,aY n A p.2)):=by simp only[aY,h]
def ij(ts:List Tr):Prop:=∀t∈ts,∃us,t=.tup us
def wg(h:ij ts):ts.map (aY n A)=ts:=by
 conv=>rhs;rw[<-kN ts]
 exact gW λt b=>by obtain⟨us,rfl⟩:=h t b;exact LG
def gF(bB:List (Key×Tr)):Prop:=∀p∈bB,∀n A,aY n A p.2=p.2
def iH{bB:List (Key×Tr)}(h:gF bB):(bB.map λp=>(p.1,aY n A p.2))=bB:=by
 conv=>rhs;rw[<-kN bB]
 exact gW λp hp=>by rw[h p hp];rfl
structure Ext(A A':Ab)(pins:List (Nat×Ao)):Prop where
 le:A.length<=A'.length
 at':∀k o,A[k]?=some o->A'[k]?=some ((pins.lookup k).getD o)
def Ext.refl:Ext A A []:=⟨bz _,λk o e=>e⟩
def Ext.trans {A2:Ab}{pins V:List (Nat×Ao)}(a:Ext A A' pins)(b:Ext A' A2 V):Ext A A2 (V++pins):=⟨cB a.le b.le,λk o e=>by
 rw[b.at' k _ (a.at' k o e),List.lookup_append];cases V.lookup k<;>rfl⟩
theorem Ext.put {o o':Ao}(h:A[i]?=some o'):Ext A (A.set i o) [(i,o)]:=⟨by rw[kK];exact bz _,λk x e=>by
 by_cases b:k=i
 ·subst b;rw[oP (gb.mp e).1];simp only[List.lookup,bX,Option.getD]
 ·rw[mr (Ne.symm b),e];have:(k==i)=false:=by simpa using b
  simp only[List.lookup,this,Option.getD]⟩
def Ext.push {o:Ao}:Ext A (A++[o]) []:=⟨by simp,λk x e=>by rw[oM (gb.mp e).1,e];rfl⟩
def lR{o:Ao}:(A++[o])[A.length]?=some o:=by simp
end
section
variable {β:Type}{A:Ab}{Y:bT}{x y t u:Tr}{a:ag}
def cW:(∀(a:ag) (f:ag->Rs β),(Rs.ok a).bind f=f a)/\(∀(a:ag) (A:Ab) (f:ag->Ab->Rz β),(Rz.ok a A).bind f=f a A)/\(∀(aC:Tr) (A:Ab) (f:ag->Ab->Rz β),(Rz.exc aC A:Rz ag).bind f=.exc aC A):=⟨λ_ _=>rfl,λ_ _ _=>rfl,λ_ _ _=>rfl⟩
def gu(a:ag)(A:Ab):gE (.ok a) A=.ok a A:=rfl
def ev:(∀Y A G,EH (.ok (.nx Y) A) G=G Y A)/\(∀t A G,EH (.ok (.ret t) A) G=.ok (.ret t) A)/\(∀aC A G,EH (.exc aC A) G=.exc aC A)
  /\(∀i t A Y,AY i (.ok t A) Y=.ok (.nx (Y.set i (.sh t))) A)/\(∀i aC A Y,AY i (.exc aC A) Y=.exc aC A)
  /\(∀t A Y,pV (.ok t A) Y=.ok (.nx Y) A)/\(∀aC A Y,pV (.exc aC A) Y=.exc aC A)/\(∀t A,Kl (.ok t A)=.ok (.ret t) A)/\(∀aC A,Kl (.exc aC A)=.exc aC A)
  /\(∀Y A,cI (.ok (.nx Y) A)=.ok .cx A)/\(∀t A,cI (.ok (.ret t) A)=.ok t A)/\(∀aC A,cI (.exc aC A)=.exc aC A)
  /\(∀x A l,Gs (.ok x A) l=(l A).bind λxs A=>.ok (x::xs) A)/\(∀x l,xN (.ok x) l=l.bind λxs=>.ok (x::xs))
  /\(∀h x y,HD h (.ok x) (.ok y)=h x y)/\(∀h l,dG h (.ok l)=h l)/\(∀b,Zi (.ok (.bl b))=.ok b)
  /\(∀A a b,Zm (.ok true A) a b=a A)/\(∀A a b,Zm (.ok false A) a b=b A)/\(∀a b,UO (.ok true) a b=a)/\(∀a b,UO (.ok false) a b=b)
  /\(∀aC Y n,xJ (aC::Y) (n+1)=xJ Y n)/\(∀t Y,xJ (.sh t::Y) 0=.ok t)/\(∀A t Y,dm A (.sh t::Y)=.sh (aY 5 A t)::dm A Y)/\(∀A Y,dm A (.no::Y)=.no::dm A Y)/\(∀A,dm A []=[])
  /\(AS (.ok [])=.ok (.tup []))/\(∀a,AS (.ok [a])=.ok (.tup [a]))/\(∀a b,AS (.ok [a,b])=.ok (.tup [a,b]))/\(∀a b aC,AS (.ok [a,b,aC])=.ok (.tup [a,b,aC]))/\(∀a b aC d,AS (.ok [a,b,aC,d])=.ok (.tup [a,b,aC,d]))/\(∀a b aC d e,AS (.ok [a,b,aC,d,e])=.ok (.tup [a,b,aC,d,e]))
  /\(∀ts,z_ [.lst ts]=.ok (.int ts.length))/\(∀ts,z_ [.tup ts]=.ok (.int ts.length))/\(∀ts,z_ [.bW ts]=.ok (.int ts.length))
  /\(∀i j,xQ (.int i) (.int j)=.ok (.int (i+j)))/\(∀x t A,EY x (.ok [t] A)=.exc (.str x) A)/\(∀i,Sa (.int i)=.ok (.int (-i)))
  /\(∀i A,r_ (.ok (.int i)) A=.ok (.int i) A)/\(∀z A,r_ (.ok (.str z)) A=.ok (.str z) A)/\(∀b A,r_ (.ok (.bl b)) A=.ok (.bl b) A)/\(∀A,r_ (.ok .cx) A=.ok .cx A)/\(∀i A,r_ (.ok (.at i)) A=.ok (.at i) A)
  /\(∀b,HF (.ok true) b=b)/\(∀b,HF (.ok false) b=.ok false)/\(∀b,V7 (.ok true) b=.ok true)/\(∀b,V7 (.ok false) b=b)/\(∀b,HE (.ok b)=.ok (!b))/\(∀a b,J9 (.ok true) a b=a)/\(∀a b,J9 (.ok false) a b=b)
  /\(∀z bB,D4 (.str z) (.bW bB)=.ok (.bl (eZ bB (.inr z)).isSome))/\(∀z bB,NS (.str z) (.bW bB)=.ok (.bl (!(eZ bB (.inr z)).isSome)))/\(∀z,Oe (.str z)=.ok (.str z))/\(∀z y,eqC (.str z) (.str y)=.ok (.bl (z==y)))/\(∀i j,eqC (.int i) (.int j)=.ok (.bl (i==j)))/\(∀i j,gtC (.int i) (.int j)=.ok (.bl (decide (j<i))))
  /\(∀Y,dH (.ok (.nx Y))=.ok .cx)/\(∀t,dH (.ok (.ret t))=.ok t)/\(∀t,Ka (.ok t)=.ok (.ret t))/\(∀Y G,Cv (.ok (.nx Y)) G=G Y)/\(∀t G,Cv (.ok (.ret t)) G=.ok (.ret t))/\(∀i t Y,J' i (.ok t) Y=.ok (.nx (Y.set i (.sh t)))):=by
 refine⟨?_,?_,?_,?_,?_,?_,?_,?_,?_,?_,?_,?_,?_,?_,?_,?_,?_,?_,?_,?_,?_,?_,?_,?_,?_,?_,?_,?_,?_,?_,?_,?_,?_,?_,?_,?_,?_,?_,?_,?_,?_,?_,?_,?_,?_,?_,?_,?_,?_,?_,?_,?_,?_,?_,?_,?_,?_,?_,?_,?_,?_,?_⟩<;>intros<;>rfl
def gR:(∀n A ts,aY n A (.tup ts)=.tup ts)/\(∀n A z,aY n A (.str z)=.str z)/\(∀n A i,aY n A (.int i)=.int i)/\(∀n A b,aY n A (.bl b)=.bl b)/\(∀n A,aY n A .cx=.cx)/\(∀n A ns,aY n A (.vn ns)=.vn ns):=⟨λ_ _ _=>LG,λ_ _ _=>sx,λ_ _ _=>LH,λ_ _ _=>LJ,λ_ _=>TU,λ_ _ _=>TV⟩
variable {z:Str}{bB:List (Key×Tr)}
def Fd{F:Nat->List Tr->Ab->Rz Tr}{l:Ab->Rz (List Tr)}(h:A[i]?=some (.lst ts)):mtL F (.ok (.at i) A) l=(l A).bind λus A=>F i us A:=by
 show(if WK A i=true then(l A).bind λus A=>F i us A else .bad)=_;exact aV (by unfold WK;rw[h])
def Fe(h:A[i]?=some (.lst ts))(q:ts.length<eM):Su i [t] A=.ok .cx (A.set i (.lst (ts++[t]))):=by
 show(match A[i]? with|some (.lst ts)=>if ts.length<eM then Rz.ok Tr.cx (A.set i (.lst (ts++[t])))else .bad|_=>.bad)=_;rw[h];exact aV q
def putD(A:Ab)(t q tv:Tr)(Y:bT):Rz Out:=match Dg A t q tv with
 |some A'=>.ok (.nx Y) A'
 |none=>.bad
def nP{o k:Ab->Rz Tr}:S0 (.ok t A) o k Y=(o A).bind λu A=>(k A).bind λq A=>putD A u q t Y:=rfl
def mh(h:A[i]?=some (.bW bB))(q:bB.length<eM):putD A (.at i) (.str z) t Y=.ok (.nx Y) (A.set i (.bW (l6 bB (.inr z) t))):=by
 have:Dg A (.at i) (.str z) t=some (A.set i (.bW (l6 bB (.inr z) t))):=by
  show(match A[i]? with|some (.bW bB)=>if bB.length<eM then some (A.set i (.bW (l6 bB (.inr z) t)))else none|_=>none)=_;rw[h];exact aV q
 unfold putD;rw[this]
def GQ(i:Nat)(q:Tr)(A:Ab):Rz Tr:=match kh q with
 |some key=>if mY A i=true then match eZ (oJ A i) key with
  |some v=>.ok v (A.set i (.bW (iE (oJ A i) key)))
  |none=>.bad
  else .bad
 |none=>.bad
def GR{k:Ab->Rz Tr}(h:A[i]?=some (.bW bB)):KZ (.ok (.at i) A) k=(k A).bind λq A=>GQ i q A:=by
 have e:mY A i=true:=by unfold mY;rw[h]
 show(if mY A i=true then(k A).bind λq A=>GQ i q A else .bad)=_;exact aV e
def GS{v:Tr}(h:A[i]?=some (.bW bB))(q:eZ bB (.inr z)=some v):GQ i (.str z) A=.ok v (A.set i (.bW (iE bB (.inr z)))):=by
 have e:mY A i=true:=by unfold mY;rw[h]
 have g:oJ A i=bB:=by unfold oJ;rw[h]
 unfold GQ;simp only[e,cC,kh,g,q]
def GU(x:Ab->Rz Tr)(i:Nat)(q:Tr)(A:Ab):Rz Tr:=match kh q with
 |some key=>(x A).bind λtx A=>if mY A i=true then match eZ (oJ A i) key with
  |some v=>.ok v (A.set i (.bW (iE (oJ A i) key)))
  |none=>.ok tx A
  else .bad
 |none=>.bad
def OM{k x:Ab->Rz Tr}(h:A[i]?=some (.bW bB)):K1 (.ok (.at i) A) k x=(k A).bind λq A=>GU x i q A:=by
 have e:mY A i=true:=by unfold mY;rw[h]
 show(if mY A i=true then(k A).bind λq A=>GU x i q A else .bad)=_;exact aV e
theorem IH(q:eZ bB (.inr z)=none):iE bB (.inr z)=bB:=oV.mpr λp hp=>by
 unfold eZ at q;rw[Option.map_eq_none_iff,List.find?_eq_none]at q;simpa using q p hp
def TX{o:Ao}(h:A[i]?=some o):A.set i o=A:=by
 apply oY;intro k;by_cases b:i=k
 ·subst b;rw[oP (gb.mp h).1,h]
 ·rw[mr b]
def ON{x:Ab->Rz Tr}(q:x A=.ok .cx A)(h:A[i]?=some (.bW bB)):GU x i (.str z) A=.ok ((eZ bB (.inr z)).getD .cx) (A.set i (.bW (iE bB (.inr z)))):=by
 have e:mY A i=true:=by unfold mY;rw[h]
 have g:oJ A i=bB:=by unfold oJ;rw[h]
 unfold GU;simp only[kh,q,Rz.bind,e,cC,g];cases b:eZ bB (.inr z)with
 |some v=>rfl
 |none=>rw[IH b,TX h];rfl
def Ff{y:Str}(h:z.length<=1000)(q:y.length<=1000):(λacc=>mX (.ok (.str z)) (λacc=>mX (.ok (.str y)) (λacc=>Be acc) acc) acc) Str.empty=.ok (.str (Str.empty++z++y)):=by
 have l1:(Str.empty++z).length<=cY:=by rw[oO];show 0+z.length<=1000000;omega
 have l2:(Str.empty++z++y).length<=cY:=by rw[oO,oO];show 0+z.length+y.length<=1000000;omega
 show(if(Str.empty++z).length<=cY then mX (.ok (.str y)) (λacc=>Be acc) (Str.empty++z)else .bad)=_;rw[aV l1];show(if(Str.empty++z++y).length<=cY then Be (Str.empty++z++y)else .bad)=_;rw[aV l2];exact aV l2
end
noncomputable def roomF(i:Nat):List (Str×Tr):=[("log",.at (i+1)),("ranks",.at (i+2)),("entries",.at (i+3)),("chosen",.at (i+4)),("banned",.at (i+5)),("invited",.at (i+6)),("read_marks",.at (i+7)),("said_by_key",.at (i+8))]
structure bA(A:Ab)(i:Nat)(rows:List Tr)(rk en ch bn iv:List (Key×Tr)):Prop where
 o:A[i]?=some (.ins "Room" (roomF i))
 lg:A[i+1]?=some (.lst rows)
 rk:A[i+2]?=some (.bW rk)
 en:A[i+3]?=some (.bW en)
 ch:A[i+4]?=some (.bW ch)
 bn:A[i+5]?=some (.bW bn)
 iv:A[i+6]?=some (.bW iv)
structure d8(rows:List Tr)(rk en ch bn iv:List (Key×Tr)):Prop where
 lg:ij rows
 rk:gF rk
 en:gF en
 ch:gF ch
 bn:gF bn
 iv:gF iv
section
variable {A:Ab}{rows:List Tr}{en ch bn iv:List (Key×Tr)}
def bA.aaZ (h:bA A i rows aG en ch bn iv)(f:d8 rows aG en ch bn iv):jY ["Room"] "log" (aY 5 A (.at i))=.ok (.lst rows):=by
 rw[gH h.o];show Rs.ok (aY 4 A (.at (i+1)))=_;rw[kX h.lg,wg f.lg]
def bA.sA (h:bA A i rows aG en ch bn iv)(f:d8 rows aG en ch bn iv):jY ["Room"] "ranks" (aY 5 A (.at i))=.ok (.bW aG):=by
 rw[gH h.o];show Rs.ok (aY 4 A (.at (i+2)))=_;rw[fZ h.rk,iH f.rk]
def bA.aa0 (h:bA A i rows aG en ch bn iv)(f:d8 rows aG en ch bn iv):jY ["Room"] "entries" (aY 5 A (.at i))=.ok (.bW en):=by
 rw[gH h.o];show Rs.ok (aY 4 A (.at (i+3)))=_;rw[fZ h.en,iH f.en]
def bA.Yo (h:bA A i rows aG en ch bn iv)(f:d8 rows aG en ch bn iv):jY ["Room"] "chosen" (aY 5 A (.at i))=.ok (.bW ch):=by
 rw[gH h.o];show Rs.ok (aY 4 A (.at (i+4)))=_;rw[fZ h.ch,iH f.ch]
def bA.TY (h:bA A i rows aG en ch bn iv)(f:d8 rows aG en ch bn iv):jY ["Room"] "banned" (aY 5 A (.at i))=.ok (.bW bn):=by
 rw[gH h.o];show Rs.ok (aY 4 A (.at (i+5)))=_;rw[fZ h.bn,iH f.bn]
def bA.Yp (h:bA A i rows aG en ch bn iv)(f:d8 rows aG en ch bn iv):jY ["Room"] "invited" (aY 5 A (.at i))=.ok (.bW iv):=by
 rw[gH h.o];show Rs.ok (aY 4 A (.at (i+6)))=_;rw[fZ h.iv,iH f.iv]
def bA.aa1 (h:bA A i rows aG en ch bn iv):um ["Room"] "log" (.ok (.at i) A)=.ok (.at (i+1)) A:=by unfold um Rz.bind;simp only[h.o];rfl
def bA.TZ (h:bA A i rows aG en ch bn iv):um ["Room"] "ranks" (.ok (.at i) A)=.ok (.at (i+2)) A:=by unfold um Rz.bind;simp only[h.o];rfl
def bA.aa2 (h:bA A i rows aG en ch bn iv):um ["Room"] "entries" (.ok (.at i) A)=.ok (.at (i+3)) A:=by unfold um Rz.bind;simp only[h.o];rfl
def bA.OO (h:bA A i rows aG en ch bn iv):um ["Room"] "chosen" (.ok (.at i) A)=.ok (.at (i+4)) A:=by unfold um Rz.bind;simp only[h.o];rfl
def bA.aa3 (h:bA A i rows aG en ch bn iv):um ["Room"] "invited" (.ok (.at i) A)=.ok (.at (i+6)) A:=by unfold um Rz.bind;simp only[h.o];rfl
def bA.call (h:bA A i rows aG en ch bn iv){m:Str}(hm:D6 (roomF i) m=true)(F:List Tr->Ab->Rz Tr)(l:Ab->Rz (List Tr)):rG "Room" m F (.ok (.at i) A) l=(l A).bind λts A=>F (.at i::ts) A:=by
 show(match A[i]? with|some (.ins x fs)=>if x="Room"/\D6 fs m=true then(l A).bind λts A=>F (.at i::ts) A else .bad|_=>.bad)=_;rw[h.o];exact aV ⟨rfl,hm⟩
def Ext.same {A':Ab}{pins:List (Nat×Ao)}{k:Nat}{o:Ao}(e:Ext A A' pins)(h:A[k]?=some o)(n:pins.lookup k=none):A'[k]?=some o:=by rw[e.at' k o h,n];rfl
def Ext.new {A':Ab}{pins:List (Nat×Ao)}{k:Nat}{o o':Ao}(e:Ext A A' pins)(h:A[k]?=some o)(n:pins.lookup k=some o'):A'[k]?=some o':=by rw[e.at' k o h,n];rfl
variable {A':Ab}{cJ:List Tr}{d':List (Key×Tr)}
theorem hX{o:Ao}(h:i≠az):[(az,o)].lookup i=none:=by
 have:(i==az)=false:=by simpa using h
 simp only[List.lookup,this]
theorem LK{o:Ao}:[(i,o)].lookup i=some o:=by simp only[List.lookup,bX]
def bA.e_0 (h:bA A i rows aG en ch bn iv)(e:Ext A A' []):bA A' i rows aG en ch bn iv:=⟨e.same h.o rfl,e.same h.lg rfl,e.same h.rk rfl,e.same h.en rfl,e.same h.ch rfl,e.same h.bn rfl,e.same h.iv rfl⟩
def bA.II (h:bA A i rows aG en ch bn iv)(e:Ext A A' [(i+1,.lst cJ)]):bA A' i cJ aG en ch bn iv:=⟨e.same h.o (hX (by omega)),e.new h.lg LK,e.same h.rk (hX (by omega)),e.same h.en (hX (by omega)),e.same h.ch (hX (by omega)),e.same h.bn (hX (by omega)),e.same h.iv (hX (by omega))⟩
def bA.T1 (h:bA A i rows aG en ch bn iv)(e:Ext A A' [(i+2,.bW d')]):bA A' i rows d' en ch bn iv:=⟨e.same h.o (hX (by omega)),e.same h.lg (hX (by omega)),e.new h.rk LK,e.same h.en (hX (by omega)),e.same h.ch (hX (by omega)),e.same h.bn (hX (by omega)),e.same h.iv (hX (by omega))⟩
def bA.aa4 (h:bA A i rows aG en ch bn iv)(e:Ext A A' [(i+3,.bW d')]):bA A' i rows aG d' ch bn iv:=⟨e.same h.o (hX (by omega)),e.same h.lg (hX (by omega)),e.same h.rk (hX (by omega)),e.new h.en LK,e.same h.ch (hX (by omega)),e.same h.bn (hX (by omega)),e.same h.iv (hX (by omega))⟩
def bA.aa5 (h:bA A i rows aG en ch bn iv)(e:Ext A A' [(i+4,.bW d')]):bA A' i rows aG en d' bn iv:=⟨e.same h.o (hX (by omega)),e.same h.lg (hX (by omega)),e.same h.rk (hX (by omega)),e.same h.en (hX (by omega)),e.new h.ch LK,e.same h.bn (hX (by omega)),e.same h.iv (hX (by omega))⟩
def bA.aa6 (h:bA A i rows aG en ch bn iv)(e:Ext A A' [(i+6,.bW d')]):bA A' i rows aG en ch bn d':=⟨e.same h.o (hX (by omega)),e.same h.lg (hX (by omega)),e.same h.rk (hX (by omega)),e.same h.en (hX (by omega)),e.same h.ch (hX (by omega)),e.same h.bn (hX (by omega)),e.new h.iv LK⟩
def m4(h:ij rows):ij (rows++[.tup ts]):=λt b=>by
 rcases dI.mp b with b|b
 ·exact h t b
 ·exact⟨ts,de.mp b⟩
def IJ{k:Key}(h:gF aG):gF (iE aG k):=λp hp=>h p ((gg.mp hp).1)
end
section
variable {f:ag->Tr}{l:List (Str×ag)}{z:Str}{a:ag}
noncomputable def dP(f:ag->Tr)(l:List (Str×ag)):List (Key×Tr):=l.map λp=>(Sum.inr p.1,f p.2)
noncomputable def e_(l:List (Str×ag))(z:Str)(a:ag):List (Str×ag):=if(l.any λp=>decide (p.1=z))=true then l.map (λp=>if p.1=z then(p.1,a)else p)else l++[(z,a)]
noncomputable def kY(l:List (Str×ag))(z:Str):List (Str×ag):=l.filter λp=>decide (p.1≠z)
def GV:((Sum.inr x:Key)=.inr z)↔x=z:=⟨λh=>by injection h,λh=>by rw[h]⟩
def GW:(decide ((Sum.inr x:Key)=.inr z))=decide (x=z):=w4.mpr GV
theorem eI:∀{l:List (Str×ag)},eZ (dP f l) (.inr z)=(l.lookup z).map f
 |[]=>rfl
 |(y,b)::l=>by
  have g:=eI (l:=l);unfold eZ at g⊢;show Option.map _ (List.find? _ ((Sum.inr y,f b)::dP f l))=_;rw[j_,cK];by_cases h:y=z
  ·subst h;simp
  ·have h2:(z==y)=false:=by simpa using Ne.symm h
   simp only[GW,h,decide_false,h2];exact g
theorem kZ:l6 (dP f l) (.inr z) (f a)=dP f (e_ l z a):=by
 unfold l6 e_;have e:((dP f l).any λb=>decide (b.1=(.inr z:Key)))=l.any λp=>decide (p.1=z):=by
  unfold dP;rw[List.any_map];congr 1;funext p;exact GW
 rw[e];split
 ·unfold dP;rw[cL,cL];apply gW;intro p hp;by_cases h:p.1=z
  ·simp[h]
  ·simp[h]
 ·unfold dP;rw[ke];rfl
def Bt:iE (dP f l) (.inr z)=dP f (kY l z):=by
 unfold iE kY dP;rw[pb];congr 1;apply sT;intro p hp;show decide ((Sum.inr p.1:Key)≠ .inr z)=decide (p.1≠z);simp[GV]
def jQ:(dP f l).length=l.length:=bt _
def ur(h:∀a n A,aY n A (f a)=f a):gF (dP f l):=λp hp n A=>by
 obtain⟨q,_,rfl⟩:=cE.mp hp;exact h q.2 n A
def GX(h:∀p∈l,p.1.length<=cY):CN (dP f l)=.ok (l.map λp=>.str p.1):=by
 unfold CN;rw[aV]
 ·unfold dP;rw[cL];rfl
 ·unfold dP;rw[px,dz];intro p hp;exact jj (h p hp)
end
section
variable {k:Str->Int×Int}
theorem Ak:∀{ns:List Str},(∀z∈ns,h [aC,.str z]=.ok (.tup [.int (k z).1,.int (k z).2]))->keysOf h aC (ns.map .str)=some (ns.map k)
 |[],_=>rfl
 |z::ns,q=>by
  show((keyOf (h [aC,.str z])).bind λk=>(keysOf h aC (ns.map .str)).map λks=>k::ks)=_;rw[q z (cz ..),Ak λy b=>q y (ck _ b)]
  rfl
theorem u9{kf:Nat->Int×Int}:∀j,dh kf j<=j
 |0=>bz _
 |j+1=>by
  unfold dh;split
  ·exact bz _
  ·exact Nat.le_succ_of_le (u9 j)
theorem uu{kf:Nat->Int×Int}:∀j,(∀a b,a<b->b<=j->(kf a).2<(kf b).2)->(∀a,a<=j->(kf (dh kf j)).1<=(kf a).1)/\(∀a,a<dh kf j->(kf (dh kf j)).1<(kf a).1)
 |0,_=>⟨λa ha=>by cases Nat.le_zero.mp ha;exact Int.le_refl _,λa ha=>absurd ha (w8 _)⟩
 |j+1,l=>by
  obtain⟨g,h2⟩:=uu (kf:=kf) j λa b n hb=>l a b n (Nat.le_succ_of_le hb);have hb:=u9 (kf:=kf) j;have r:=l (dh kf j) (j+1) (Nat.lt_succ_of_le hb) (bz _);have e:jM (kf (j+1)) (kf (dh kf j))=decide ((kf (j+1)).1<(kf (dh kf j)).1):=by
   unfold jM;by_cases q:(kf (j+1)).1<(kf (dh kf j)).1
   ·simp[q]
   ·simp[q];intros;omega
  unfold dh;rw[e];by_cases q:(kf (j+1)).1<(kf (dh kf j)).1
  ·rw[aV (jj q)];refine⟨λa ha=>?_,λa ha=>Int.lt_of_lt_of_le q (g a (wY ha))⟩;rcases Nat.lt_or_eq_of_le ha with ha|rfl
   ·exact Int.le_of_lt (Int.lt_of_lt_of_le q (g a (wY ha)))
   ·exact Int.le_refl _
  ·rw[bb (by simpa using q)];refine⟨λa ha=>?_,h2⟩;rcases Nat.lt_or_eq_of_le ha with ha|rfl
   ·exact g a (wY ha)
   ·exact Int.not_lt.mp q
end
section
variable {α:Type}{f:α->Tr}{l:List (Str×α)}{z:Str}{A:Ab}{n:Nat}
def dS:jX (.bW (dP f l)) (.str z)=kS ((l.lookup z).map f):=by
 show(kS (kh (.str z))).bind (λk=>kS (eZ (dP f l) k))=_;show kS (eZ (dP f l) (.inr z))=_;rw[eI]
theorem qU:∀{ns:List Str},mT (ns.map .str)=true
 |[]=>rfl
 |z::ns=>by rw[bL,mT,Jj,pw];exact qU
def qV{ns:List Str}:(ns.map Tr.str).map (aY n A)=ns.map .str:=by
 rw[cL];exact gW λz _=>sx
theorem Dx{C:bT->Rs Bool}{Y:bT}{P:Str->Bool}(hF:∀z,F (.sh (.str z)::Y)=.ok (.str z)):∀{ns:List Str} {c:Cell},(∀z∈ns,C (.sh (.str z)::Y)=.ok (P z))->Ex (gN 0) C F (ns.map .str) (c::Y)=.ok ((ns.filter P).map .str)
 |[],_,_=>rfl
 |z::ns,c,hC=>by
  have b:=Dx (Y:=Y) hF (ns:=ns) (c:=.sh (.str z)) λy g=>hC y (ck _ g);show(NG (C (.sh (.str z)::Y))).bind (λk=>if k then(NG (F (.sh (.str z)::Y))).bind λy=>(Ex (gN 0) C F (ns.map .str) (.sh (.str z)::Y)).bind λys=>.ok (y::ys)else Ex (gN 0) C F (ns.map .str) (.sh (.str z)::Y))=_;rw[hC z (cz ..),hF z,b];show(if P z then _ else _)=_;cases e:P z with
  |true=>rw[lF e];rfl
  |false=>rw[j6 (by rw[e];exact fK)];rfl
def LL{ks:List (Int×Int)}{t:Tr}(q:D6 bB av=true)(Tn:0<ts.length)(hs:keysOf h (.ob x bB) ts=some ks)(ht:ts[dh (λi=>ks.getD i (0,0)) (ts.length - 1)]?=some t):vD x av h (.lst ts) (.ob x bB)=.ok t:=by
 unfold vD;simp only[q,Tn,and_self,cC,hs,ht]
 rfl
def qW{r:Rs (List Tr)}{ix:List (Option Nat)}{Y Bu:bT}{c:Cell}(P:Str->Bool){ns:List Str}(hr:r=.ok (ns.map .str))(hl:ns.length<=eM)(q:ud ix Y=c::Bu)(hF:∀z,F (.sh (.str z)::Bu)=.ok (.str z))(hC:∀z∈ns,aF (.sh (.str z)::Bu)=.ok (P z)):vq ix (gN 0) aF F r Y=.ok (.lst ((ns.filter P).map .str)):=by
 unfold vq;rw[hr,q];show(if(ns.map Tr.str).length<=eM then _ else _)=_;rw[aV (by rw[bt];exact hl),Dx hF hC]
 rfl
def wj(h:mT ts=true):uZ (.ok (.lst ts)) A=.ok (.at A.length) (A++[.lst ts]):=aV h
def wk(h:∀p∈l,p.1.length<=1000):Ks (.ok (.bW (dP f l)))=.ok (l.map λp=>.str p.1):=GX λp hp=>cB (h p hp) (by decide)
def map_fst:(l.map λp=>Tr.str p.1)=(l.map (·.1)).map .str:=by rw[cL];rfl
def Ext.idem {A':Ab}{pins:List (Nat×Ao)}{k:Nat}{o:Ao}(e:Ext A A' pins)(h:A[k]?=some o)(hu:pins.lookup k=none):Ext A A' ((k,o)::pins):=⟨e.le,λj x q=>by
 rw[cK];by_cases b:j=k
 ·subst b;rw[h]at q;cases q;rw[e.at' j o h,hu];simp
 ·have:(j==k)=false:=by simpa using b
  rw[this];exact e.at' j x q⟩
def Ext.cons {A' A2:Ab}{pins:List (Nat×Ao)}{k:Nat}{o:Ao}(a:Ext A A' pins)(b:Ext A' A2 [(k,o)]):Ext A A2 ((k,o)::pins):=a.trans b
def Ext.past {A' A2:Ab}{pins:List (Nat×Ao)}(a:Ext A A' [])(b:Ext A' A2 pins):Ext A A2 pins:=by have:=a.trans b;rwa[j9]at this
end
structure cw(A:Ab)(bg:List (Str×Bool))(a9:List (Str×Nat)):Prop where
 o:A[0]?=some (.ins "Hall" [("persons",.at 1),("places",.at 2),("hands",.at 3)])
 ps:A[1]?=some (.bW (dP .bl bg))
 pl:A[2]?=some (.bW (dP .at a9))
section
variable {A A':Ab}{bg:List (Str×Bool)}{a9:List (Str×Nat)}
def flB{l:List (Str×Bool)}:gF (dP .bl l):=ur λ_ _ _=>LJ
def cw.OP (h:cw A bg a9):jY ["Hall"] "persons" (aY 5 A (.at 0))=.ok (.bW (dP .bl bg)):=by
 rw[gH h.o];show Rs.ok (aY 4 A (.at 1))=_;rw[fZ h.ps,iH flB]
def cw.T2 (h:cw A bg a9):jY ["Hall"] "places" (aY 5 A (.at 0))=.ok (.bW (dP (λj=>aY 3 A (.at j)) a9)):=by
 rw[gH h.o];show Rs.ok (aY 4 A (.at 2))=_;rw[fZ h.pl];unfold dP;rw[cL];rfl
def cw.aa7 (h:cw A bg a9):um ["Hall"] "places" (.ok (.at 0) A)=.ok (.at 2) A:=by unfold um Rz.bind;simp only[h.o];rfl
def cw.call (h:cw A bg a9){m:Str}(hm:D6 [("persons",.at 1),("places",.at 2),("hands",.at 3)] m=true)(F:List Tr->Ab->Rz Tr)(l:Ab->Rz (List Tr)):rG "Hall" m F (.ok (.at 0) A) l=(l A).bind λts A=>F (.at 0::ts) A:=by
 show(match A[0]? with|some (.ins x fs)=>if x="Hall"/\D6 fs m=true then(l A).bind λts A=>F (.at 0::ts) A else .bad|_=>.bad)=_;rw[h.o];exact aV ⟨rfl,hm⟩
def kj{b:Ab->Rz Tr}:Ot aE (.ok aC A) b=(b A).bind λy A=>r_ (aE (aY 1 A aC) (aY 1 A y)) A:=rfl
def wm{f:ag->Tr}{l:List (Str×ag)}(h:A[i]?=some (.bW (dP f l))):aY 1 A (.at i)=.bW (dP f l):=by
 rw[fZ h];unfold dP;rw[cL];rfl
theorem GY:(∀T G Y A,sf T G [] Y A=.ok (.nx Y) A)/\(∀T G t ts Y A,sf T G (t::ts) Y A=(gE (T t Y) A).bind λrA A=>(G rA A).bind λo A=>match o with
  |.nx q=>sf T G ts q A
  |.ct q=>sf T G ts q A
  |.bk q=>.ok (.nx q) A
  |.ret t=>.ok (.ret t) A)/\(∀T G ts A Y,Gq T G (.ok ts A) Y=sf T G ts Y A)/\(∀i t Y,gN i t Y=.ok (Y.set i (.sh t)))/\(∀ts,Kb (.ok (.tup ts))=.ok ts)/\(∀ts,Kb (.ok (.lst ts))=.ok ts):=by
 refine⟨?_,?_,?_,?_,?_,?_⟩<;>intros<;>rfl
end
noncomputable def zl(j ks kb ka:Nat)(d v p:Str):List (Str×Tr):=[("rows",.at (j+1)),("roles",.at (j+2)),("stays",.at ks),("barred",.at kb),("asked",.at ka),("door",.str d),("voice",.str v),("past",.str p)]
abbrev nQ:=Str×Int×Int×Option Int
noncomputable def Fg:Option Int->Tr
 |none=>.cx
 |some n=>.int n
def vW(s:nQ):Tr:=.tup [.str s.1,.int s.2.1,.int s.2.2.1,Fg s.2.2.2]
structure bQ(A:Ab)(j ks kb ka:Nat)(rows:List Tr)(bq:List (Str×Str))(stays:List nQ)(cA asked:List Str)(d v p:Str):Prop where
 o:A[j]?=some (.bW (dP id (zl j ks kb ka d v p)))
 rw:A[j+1]?=some (.lst rows)
 rl:A[j+2]?=some (.bW (dP .str bq))
 st:A[ks]?=some (.lst (stays.map vW))
 br:A[kb]?=some (.lst (cA.map .str))
 as:A[ka]?=some (.lst (asked.map .str))
 nd:[j,j+1,j+2,ks,kb,ka].Nodup
section
variable {A A':Ab}{j kb ka n:Nat}{bq:List (Str×Str)}{stays:List nQ}{asked:List Str}{v p:Str}
def g8(h:A[j]?=some (.bW (dP id bB))):aY (n+1) A (.at j)=.bW (dP (aY n A) bB):=by
 rw[fZ h];unfold dP;rw[cL];rfl
def Bv(h:A[j]?=some (.bW (dP id bB))):aY 1 A (.at j)=.bW (dP id bB):=by
 rw[fZ h];unfold dP;rw[cL];rfl
def LM:(stays.map vW).map (aY n A)=stays.map vW:=wg λt b=>by obtain⟨s,_,rfl⟩:=cE.mp b;exact⟨_,rfl⟩
def bQ.T5 (h:bQ A j az kb ka ts bq stays ps asked av v p)(f:ij ts):jX (aY (n+2) A (.at j)) (.str "rows")=.ok (.lst ts):=by
 rw[g8 h.o,dS];show Rs.ok (aY (n+1) A (.at (j+1)))=_;rw[kX h.rw,wg f]
def bQ.Bw (h:bQ A j az kb ka ts bq stays ps asked av v p):jX (aY (n+2) A (.at j)) (.str "roles")=.ok (.bW (dP .str bq)):=by
 rw[g8 h.o,dS];show Rs.ok (aY (n+1) A (.at (j+2)))=_;rw[fZ h.rl,iH (ur λ_ _ _=>sx)]
def bQ.Yq (h:bQ A j az kb ka ts bq stays ps asked av v p):jX (aY (n+2) A (.at j)) (.str "stays")=.ok (.lst (stays.map vW)):=by
 rw[g8 h.o,dS];show Rs.ok (aY (n+1) A (.at az))=_;rw[kX h.st,LM]
def bQ.Yr (h:bQ A j az kb ka ts bq stays ps asked av v p):jX (aY (n+2) A (.at j)) (.str "barred")=.ok (.lst (ps.map .str)):=by
 rw[g8 h.o,dS];show Rs.ok (aY (n+1) A (.at kb))=_;rw[kX h.br,qV]
def bQ.T6 (h:bQ A j az kb ka ts bq stays ps asked av v p):jX (aY (n+2) A (.at j)) (.str "asked")=.ok (.lst (asked.map .str)):=by
 rw[g8 h.o,dS];show Rs.ok (aY (n+1) A (.at ka))=_;rw[kX h.as,qV]
def bQ.a_d (h:bQ A j az kb ka ts bq stays ps asked av v p):jX (aY (n+1) A (.at j)) (.str "door")=.ok (.str av):=by
 rw[g8 h.o,dS];show Rs.ok (aY n A (.str av))=_;rw[sx]
def bQ.a_v (h:bQ A j az kb ka ts bq stays ps asked av v p):jX (aY (n+1) A (.at j)) (.str "voice")=.ok (.str v):=by
 rw[g8 h.o,dS];show Rs.ok (aY n A (.str v))=_;rw[sx]
def bQ.a_p (h:bQ A j az kb ka ts bq stays ps asked av v p):jX (aY (n+1) A (.at j)) (.str "past")=.ok (.str p):=by
 rw[g8 h.o,dS];show Rs.ok (aY n A (.str p))=_;rw[sx]
def bQ.aa8 (h:bQ A j az kb ka ts bq stays ps asked av v p):jX (aY 1 A (.at j)) (.str "rows")=.ok (.at (j+1)):=by rw[Bv h.o,dS];rfl
def bQ.OQ (h:bQ A j az kb ka ts bq stays ps asked av v p):jX (aY 1 A (.at j)) (.str "roles")=.ok (.at (j+2)):=by rw[Bv h.o,dS];rfl
def bQ.aa9 (h:bQ A j az kb ka ts bq stays ps asked av v p):jX (aY 1 A (.at j)) (.str "stays")=.ok (.at az):=by rw[Bv h.o,dS];rfl
def bQ.ext {pins:List (Nat×Ao)}(h:bQ A j az kb ka ts bq stays ps asked av v p)(e:Ext A A' pins)(q:∀k∈[j,j+1,j+2,az,kb,ka],pins.lookup k=none):bQ A' j az kb ka ts bq stays ps asked av v p:=
 ⟨e.same h.o (q _ (by simp)),e.same h.rw (q _ (by simp)),e.same h.rl (q _ (by simp)),e.same h.st (q _ (by simp)),e.same h.br (q _ (by simp)),e.same h.as (q _ (by simp)),h.nd⟩
variable {cJ:List Tr}{k_:List (Str×Str)}{qe:List nQ}{yy:List Str}
def bQ.ne (h:bQ A j az kb ka ts bq stays ps asked av v p):j≠az/\j≠kb/\j≠ka/\j+1≠az/\j+1≠kb/\j+1≠ka/\j+2≠az/\j+2≠kb/\j+2≠ka/\az≠kb/\az≠ka/\kb≠ka:=by
 have:=h.nd;simp only[gY,bE,cN,cO,not_or]at this;obtain⟨⟨_,_,a,b,c⟩,⟨_,av,e,f⟩,⟨g,i,k⟩,⟨l,m⟩,n,_⟩:=this;exact⟨a,b,c,av,e,f,g,i,k,l,m,n⟩
theorem bQ.Ys:j+2≠j+1/\j+2≠j:=⟨mD _,dJ (Nat.lt_add_of_pos_right (Nat.succ_pos 1))⟩
def bQ.IK (h:bQ A j az kb ka ts bq stays ps asked av v p)(e:Ext A A' [(j+1,.lst cJ)]):bQ A' j az kb ka cJ bq stays ps asked av v p:=by
 obtain⟨_,_,_,b1,b2,b3,_⟩:=h.ne;exact⟨e.same h.o (hX (mD j).symm),e.new h.rw LK,e.same h.rl (hX bQ.Ys.1),e.same h.st (hX b1.symm),e.same h.br (hX b2.symm),e.same h.as (hX b3.symm),h.nd⟩
def bQ.OR (h:bQ A j az kb ka ts bq stays ps asked av v p)(e:Ext A A' [(j+2,.bW (dP .str k_))]):bQ A' j az kb ka ts k_ stays ps asked av v p:=by
 obtain⟨_,_,_,_,_,_,b1,b2,b3,_⟩:=h.ne;exact⟨e.same h.o (hX bQ.Ys.2.symm),e.same h.rw (hX bQ.Ys.1.symm),e.new h.rl LK,e.same h.st (hX b1.symm),e.same h.br (hX b2.symm),e.same h.as (hX b3.symm),h.nd⟩
def bQ.aba (h:bQ A j az kb ka ts bq stays ps asked av v p)(e:Ext A A' [(az,.lst (qe.map vW))]):bQ A' j az kb ka ts bq qe ps asked av v p:=by
 obtain⟨a,_,_,b,_,_,c,_,_,g,l,_⟩:=h.ne;exact⟨e.same h.o (hX a),e.same h.rw (hX b),e.same h.rl (hX c),e.new h.st LK,e.same h.br (hX g.symm),e.same h.as (hX l.symm),h.nd⟩
def iI{o:Ao}(h:A[i]?=some o):i<A.length:=(gb.mp h).1
def LN{l1 l2:List Nat}(h:(l1++i::l2).Nodup)(q:∀k∈l1++l2,k<az):(l1++az::l2).Nodup:=
 List.perm_middle.nodup_iff.mpr (gY.mpr ⟨λm=>eP _ (q _ m),(gY.mp (List.perm_middle.nodup_iff.mp h)).2⟩)
def bQ.abb (h:bQ A j az kb ka ts bq stays ps asked av v p):bQ ((A++[Ao.lst (yy.map .str)]).set j (.bW (dP id (zl j az kb A.length av v p)))) j az kb A.length ts bq stays ps yy av v p:=by
 obtain⟨a,b,_⟩:=h.ne;have g:Ext A (A++[Ao.lst (yy.map .str)]) []:=Ext.push;have l:Ext (A++[Ao.lst (yy.map .str)]) _ _:=Ext.put (o:=.bW (dP id (zl j az kb A.length av v p))) (g.same h.o rfl);refine⟨l.new (g.same h.o rfl) LK,l.same (g.same h.rw rfl) (hX (mD j)),l.same (g.same h.rl rfl) (hX bQ.Ys.2),l.same (g.same h.st rfl) (hX a.symm),l.same (g.same h.br rfl) (hX b.symm),l.same lR (hX (dJ (iI h.o))),LN (l1:=[j,j+1,j+2,az,kb]) (l2:=[]) h.nd λk m=>?_⟩;simp only[dI,bE,cN,cO]at m;rcases m with rfl|rfl|rfl|rfl|rfl
 ·exact iI h.o
 ·exact iI h.rw
 ·exact iI h.rl
 ·exact iI h.st
 ·exact iI h.br
def bQ.abc (h:bQ A j az kb ka ts bq stays ps asked av v p):bQ ((A++[Ao.lst (qe.map vW)]).set j (.bW (dP id (zl j A.length kb ka av v p)))) j A.length kb ka ts bq qe ps asked av v p:=by
 obtain⟨_,b,c,_⟩:=h.ne;have g:Ext A (A++[Ao.lst (qe.map vW)]) []:=Ext.push;have l:Ext (A++[Ao.lst (qe.map vW)]) _ _:=Ext.put (o:=.bW (dP id (zl j A.length kb ka av v p))) (g.same h.o rfl);refine⟨l.new (g.same h.o rfl) LK,l.same (g.same h.rw rfl) (hX (mD j)),l.same (g.same h.rl rfl) (hX bQ.Ys.2),l.same lR (hX (dJ (iI h.o))),l.same (g.same h.br rfl) (hX b.symm),l.same (g.same h.as rfl) (hX c.symm),LN (l1:=[j,j+1,j+2]) (l2:=[kb,ka]) h.nd λk m=>?_⟩;simp only[dI,bE,cN,cO,or_assoc]at m;rcases m with rfl|rfl|rfl|rfl|rfl
 ·exact iI h.o
 ·exact iI h.rw
 ·exact iI h.rl
 ·exact iI h.br
 ·exact iI h.as
def OS:MX (.str x) (.str av)=.ok (.bl (!(x==av))):=rfl
theorem yz:∀{stays:List nQ},mT (stays.map vW)=true
 |[]=>rfl
 |s::stays=>by
  rw[bL,mT,yz,Bool.and_true];obtain⟨a,b,c,e⟩:=s;cases e<;>rfl
theorem LO{α:Type}{C:bT->Rs Bool}{F:bT->Rs Tr}{Y:bT}{P:α->Bool}{g h:α->Tr}:∀{xs:List α} {c:Cell},(∀x∈xs,C (.sh (g x)::Y)=.ok (P x))->(∀x∈xs,P x=true->F (.sh (g x)::Y)=.ok (h x))->Ex (gN 0) C F (xs.map g) (c::Y)=.ok ((xs.filter P).map h)
 |[],_,_,_=>rfl
 |x::xs,c,hC,hF=>by
  have l:=LO (Y:=Y) (C:=C) (F:=F) (P:=P) (g:=g) (h:=h) (xs:=xs) (c:=.sh (g x)) (λy b=>hC y (ck _ b)) λy b=>hF y (ck _ b);show(NG (C (.sh (g x)::Y))).bind (λk=>if k then(NG (F (.sh (g x)::Y))).bind λy=>(Ex (gN 0) C F (xs.map g) (.sh (g x)::Y)).bind λys=>.ok (y::ys)else Ex (gN 0) C F (xs.map g) (.sh (g x)::Y))=_;rw[hC x (cz ..),l];show(if P x then _ else _)=_;cases e:P x with
  |true=>rw[lF e,hF x (cz ..) e];rfl
  |false=>rw[j6 (by rw[e];exact fK)];rfl
def lS{r:Rs (List Tr)}{ix:List (Option Nat)}{Y Bu:bT}{c:Cell}(P:ag->Bool)(g h:ag->Tr){xs:List ag}(hr:r=.ok (xs.map g))(hl:xs.length<=eM)(q:ud ix Y=c::Bu)(hC:∀x∈xs,aF (.sh (g x)::Bu)=.ok (P x))(hF:∀x∈xs,P x=true->F (.sh (g x)::Bu)=.ok (h x)):vq ix (gN 0) aF F r Y=.ok (.lst ((xs.filter P).map h)):=by
 unfold vq;rw[hr,q];show(if(xs.map g).length<=eM then _ else _)=_;rw[aV (by rw[bt];exact hl),LO hC hF]
 rfl
def IL:l6 (dP id (zl j az kb ka av v p)) (.inr "asked") (.at n)=dP id (zl j az kb n av v p):=kZ (f:=id) (a:=.at n)
def IM:l6 (dP id (zl j az kb ka av v p)) (.inr "stays") (.at n)=dP id (zl j n kb ka av v p):=kZ (f:=id) (a:=.at n)
def bQ.abd {x:Ao}{Y:bT}(h:bQ A j az kb ka ts bq stays ps asked av v p):putD (A++[x]) (.at j) (.str "asked") (.at A.length) Y=.ok (.nx Y) ((A++[x]).set j (.bW (dP id (zl j az kb A.length av v p)))):=by
 rw[mh (Ext.push.same h.o rfl) (by rw[jQ];show 8<eM;decide),IL]
def bQ.abe {x:Ao}{Y:bT}(h:bQ A j az kb ka ts bq stays ps asked av v p):putD (A++[x]) (.at j) (.str "stays") (.at A.length) Y=.ok (.nx Y) ((A++[x]).set j (.bW (dP id (zl j A.length kb ka av v p)))):=by
 rw[mh (Ext.push.same h.o rfl) (by rw[jQ];show 8<eM;decide),IM]
end
open PyProof
section
variable {A:Ab}
def Fh{ns:List Int}(h:0<ns.length):rK ns∈ns/\∀x∈ns,x<=rK ns:=by
 obtain⟨n,h2⟩:=argBest_gt (λi=>ns.getD i 0) (ns.length - 1);have b:argBest (λi j=>decide (ns.getD i 0>ns.getD j 0)) (ns.length - 1)<ns.length:=by omega
 constructor
 ·unfold rK;rw[eJ,bV b];exact kJ _
 ·intro x g;obtain⟨a,ha,e⟩:=List.getElem_of_mem g;have:=h2 a (by omega);have l:ns.getD a 0=x:=by rw[eJ,bV ha,e];rfl
  rw[<-l];exact this
theorem ints_map{α:Type}{f:α->Int}:∀{l:List α},rJ (l.map λx=>.int (f x))=some (l.map f)
 |[]=>rfl
 |x::l=>by show(rJ (l.map λx=>.int (f x))).map (λr=>f x::r)=_;rw[ints_map];rfl
def max_map{f:ag->Int}{l:List ag}(h:l≠[]):K' [.lst (l.map λx=>.int (f x))]=.ok (.int (rK (l.map f))):=by
 show(match rJ (l.map λx=>Tr.int (f x))with|some ns=>if 0<ns.length then Rs.ok (Tr.int (rK ns))else .bad|none=>.bad)=_;rw[ints_map];exact aV (by rw[bt];exact sO.mpr h)
theorem Bx:D4 (.str x) (.lst (ps.map .str))=.ok (.bl (ps.contains x)):=by
 show RT (Kg (.str x) (ps.map .str))=_;have:((ps.map Tr.str).all xV)=true:=by rw[px];exact dz.mpr λ_ _=>rfl
 unfold Kg;rw[aV ⟨rfl,this⟩,List.any_map];show Rs.ok (Tr.bl _)=_;congr 2;rw[List.contains_eq_any_beq];congr 1;funext y;show(y==x)=(x==y);exact Bool.beq_comm
def yA:NS (.str x) (.lst (ps.map .str))=.ok (.bl (!ps.contains x)):=by
 show RT (HE (Kg (.str x) (ps.map .str)))=_;have:RT (Kg (.str x) (ps.map .str))=.ok (.bl (ps.contains x)):=Bx;unfold Kg at*;have h:((ps.map Tr.str).all xV)=true:=by rw[px];exact dz.mpr λ_ _=>rfl
 rw[aV ⟨rfl,h⟩]at*;have e:Rs.ok (Tr.bl ((ps.map Tr.str).any λy=>eqT y (.str x)))=.ok (.bl (ps.contains x)):=this;injection e with e;injection e with e
 show Rs.ok (Tr.bl (!_))=_;rw[e]
def T7{f:ag->Tr}{l:List (Str×ag)}:pM (.bW (dP f l))=.ok (!l.isEmpty):=by cases l<;>rfl
end
def nS(l:List Str):List (Key×Tr):=dP .bl (l.map λz=>(z,true))
theorem GZ{z:Str}:∀{l:List Str},(l.map λz=>(z,true)).lookup z=if l.contains z=true then some true else none
 |[]=>rfl
 |y::l=>by
  rw[bL,cK,List.contains_cons];cases e:(z==y)with
  |true=>rfl
  |false=>rw[GZ,kL]
def Fj:eZ (nS ps) (.inr x)=if ps.contains x=true then some (.bl true)else none:=by
 unfold nS;rw[eI,GZ];cases ps.contains x<;>rfl
def OT:iE (nS ps) (.inr x)=nS (ps.filter λy=>!(y==x)):=by
 unfold nS;rw[Bt];congr 1;unfold kY;rw[pb];congr 1;apply sT;intro y _;show decide (y≠x)=!(y==x);by_cases h:y=x
 ·subst h;simp
 ·simp[h]
def wo:gF (nS ps):=ur λ_ _ _=>LJ
structure fN(A:Ab)(bw:List Str)(c8:List (Str×Nat)):Prop where
 o:A[4]?=some (.bW (dP id [("people",.at 5),("rooms",.at 6)]))
 pe:A[5]?=some (.lst (bw.map .str))
 rs:A[6]?=some (.bW (dP .at c8))
section
variable {A A':Ab}{c8:List (Str×Nat)}{n:Nat}
def fN.T8 (h:fN A ps c8):jX (aY (n+2) A (.at 4)) (.str "people")=.ok (.lst (ps.map .str)):=by
 rw[g8 h.o,dS];show Rs.ok (aY (n+1) A (.at 5))=_;rw[kX h.pe,qV]
def fN.LP (h:fN A ps c8):jX (aY (n+2) A (.at 4)) (.str "rooms")=.ok (.bW (dP (λj=>aY n A (.at j)) c8)):=by
 rw[g8 h.o,dS];show Rs.ok (aY (n+1) A (.at 6))=_;rw[fZ h.rs];unfold dP;rw[cL];rfl
def fN.T9 (h:fN A ps c8):jX (aY 1 A (.at 4)) (.str "rooms")=.ok (.at 6):=by rw[Bv h.o,dS];rfl
def Dy{f:ag->Tr}{l:List (Str×ag)}:Kh (.ok (.bW (dP f l))) (.ok (.str x))=.ok (((l.lookup x).map f).getD .cx):=by
 show(kS (kh (.str x))).bind (λk=>Rs.ok ((eZ (dP f l) k).getD .cx))=_;show Rs.ok ((eZ (dP f l) (.inr x)).getD .cx)=_;rw[eI]
def OU:Gd (.bW aG) .cx=.ok (.bl false):=rfl
end
section
variable {A A':Ab}{kb ka n:Nat}{bq:List (Str×Str)}{stays:List nQ}{asked l':List Str}{p d' v' p' cX:Str}
def bQ.e_o (h:bQ A i az kb ka ts bq stays ps asked x av p)(e:Ext A A' [(i,.bW (dP id (zl i az kb ka d' v' p')))]):bQ A' i az kb ka ts bq stays ps asked d' v' p':=by
 have n:=h.ne;exact⟨e.new h.o LK,e.same h.rw (hX (by omega)),e.same h.rl (hX (by omega)),e.same h.st (hX (by omega)),e.same h.br (hX (by omega)),e.same h.as (hX (by omega)),h.nd⟩
def bQ.p_o {t:Tr}{Y:bT}{l:List (Str×Tr)}(h:bQ A i az kb ka ts bq stays ps asked x av p)(e:e_ (zl i az kb ka x av p) cX t=l):putD A (.at i) (.str cX) t Y=.ok (.nx Y) (A.set i (.bW (dP id l))):=by
 rw[mh h.o (by rw[jQ];show 8<eM;decide),<-e];exact cT (λz=>Rz.ok (Out.nx Y) (A.set i (.bW z))) (kZ (f:=id) (a:=t))
end
noncomputable def arr:Nat->List Str->List (List Str)
 |0,_=>[[]]
 |n+1,l=>[]::l.flatMap λz=>(arr n (l.filter λy=>!(y==z))).map (z::·)
theorem G0:∀{n:Nat} {l ss:List Str},ss.length<=n->ss.Nodup->(∀z∈ss,z∈l)->ss∈arr n l
 |0,l,[],_,_,_=>de.mpr rfl
 |n+1,l,[],_,_,_=>cz ..
 |n+1,l,z::ss,g,hn,hs=>by
  rw[gY]at hn;refine ck _ (List.mem_flatMap.mpr ⟨z,hs z (cz ..),cE.mpr ⟨ss,G0 (wJ g) hn.2 λy b=>gg.mpr ⟨hs y (ck _ b),?_⟩,rfl⟩⟩);have:y≠z:=λe=>hn.1 (e▸b);simpa using this
def OV(ss:List Str):Bool:=match hV ss with
 |some p=>(p.map λi=>ss.getD i ("":Str)).isPerm ss&&sortedS (p.map λi=>ss.getD i ("":Str))
 |none=>false
noncomputable abbrev six:List Str:=["ann","bo","cy","dee","ed","zed"]
def ch5(z y:Str):Bool:=y==z||(((arr 4 ((six.filter λx=>!(x==z)).filter λx=>!(x==y))).map (y::·)).map (z::·)).all OV
set_option maxHeartbeats 4000000 in
def abf:∀z∈six,∀y∈six,ch5 z y=true:=by
 intro z hz y b;simp only[bE,cN,cO]at hz b;rcases hz with rfl|rfl|rfl|rfl|rfl|rfl<;>rcases b with rfl|rfl|rfl|rfl|rfl|rfl<;>decide+kernel
theorem abg:(arr 6 six).all OV=true:=by
 rw[arr,iz,List.all_flatMap,bU,dz];refine⟨rfl,λz hz=>?_⟩;rw[arr,bL,iz,List.map_flatMap,List.all_flatMap,bU,dz];refine⟨(by decide+kernel:∀z∈six,OV [z]=true) z hz,λy b=>?_⟩;have n:=gg.mp b;have h:=abf z hz y n.1;rw[ch5,show(y==z)=false by simpa using n.2,kL]at h;exact h
theorem u_:∀{ss l:List Str},ss.Nodup->(∀z∈ss,z∈l)->ss.length<=l.length
 |[],_,_,_=>d5 _
 |z::ss,l,hn,hs=>by
  rw[gY]at hn;have hz:=hs z (cz ..);have g:=u_ (l:=l.erase z) hn.2 λy b=>(List.mem_erase_of_ne (λe:y=z=>hn.1 (by rw[<-e];exact b))).mpr (hs y (ck _ b));rw[List.length_erase_of_mem hz]at g;have:=List.length_pos_of_mem hz;rw[dt];omega
def Fl{ss:List Str}(q:ss.Nodup)(hs:∀z∈ss,z∈(["ann","bo","cy","dee","ed","zed"]:List Str)):∃p,hV ss=some p/\p.map (λi=>ss.getD i ("":Str))=cZ ss:=by
 have h:=dz.mp abg ss (G0 (u_ q hs) q hs);unfold OV at h;cases e:hV ss with
 |none=>rw[e]at h;cases h
 |some p=>
  rw[e]at h;rw[bU]at h;exact⟨p,rfl,uk (List.isPerm_iff.mp h.1) h.2⟩
theorem Dz{α:Type}{f:α->Tr}:∀{l:List (Str×α)},rM (dP f l)=some (l.map (·.1))
 |[]=>rfl
 |p::l=>by show(rM (dP f l)).map (λs=>p.1::s)=_;rw[Dz];rfl
def Fm{aT:List (Str×Str)}(q:(aT.map (·.1)).Nodup)(hs:∀z∈aT.map (·.1),z∈(["ann","bo","cy","dee","ed","zed"]:List Str))(hl:∀p∈aT,aT.lookup p.1=some p.2):
  we (.bW (dP .str aT))=.ok (.lst ((cZ (aT.map (·.1))).map λz=>.tup [.str z,.str ((aT.lookup z).getD "")])):=by
 obtain⟨p,g,l⟩:=Fl q hs;have n:=u_ q hs;have r:((aT.map (·.1)).all λz=>decide (z.length<=cY))=true:=dz.mpr λz hz=>jj (cB ((by decide+kernel:∀z∈(["ann","bo","cy","dee","ed","zed"]:List Str),z.length<=10) z (hs z hz)) (by decide));show kS ((rM (dP .str aT)).bind λss=>if ss.length<64/\(ss.all λz=>decide (z.length<=cY))=true then(hV ss).map λp=>Tr.lst (p.map λi=>.tup [.str (ss.getD i ("":Str)),((dP .str aT).map (·.2)).getD i .cx])else none)=_;rw[Dz];show kS (if(aT.map (·.1)).length<64/\_ then _ else none)=_;rw[aV ⟨sP n (by decide),r⟩,g];show Rs.ok (Tr.lst _)=_;congr 2;rw[<-l,cL];apply gW;intro i hi;have b:=Ag g i hi;rw[bt]at b;have g1:(aT.map (·.1)).getD i ("":Str)=aT[i].1:=by rw[eJ,b_,bV b];rfl
 have g2:((dP .str aT).map (·.2)).getD i .cx=.str aT[i].2:=by
  unfold dP;rw[cL,eJ,b_,bV b];rfl
 show Tr.tup [.str ((aT.map (·.1)).getD i ("":Str)),((dP .str aT).map (·.2)).getD i .cx]=Tr.tup [.str ((aT.map (·.1)).getD i ("":Str)),.str ((aT.lookup ((aT.map (·.1)).getD i ("":Str))).getD "")];rw[g1,g2,hl aT[i] (kJ _)]
 rfl
section
variable {A:Ab}{n:Nat}{rows:List Tr}{en ch bn iv:List (Key×Tr)}
def bA.abh (h:bA A i rows aG en ch bn iv)(f:ij rows):jY ["Room"] "log" (aY (n+2) A (.at i))=.ok (.lst rows):=by
 rw[gH h.o];show Rs.ok (aY (n+1) A (.at (i+1)))=_;rw[kX h.lg,wg f]
def bA.abi (h:bA A i rows aG en ch bn iv)(f:gF aG):jY ["Room"] "ranks" (aY (n+2) A (.at i))=.ok (.bW aG):=by
 rw[gH h.o];show Rs.ok (aY (n+1) A (.at (i+2)))=_;rw[fZ h.rk,iH f]
def bA.abj (h:bA A i rows aG en ch bn iv)(f:gF ch):jY ["Room"] "chosen" (aY (n+2) A (.at i))=.ok (.bW ch):=by
 rw[gH h.o];show Rs.ok (aY (n+1) A (.at (i+4)))=_;rw[fZ h.ch,iH f]
def bA.abk (h:bA A i rows aG en ch bn iv)(f:gF bn):jY ["Room"] "banned" (aY (n+2) A (.at i))=.ok (.bW bn):=by
 rw[gH h.o];show Rs.ok (aY (n+1) A (.at (i+5)))=_;rw[fZ h.bn,iH f]
def bA.abl (h:bA A i rows aG en ch bn iv)(f:gF iv):jY ["Room"] "invited" (aY (n+2) A (.at i))=.ok (.bW iv):=by
 rw[gH h.o];show Rs.ok (aY (n+1) A (.at (i+6)))=_;rw[fZ h.iv,iH f]
def bA.dG (h:bA A i rows aG en ch bn iv){m:Str}(hm:D6 ((roomF i).map λp=>(p.1,aY n A p.2)) m=true)(F:List Tr->Rs Tr)(l:Rs (List Tr)):vB "Room" m F (.ok (aY (n+1) A (.at i))) l=l.bind λts=>F (aY (n+1) A (.at i)::ts):=by
 rw[gH h.o];exact aV ⟨rfl,hm⟩
variable {bg:List (Str×Bool)}{a9:List (Str×Nat)}
def cw.dG (h:cw A bg a9){m:Str}(hm:D6 (([("persons",.at 1),("places",.at 2),("hands",.at 3)]:List (Str×Tr)).map λp=>(p.1,aY n A p.2)) m=true)(F:List Tr->Rs Tr)(l:Rs (List Tr)):vB "Hall" m F (.ok (aY (n+1) A (.at 0))) l=l.bind λts=>F (aY (n+1) A (.at 0)::ts):=by
 rw[gH h.o];exact aV ⟨rfl,hm⟩
theorem DA{α:Type}{f:α->Tr}:∀{l:List (Str×α)},(∀p∈l,p.1.length<=1000)->vA (dP f l)=some (l.map (·.1))
 |[],_=>rfl
 |p::l,h=>by
  show(if p.1.length<=cY then(vA (dP f l)).map (λr=>p.1::r)else none)=_;rw[aV (cB (h p (cz ..)) (by decide)),DA λq b=>h q (ck _ b)]
  rfl
theorem vc:∀{ss:List Str},oo (ss.map .str)=some ss
 |[]=>rfl
 |z::ss=>by show(oo (ss.map .str)).map (λr=>z::r)=_;rw[vc];rfl
def qX{f:ag->Tr}{l:List (Str×ag)}(h:∀p∈l,p.1.length<=1000)(q:l.length<64):nM [.bW (dP f l)]=.ok (.lst ((cZ (l.map (·.1))).map .str)):=by
 show z5 (vA (dP f l))=_;rw[DA h];exact aV (by rw[bt];exact q)
def Al{ss:List Str}(q:ss.length<64):nM [.lst (ss.map .str)]=.ok (.lst ((cZ ss).map .str)):=by
 show z5 (oo (ss.map .str))=_;rw[vc];exact aV q
theorem OW:(∀T G Y,zc T G [] Y=.ok (.nx Y))/\(∀T G t ts Y,zc T G (t::ts) Y=(T t Y).bind λrA=>(G rA).bind λo=>match o with
  |.nx q=>zc T G ts q
  |.ct q=>zc T G ts q
  |.bk q=>.ok (.nx q)
  |.ret t=>.ok (.ret t))/\(∀T G ts Y,F3 T G (.ok ts) Y=zc T G ts Y)/\(∀ts,EE [.lst ts]=.ok (.tup ts)):=by
 refine⟨?_,?_,?_,?_⟩<;>intros<;>rfl
theorem LQ:∀{ts:List Tr},(∀t∈ts,t=.bl true)->N2 [.lst ts]=.ok (.bl true):=λ{ts} h=>by
 have:HP ts=.ok (ts.map λ_=>true):=by
  induction ts with
  |nil=>rfl
  |cons t ts b=>
   rw[h t (cz ..)];show(HP ts).bind (λzs=>Rs.ok (true::zs))=_;rw[b λu g=>h u (ck _ g)]
   rfl
 show(HP ts).bind (λbs=>Rs.ok (Tr.bl (bs.all id)))=_;rw[this];show Rs.ok (Tr.bl ((ts.map λ_=>true).all id))=_;congr 2;rw[px];exact dz.mpr λ_ _=>rfl
theorem DB:∀{ts:List Tr},Qm ts ts=ts.map λt=>.tup [t,t]
 |[]=>rfl
 |t::ts=>by show Tr.tup [t,t]::Qm ts ts=_;rw[DB];rfl
end
structure U2 where
 bl:List Str
 own:List Str
 Xz:List Str
 fl:List (Str×List Str)
 kd:List Df
 er:List Str
 xs:List (Str⊕String)
 cs:List Str
 rs:List Str
namespace U2
def val(K:Frag):Str⊕String->Value
 |.inl c=>.ref (clsAt K c)
 |.inr c=>.type c
noncomputable def tab(q:List Str):Str⊕String->List (Str×Bool)
 |.inl c=>q.map λx=>(x,x==c)
 |.inr _=>q.map λx=>(x,true)
def Qv(K:Frag)(o:U2):Bool:=o.bl.all (λx=>decide (nsIn K mainGlobals x=some none))&&(o.own.all (λc=>decide (nsIn K mainGlobals c=some (some (.ref (clsAt K c)))))&&(o.Xz.all (λc=>makesIn K (clsAt K c)&&(keepIn K (.ref (clsAt K c))&&decide (nsIn K mainGlobals c=some (some (.ref (clsAt K c))))))&&
 (o.fl.all (λp=>OK K (clsAt K p.1)&&aaW K (clsAt K p.1) p.2)&&(o.kd.all (λd=>decide (specialIn K (.ref (d.adr K)) "__get__"=some (some (.builtin "function.__get__")))&&decide (takesIn K (.ref (d.adr K))=some false))&&
 (Yf K o.er&&(o.xs.all (λc=>Ye K (val K c) (tab o.er c))&&(o.cs.all (λc=>Yg K c o.er)&&o.rs.all (λc=>excIn K (clsAt K c) bmV "ValueError.__new__"))))))))
structure Ok(o:U2)(K:Frag)(mg:Str->Option Value):Prop where
 bl:∀{x},o.bl.contains x=true->mg x=none
 G1:∀{c},o.own.contains c=true->mg c=some (.ref (clsAt K c))
 mk_:∀{c},o.Xz.contains c=true->IG K mg c
 fl:∀{c f fs},o.fl.lookup c=some fs->fs.contains f=true->iV K [c] f
 bn:∀(i:Nat) {d:Df},o.kd[i]?=some d->Ac K (d.adr K)
 xc:∀(i:Nat) {c},o.xs[i]?=some c->iW K (val K c) (tab o.er c)
 ca:∀{c},o.cs.contains c=true->o.own.contains c=true->qR K mg c o.er
 er:∀{c},o.rs.contains c=true->o.own.contains c=true->rH K mg c
def ok{o:U2}{K:Frag}{h:Heap}(X:K.In h)(G:h.Ns mainGlobals mg)(k:o.Qv K=true):o.Ok K mg:=by
 unfold Qv at k;simp only[bU,dz,iy]at k;obtain⟨k1,k2,k3,b,k5,g,r,I,L⟩:=k;have G1:∀{c},o.own.contains c=true->mg c=some (.ref (clsAt K c)):=λm=>mg_of X G (k2 _ (fb.mp m));refine⟨λm=>mg_none_of X G (k1 _ (fb.mp m)),G1,λm=>?_,λ{c f fs} l m=>?_,λi d e=>?_,λi c e=>?_,λm n=>Lz (G1 n) (I _ (fb.mp m)),λm n=>⟨G1 n,L _ (fb.mp m)⟩⟩
 ·have q:=k3 _ (fb.mp m);exact⟨q.1,q.2.1,mg_of X G q.2.2⟩
 ·have q:=b _ (i_ l);refine⟨λx M=>?_⟩;cases de.mp M;exact⟨LA q.1,(eK (dz.mp q.2 f (fb.mp m)):findIn K (.ref (clsAt K c)) f=some none)⟩
 ·have q:=k5 _ (dZ e);exact⟨q.1,q.2⟩
 ·refine TJ (r _ (dZ e)) g ?_
  cases c<;>simp[tab,Function.comp_def]
end U2
end L2
namespace M07
open PySem.W (Frag)
open PySem L2
variable {aN:Nat}{aO:Str}{aP:List Str}
variable {aT bq:List (Str×Str)}{bg:List (Str×Bool)}{ents:List (Str×Int)}{rows:List Tr}{a9 c8:List (Str×Nat)}{cs:List (Bool×Str×Str)}{aZ:Str}{bw:List Str}{A:Ab}{stays:List nQ}
noncomputable def top(i:Nat):Stmt:=PySem.Challenge.pw_talkhall_k07_settings.main.body.getD i (.Pass ⟨0,0,0,0⟩)
def OX:Stmt->List Stmt
 |.ClassDef _ _ _ b _ _ _ _ _ _ _=>b
 |_=>[]
def f9(i j:Nat):Stmt:=(OX (top i)).getD j (.Pass ⟨0,0,0,0⟩)
def By:Df:=⟨none,"level","level",top 23,["role"]⟩
def iJ:Df:=⟨some "Room","claim","Room.claim",f9 24 4,["self","who"]⟩
def ja:Df:=⟨some "Room","write_row","Room.write_row",f9 24 1,["self","who","word","parts"]⟩
def mi:Df:=⟨some "Room","let_in","Room.let_in",f9 24 2,["self","who","word","role"]⟩
def jb:Df:=⟨some "Room","give_role","Room.give_role",f9 24 3,["self","who","whom","role"]⟩
def lh:Df:=⟨some "Room","need_in","Room.need_in",f9 24 6,["self","who"]⟩
def hZ:Df:=⟨some "Hall","need_people","Hall.need_people",f9 26 1,["self","names"]⟩
def iK:Df:=⟨some "Hall","place","Hall.place",f9 26 2,["self","room"]⟩
def jc:Df:=⟨some "Hall","place_for","Hall.place_for",f9 26 3,["self","names","room"]⟩
def qg:Df:=⟨some "Hall","come","Hall.come",f9 26 5,["self","who"]⟩
def g9:Df:=⟨some "Room","__init__","Room.__init__",f9 24 0,["self","who"]⟩
def jR:Df:=⟨some "Hall","__init__","Hall.__init__",f9 26 0,["self"]⟩
def nR:Df:=⟨some "Hall","found","Hall.found",f9 26 8,["self","who","room"]⟩
def fh:Df:=⟨some "Room","see_to_owner","Room.see_to_owner",f9 24 5,["self"]⟩
def h8:Df:=⟨some "Room","need_keeper","Room.need_keeper",f9 24 7,["self","who"]⟩
def jT:Df:=⟨some "Room","may_give","Room.may_give",f9 24 9,["self","who","whom","role"]⟩
def lj:Df:=⟨some "Room","arrange","Room.arrange",f9 24 16,["self","who","what","value"]⟩
def qi:Df:=⟨some "Room","role","Room.role",f9 24 18,["self","who","whom","role"]⟩
def nT:Df:=⟨some "Room","enter","Room.enter",f9 24 14,["self","who"]⟩
def nU:Df:=⟨some "Room","leave","Room.leave",f9 24 15,["self","who"]⟩
def nV:Df:=⟨some "Hall","enter","Hall.enter",f9 26 9,["self","who","room"]⟩
def nW:Df:=⟨some "Hall","leave","Hall.leave",f9 26 10,["self","who","room"]⟩
def ll:Df:=⟨some "Hall","arrange","Hall.arrange",f9 26 11,["self","who","room","what","value"]⟩
def qj:Df:=⟨some "Hall","role","Hall.role",f9 26 13,["self","who","room","whom","role"]⟩
def mj:Df:=⟨some "Hall","people","Hall.people",f9 26 6,["self"]⟩
def nX:Df:=⟨some "Hall","rooms","Hall.rooms",f9 26 7,["self"]⟩
def nY:Df:=⟨some "Room","roles","Room.roles",f9 24 26,["self"]⟩
def qm:Df:=⟨some "Room","rows","Room.rows",f9 24 30,["self"]⟩
def ml:Df:=⟨some "Room","barred","Room.barred",f9 24 28,["self"]⟩
def nZ:Df:=⟨some "Room","asked","Room.asked",f9 24 29,["self"]⟩
def lp:Df:=⟨some "Room","setting","Room.setting",f9 24 27,["self","what"]⟩
def n5:Df:=⟨some "Hall","roles","Hall.roles",f9 26 21,["self","room"]⟩
def qv:Df:=⟨some "Hall","rows","Hall.rows",f9 26 25,["self","room"]⟩
def mn:Df:=⟨some "Hall","barred","Hall.barred",f9 26 23,["self","room"]⟩
def n6:Df:=⟨some "Hall","asked","Hall.asked",f9 26 24,["self","room"]⟩
def lq:Df:=⟨some "Hall","setting","Hall.setting",f9 26 22,["self","room","what"]⟩
def yB:Df:=⟨none,"_law_rank","_law_rank",top 36,["_law_room","_law_who"]⟩
def yC:Df:=⟨none,"_law_word","_law_word",top 32,["_law_kept"]⟩
def vd:Df:=⟨none,"_law_begin","_law_begin",top 35,["_law_people"]⟩
def Bz:Df:=⟨none,"_law_row","_law_row",top 42,["_law_room","_law_who","_law_parts"]⟩
def qY:Df:=⟨none,"_law_enter","_law_enter",top 43,["_law_room","_law_who","_law_word_here"]⟩
def uv:Df:=⟨none,"_law_quit","_law_quit",top 44,["_law_room","_law_who","_law_number"]⟩
def BA:Df:=⟨none,"_law_mix","_law_mix",top 29,["_law_cell_here","_law_prime","_law_many"]⟩
def yD:Df:=⟨none,"_law_cell","_law_cell",top 28,["_law_script","_law_k"]⟩
def kC:Df:=⟨none,"_law_owned","_law_owned",top 45,["_law_room"]⟩
def lT:Df:=⟨none,"_law_changed","_law_changed",top 47,["_law_room","_law_deed_here"]⟩
def yE:Df:=⟨none,"_law_done","_law_done",top 46,["_law_model","_law_deed_here"]⟩
def jd:Df:=⟨none,"_law_refused_deed","_law_refused_deed",top 41,["_law_room","_law_deed_here"]⟩
def jE:Df:=⟨none,"_law_refused","_law_refused",top 39,["_law_model","_law_deed_here"]⟩
def uw:Df:=⟨none,"_law_deed","_law_deed",top 49,["_law_cell_here","_law_model","_law_words_here"]⟩
def yF:Df:=⟨none,"_law_call","_law_call",top 33,["_law_hall_here","_law_deed_here"]⟩
def yG:Df:=⟨none,"_law_told","_law_told",top 34,["_law_hall_here","_law_deed_here"]⟩
def ux:Df:=⟨none,"_law_same","_law_same",top 30,["_law_found","_law_due"]⟩
def yH:Df:=⟨none,"_law_both","_law_both",top 48,["_law_hall_here","_law_model","_law_deed_here"]⟩
def yI:Df:=⟨none,"_law_hall","_law_hall",top 50,["_law_hall_here","_law_model"]⟩
def m5:Df:=⟨none,"_law_is_as","_law_is_as",top 51,["_law_hall_here","_law_model"]⟩
def DC:Df:=⟨none,"law","law",top 52,["_law_script"]⟩
def DS:List Df:=[By,iJ,ja,mi,jb,lh,hZ,iK,jc,qg,g9,jR,nR,fh,h8,jT,lj,qi,nT,nU,nV,nW,ll,qj,mj,nX,nY,qm,ml,nZ,lp,n5,qv,mn,n6,lq,yB,yC,vd,Bz,qY,uv,BA,yD,kC,lT,yE,jd,jE,uw,yF,yG,ux,yH,yI,m5,DC]
structure Qw(K:Frag)(w:World)(mg:Str->Option Value):Prop where
 d:∀(i:Nat) {e:Df},DS[i]?=some e->e.Ok K mg
 ValueError:mg "ValueError"=none
 all:mg "all"=none
 bool:mg "bool"=none
 dict:mg "dict"=none
 int:mg "int"=none
 isinstance:mg "isinstance"=none
 len:mg "len"=none
 list:mg "list"=none
 max:mg "max"=none
 min:mg "min"=none
 range:mg "range"=none
 set:mg "set"=none
 sorted:mg "sorted"=none
 str:mg "str"=none
 tuple:mg "tuple"=none
 zip:mg "zip"=none
 BB:Ac K (iJ.adr K)
 T_:IG K mg "Hall"
 T':IG K mg "Room"
 OY:KW K mg "ROLES" [.str "guest",.str "speaker",.str "keeper",.str "owner"]
 yJ:iV K ["Room"] "banned"
 uy:iV K ["Room"] "chosen"
 ve:iV K ["Room"] "entries"
 OZ:iV K ["Hall"] "hands"
 qZ:iV K ["Room"] "invited"
 G3:iV K ["Room"] "log"
 m6:iV K ["Hall"] "persons"
 jF:iV K ["Hall"] "places"
 eR:iV K ["Room"] "ranks"
 BC:iV K ["Room"] "read_marks"
 zm:iV K ["Room"] "said_by_key"
 LR:AX K w mg "SETTINGS" [("door",.tup [.str "open",.str "asked"]),("voice",.tup [.str "all",.str "some"]),("past",.tup [.str "shown",.str "hidden"])]
 Fo:Bl K w mg "SETTINGS" ["door","voice","past"]
 LS:iW K (.ref (clsAt K "Barred")) [("Known",false),("NoPerson",false),("NoRoom",false),("NotIn",false),("NotAsked",false),("Barred",true),("NoRight",false),("NoRow",false),("NoHand",false),("NoLine",false)]
 O0:iW K (.ref (clsAt K "Known")) [("Known",true),("NoPerson",false),("NoRoom",false),("NotIn",false),("NotAsked",false),("Barred",false),("NoRight",false),("NoRow",false),("NoHand",false),("NoLine",false)]
 LU:iW K (.ref (clsAt K "NoHand")) [("Known",false),("NoPerson",false),("NoRoom",false),("NotIn",false),("NotAsked",false),("Barred",false),("NoRight",false),("NoRow",false),("NoHand",true),("NoLine",false)]
 LV:iW K (.ref (clsAt K "NoLine")) [("Known",false),("NoPerson",false),("NoRoom",false),("NotIn",false),("NotAsked",false),("Barred",false),("NoRight",false),("NoRow",false),("NoHand",false),("NoLine",true)]
 Fp:iW K (.ref (clsAt K "NoPerson")) [("Known",false),("NoPerson",true),("NoRoom",false),("NotIn",false),("NotAsked",false),("Barred",false),("NoRight",false),("NoRow",false),("NoHand",false),("NoLine",false)]
 IP:iW K (.ref (clsAt K "NoRight")) [("Known",false),("NoPerson",false),("NoRoom",false),("NotIn",false),("NotAsked",false),("Barred",false),("NoRight",true),("NoRow",false),("NoHand",false),("NoLine",false)]
 LW:iW K (.ref (clsAt K "NoRoom")) [("Known",false),("NoPerson",false),("NoRoom",true),("NotIn",false),("NotAsked",false),("Barred",false),("NoRight",false),("NoRow",false),("NoHand",false),("NoLine",false)]
 O1:iW K (.ref (clsAt K "NoRow")) [("Known",false),("NoPerson",false),("NoRoom",false),("NotIn",false),("NotAsked",false),("Barred",false),("NoRight",false),("NoRow",true),("NoHand",false),("NoLine",false)]
 Fq:iW K (.ref (clsAt K "NotAsked")) [("Known",false),("NoPerson",false),("NoRoom",false),("NotIn",false),("NotAsked",true),("Barred",false),("NoRight",false),("NoRow",false),("NoHand",false),("NoLine",false)]
 O2:iW K (.ref (clsAt K "NotIn")) [("Known",false),("NoPerson",false),("NoRoom",false),("NotIn",true),("NotAsked",false),("Barred",false),("NoRight",false),("NoRow",false),("NoHand",false),("NoLine",false)]
 BD:iW K (.type "ValueError") [("Known",true),("NoPerson",true),("NoRoom",true),("NotIn",true),("NotAsked",true),("Barred",true),("NoRight",true),("NoRow",true),("NoHand",true),("NoLine",true)]
 IQ:mg "Barred"=some (.ref (clsAt K "Barred"))
 LX:mg "Known"=some (.ref (clsAt K "Known"))
 IS:mg "NoHand"=some (.ref (clsAt K "NoHand"))
 IT:mg "NoLine"=some (.ref (clsAt K "NoLine"))
 DD:mg "NoPerson"=some (.ref (clsAt K "NoPerson"))
 Fs:mg "NoRight"=some (.ref (clsAt K "NoRight"))
 IU:mg "NoRoom"=some (.ref (clsAt K "NoRoom"))
 LY:mg "NoRow"=some (.ref (clsAt K "NoRow"))
 DE:mg "NotAsked"=some (.ref (clsAt K "NotAsked"))
 LZ:mg "NotIn"=some (.ref (clsAt K "NotIn"))
 DF:qR K mg "TalkError" ["Known","NoPerson","NoRoom","NotIn","NotAsked","Barred","NoRight","NoRow","NoHand","NoLine"]
 L3:rH K mg "Barred"
 wq:rH K mg "Known"
 Ft:rH K mg "NoPerson"
 Am:rH K mg "NoRight"
 L4:rH K mg "NoRoom"
 Fu:rH K mg "NotAsked"
 O3:rH K mg "NotIn"
abbrev CS(n:Nat)(d:Df)(a b:Nat):={F:bT->Ab->Rz Out//∀{P:Program} {w:World} {K:Frag} {mg:Str->Option Value} {base:Heap},Qw K w mg->yx P w K mg base (uY P w) n d (vC K (fA a b F))}
abbrev CP(n:Nat)(d:Df)(a b:Nat):={F:bT->Rs Out//∀{P:Program} {w:World} {K:Frag} {mg:Str->Option Value} {base:Heap},Qw K w mg->yx P w K mg base mq n d (spT K (rD a b F))}
abbrev CZ(n:Nat)(d:Df)(a b:Nat):={F:bT->Ab->Rz Out//∀{P:Program} {w:World} {K:Frag} {mg:Str->Option Value} {base:Heap},Qw K w mg->yx P w K mg base mq n d (spT K (CM a b F))}
abbrev CR(n:Nat)(d:Df)(a b:Nat)(r:List Tr->Rs Tr):={F:bT->Rs Out//∀{P:Program} {w:World} {K:Frag} {mg:Str->Option Value} {base:Heap} {k:Nat},Qw K w mg->n<=k->yx P w K mg base mq k d (spT K r)->yx P w K mg base mq (k+1) d (spT K (rD a b F))}
abbrev KS(n:Nat)(d:Df)(m:List Tr->Ab->Rz Tr):Prop:=∀{P:Program} {w:World} {K:Frag} {mg:Str->Option Value} {base:Heap},Qw K w mg->yx P w K mg base (uY P w) n d (vC K m)
abbrev KP(n:Nat)(d:Df)(m:List Tr->Rs Tr):Prop:=∀{P:Program} {w:World} {K:Frag} {mg:Str->Option Value} {base:Heap},Qw K w mg->yx P w K mg base mq n d (spT K m)
noncomputable def G4:CP 1 By 1 1:=⟨_,λT=>jO ["role"] (T.d 0 rfl) λ_ _ _ _ _ _ _ b=>(cy (cG (X' (a_ b) T.OY (aQ 0))))⟩
def wt:=rD 1 1 G4.1
def q_:KP 1 By wt:=G4.2
noncomputable def kl:CP 2 iJ 2 2:=⟨_,λT=>jO ["self","who"] (T.d 1 rfl) λ_ _ _ _ _ _ _ b=>(cy (cG (cc (aR (Qs (eE (q_ T) b (aR (bS (a_ b) (dq T.eR (aQ 0)) (aQ 1)) ba))) (aR (bS (a_ b) (dq T.ve (aQ 0)) (aQ 1)) ba)))))⟩
def iL:=rD 2 2 kl.1
def BE:KP 2 iJ iL:=kl.2
noncomputable def gv:CS 1 ja 4 5:=⟨_,λT=>gP ["self","who","word","parts","number"] (T.d 2 rfl) λb _ _ _ _ _ _ g=>(bp (gO (i:=4) (bo (fj iB (cM i8 T.len (aR (dq T.G3 (aQ 0)) ba)) bC)) b) (bp (cH (Aj nr qD iX u0 (me T.G3 (aW (aQ 0))) (aX (bo (fj iB (cc (aR (aQ 4) (aR (aQ 1) (aR (aQ 2) ba)))) (aQ 3))) bH))) (bO (eY (aW (aQ 4))))))⟩
def m7:=fA 4 5 gv.1
def gw:KS 1 ja m7:=gv.2
noncomputable def jq:CS 2 mi 4 4:=⟨_,λT=>gP ["self","who","word","role"] (T.d 3 rfl) λ_ _ _ _ _ _ _ b=>(bp (hW (a_ b) (me T.ve (aW (aQ 0))) (aW (aQ 1)) (dk (gw T) b (aW (aQ 0)) (aX (aW (aQ 1)) (aX (aW (aQ 2)) (aX (bo (cc ba)) bH))))) (bp (hW (a_ b) (me T.eR (aW (aQ 0))) (aW (aQ 1)) (aW (aQ 3))) (bO (cH (TC (me T.qZ (aW (aQ 0))) (aW (aQ 1)) (bo fU))))))⟩
def rN:=fA 4 4 jq.1
def rO:KS 2 mi rN:=jq.2
noncomputable def gx:CS 2 jb 4 4:=⟨_,λT=>gP ["self","who","whom","role"] (T.d 4 rfl) λ_ _ _ _ _ _ _ b=>(bp (cH (dk (gw T) b (aW (aQ 0)) (aX (aW (aQ 1)) (aX (bo aU) (aX (bo (cc (aR (aQ 2) (aR (aQ 3) ba)))) bH))))) (bO (hW (a_ b) (me T.eR (aW (aQ 0))) (aW (aQ 2)) (aW (aQ 3)))))⟩
def m8:=fA 4 4 gx.1
def m9:KS 2 jb m8:=gx.2
noncomputable def iM:CS 1 lh 2 2:=⟨_,λT=>gP ["self","who"] (T.d 5 rfl) λ_ _ _ _ _ _ _ b=>(bO (fo (cu (bD (ug (a_ b)) (aQ 1) (dq T.eR (aQ 0)))) (bO (iG T.O3 (aX (bo (kW (dE (iF (aQ 1)) (dE aU qd)))) bH))) dv))⟩
def lr:=fA 2 2 iM.1
def iN:KS 1 lh lr:=iM.2
noncomputable def dF:CS 1 hZ 2 3:=⟨_,λT=>gP ["self","names","name"] (T.d 6 rfl) λb _ _ _ _ _ _ g=>(bO (GO (oq (aQ 1)) (fB 2 b) (fJ 2) (bO (fo (cu (bD (ug (a_ g)) (aQ 2) (dq T.m6 (aQ 0)))) (bO (iG T.Ft (aX (bo (kW (dE aU (dE (iF (aQ 2)) qd)))) bH))) dv))))⟩
def h_:=fA 2 3 dF.1
def lu:KS 1 hZ h_:=dF.2
noncomputable def km:CS 1 iK 2 2:=⟨_,λT=>gP ["self","room"] (T.d 7 rfl) λ_ _ _ _ _ _ _ b=>(bp (fo (cu (bD (ug (a_ b)) (aQ 1) (dq T.jF (aQ 0)))) (bO (iG T.L4 (aX (bo (kW (dE aU (dE (iF (aQ 1)) qd)))) bH))) dv) (bO (eY (uq (a_ b) (me T.jF (aW (aQ 0))) (aW (aQ 1))))))⟩
def uz:=fA 2 2 km.1
def BF:KS 1 iK uz:=km.2
noncomputable def ee:CS 2 jc 3 3:=⟨_,λT=>gP ["self","names","room"] (T.d 8 rfl) λ_ _ _ _ _ _ _ b=>(bp (cH (dk (lu T) b (aW (aQ 0)) (aX (aW (aQ 1)) bH))) (bO (eY (dk (BF T) b (aW (aQ 0)) (aX (aW (aQ 2)) bH)))))⟩
def je:=fA 3 3 ee.1
def gy:KS 2 jc je:=ee.2
noncomputable def vI:CS 1 qg 2 2:=⟨_,λT=>gP ["self","who"] (T.d 9 rfl) λ_ _ _ _ _ _ _ b=>(bp (fo (cu (bD (nK (a_ b)) (aQ 1) (dq T.m6 (aQ 0)))) (bO (iG T.wq (aX (bo (kW (dE (iF (aQ 1)) (dE aU qd)))) bH))) dv) (bO (hW (a_ b) (me T.m6 (aW (aQ 0))) (aW (aQ 1)) (bo zk))))⟩
def DG:=fA 2 2 vI.1
def vJ:KS 1 qg DG:=vI.2
def ou:CS 3 g9 2 2:=⟨_,λT=>gP ["self","who"] (T.d 10 rfl) λ_ _ _ _ _ _ _ b=>(bp (qa T.G3 (aW (aQ 0)) (fY (yv ba))) (bp (qa T.eR (aW (aQ 0)) (fY md)) (bp (qa T.ve (aW (aQ 0)) (fY md)) (bp (qa T.uy (aW (aQ 0)) (fY (yw (GG rfl) T.dict (aR (IF (N':=["what"]) (ix:=[none]) (gL.of (N:=["self","who"]) (sc:=bF g9.st) rfl rfl (by decide+kernel)) (Tw T.Fo) ⟨λs H ex=>⟨(fB 0 (by show List.Nodup (["what"]:List Str);decide+kernel)),Ai,(cc (aR (aQ 0) (aR (bS (a_ b) (X8 T.LR (aQ 0)) bC) ba)))⟩⟩ (fJ 0)) ba)))) (bp (qa T.yJ (aW (aQ 0)) (fY md)) (bp (qa T.qZ (aW (aQ 0)) (fY md)) (bp (qa T.BC (aW (aQ 0)) (fY md)) (bp (qa T.zm (aW (aQ 0)) (fY md)) (bO (cH (dk (rO T) b (aW (aQ 0)) (aX (aW (aQ 1)) (aX (bo aU) (aX (bo aU) bH))))))))))))))⟩
def vX:=fA 2 2 ou.1
def vY:KS 3 g9 vX:=ou.2
noncomputable def oz:CS 1 jR 1 1:=⟨_,λT=>gP ["self"] (T.d 11 rfl) λ_ _ _ _ _ _ _ b=>(bp (qa T.m6 (aW (aQ 0)) (fY md)) (bp (qa T.jF (aW (aQ 0)) (fY md)) (bO (qa T.OZ (aW (aQ 0)) (fY (yv ba))))))⟩
def oA:=fA 1 1 oz.1
def vZ:KS 1 jR oA:=oz.2
noncomputable def uA:CS 5 nR 3 3:=⟨_,λT=>gP ["self","who","room"] (T.d 12 rfl) λ_ _ _ _ _ _ _ b=>(bp (cH (dk (lu T) b (aW (aQ 0)) (aX (bo (cc (aR (aQ 1) ba))) bH))) (bp (fo (cu (bD (nK (a_ b)) (aQ 2) (dq T.jF (aQ 0)))) (bO (iG T.wq (aX (bo (kW (dE aU (dE (iF (aQ 2)) (dE aU qd))))) bH))) dv) (bO (hW (a_ b) (me T.jF (aW (aQ 0))) (aW (aQ 2)) (TL (vY T) T.T' b (aX (aW (aQ 1)) bH))))))⟩
def BG:=fA 3 3 uA.1
def BH:KS 5 nR BG:=uA.2
def fi:CS 4 fh 1 3:=⟨_,λT=>gP ["self","owners","heir"] (T.d 13 rfl) λg _ _ _ _ _ _ b=>(bp (Lq (i:=1) (N':=["name","self"]) (ix:=[none,some 0]) (gL.of (N:=["self","owners","heir"]) (sc:=bF fh.st) rfl rfl (by decide+kernel)) (GN (dq T.eR (aQ 0))) ⟨λs H ex=>⟨(fB 0 (by show List.Nodup (["name","self"]:List Str);decide+kernel)),(vG (bD (dX (dC b)) (bS (a_ b) (dq T.eR (aQ 1)) (aQ 0)) aU)),(aQ 0)⟩⟩ (fJ 0) g) (bO (fo (cu (eW (m3 (bD R8 (cM i8 T.len (aR (dq T.eR (aQ 0)) ba)) bC) (i9 (bD (dX (dC b)) (cM i8 T.len (aR (aQ 1) ba)) bC))))) (bp (gO (i:=2) (bo (LD (BE T) T.BB b T.min (eQ (Og rfl) T.list (aR (dq T.eR (aQ 0)) ba)) (aQ 0))) g) (bO (cH (dk (m9 T) b (aW (aQ 0)) (aX (aW (aQ 2)) (aX (aW (aQ 2)) (aX (bo aU) bH))))))) dv)))⟩
def jZ:=fA 1 3 fi.1
def gJ:KS 4 fh jZ:=fi.2
noncomputable def fD:CS 2 h8 2 2:=⟨_,λT=>gP ["self","who"] (T.d 14 rfl) λ_ _ _ _ _ _ _ b=>(bO (fo (cu (bD Kf (eE (q_ T) b (aR (bS (a_ b) (dq T.eR (aQ 0)) (aQ 1)) ba)) (eE (q_ T) b (aR aU ba)))) (bO (iG T.Am (aX (bo (kW (dE (iF (aQ 1)) (dE aU qd)))) bH))) dv))⟩
def lx:=fA 2 2 fD.1
def sC:KS 2 h8 lx:=fD.2
noncomputable def g_:CP 2 jT 4 4:=⟨_,λT=>jO ["self","who","whom","role"] (T.d 15 rfl) λ_ _ _ _ _ _ _ b=>(bN (fV (bD (dX (dC b)) (bS (a_ b) (dq T.eR (aQ 0)) (aQ 1)) aU) (cy (cG (Ah aay (cM (Qp rfl) T.max (aR (eE (q_ T) b (aR (bS (a_ b) (dq T.eR (aQ 0)) (aQ 2)) ba)) (aR (eE (q_ T) b (aR (aQ 3) ba)) ba))) (eE (q_ T) b (aR aU ba))))) dO) (cy (cG (Ah (dX (dC b)) (bS (a_ b) (dq T.eR (aQ 0)) (aQ 1)) aU))))⟩
def oB:=rD 4 4 g_.1
def v5:KP 2 jT oB:=g_.2
noncomputable def iO:CS 3 lj 4 4:=⟨_,λT=>gP ["self","who","what","value"] (T.d 16 rfl) λ_ _ _ _ _ _ _ b=>(bp (cH (dk (iN T) b (aW (aQ 0)) (aX (aW (aQ 1)) bH))) (bp (cH (dk (sC T) b (aW (aQ 0)) (aX (aW (aQ 1)) bH))) (bp (cH (dk (gw T) b (aW (aQ 0)) (aX (aW (aQ 1)) (aX (bo aU) (aX (bo (cc (aR (aQ 2) (aR (aQ 3) ba)))) bH))))) (bO (hW (a_ b) (me T.uy (aW (aQ 0))) (aW (aQ 2)) (aW (aQ 3)))))))⟩
def ly:=fA 4 4 iO.1
def yK:KS 3 lj ly:=iO.2
noncomputable def ik:CS 5 qi 4 4:=⟨_,λT=>gP ["self","who","whom","role"] (T.d 17 rfl) λ_ _ _ _ _ _ _ b=>(bp (cH (dk (iN T) b (aW (aQ 0)) (aX (aW (aQ 1)) bH))) (bp (cH (dk (iN T) b (aW (aQ 0)) (aX (aW (aQ 2)) bH))) (bp (fo (cu (yt (mZ (jP (v5 T) b (aQ 0) (aR (aQ 1) (aR (aQ 2) (aR (aQ 3) ba))))))) (bO (iG T.Am (aX (bo (kW (dE (iF (aQ 1)) (dE aU (dE (iF (aQ 2)) (dE aU (dE (iF (aQ 3)) qd))))))) bH))) dv) (bp (fo (cu (bD (dX (dC b)) (bS (a_ b) (dq T.eR (aQ 0)) (aQ 2)) (aQ 3))) (bO (iG T.wq (aX (bo (kW (dE (iF (aQ 2)) (dE aU (dE (iF (aQ 3)) qd))))) bH))) dv) (bp (cH (dk (m9 T) b (aW (aQ 0)) (aX (aW (aQ 1)) (aX (aW (aQ 2)) (aX (aW (aQ 3)) bH))))) (bO (cH (Bs (gJ T) b (aW (aQ 0))))))))))⟩
def f_:=fA 4 4 ik.1
def DH:KS 5 qi f_:=ik.2
noncomputable def dM:CS 5 nT 2 2:=⟨_,λT=>gP ["self","who"] (T.d 18 rfl) λ_ _ _ _ _ _ _ b=>(bp (fo (cu (bD (nK (a_ b)) (aQ 1) (dq T.eR (aQ 0)))) (bO (iG T.wq (aX (bo (kW (dE (iF (aQ 1)) (dE aU qd)))) bH))) dv) (bp (fo (cu (bD (nK (a_ b)) (aQ 1) (dq T.yJ (aQ 0)))) (bO (iG T.L3 (aX (bo (kW (dE (iF (aQ 1)) (dE aU qd)))) bH))) dv) (bp (fo (cu (eW (m3 (bD (dX (dC b)) (bS (a_ b) (dq T.uy (aQ 0)) aU) aU) (i9 (bD (ug (a_ b)) (aQ 1) (dq T.qZ (aQ 0))))))) (bO (iG T.Fu (aX (bo (kW (dE (iF (aQ 1)) (dE aU qd)))) bH))) dv) (bp (cH (dk (rO T) b (aW (aQ 0)) (aX (aW (aQ 1)) (aX (bo aU) (aX (bo aU) bH))))) (bO (cH (Bs (gJ T) b (aW (aQ 0)))))))))⟩
def eV:=fA 2 2 dM.1
def BI:KS 5 nT eV:=dM.2
noncomputable def gz:CS 5 nU 2 2:=⟨_,λT=>gP ["self","who"] (T.d 19 rfl) λ_ _ _ _ _ _ _ b=>(bp (cH (dk (iN T) b (aW (aQ 0)) (aX (aW (aQ 1)) bH))) (bp (cH (dk (gw T) b (aW (aQ 0)) (aX (aW (aQ 1)) (aX (bo aU) (aX (bo (cc ba)) bH))))) (bp (cH (Lp (me T.eR (aW (aQ 0))) (aW (aQ 1)))) (bO (cH (Bs (gJ T) b (aW (aQ 0))))))))⟩
def gA:=fA 2 2 gz.1
def BJ:KS 5 nU gA:=gz.2
noncomputable def kn:CS 6 nV 3 3:=⟨_,λT=>gP ["self","who","room"] (T.d 20 rfl) λ_ _ _ _ _ _ _ b=>(bO (cH (dk (BI T) b (dk (gy T) b (aW (aQ 0)) (aX (bo (cc (aR (aQ 1) ba))) (aX (aW (aQ 2)) bH))) (aX (aW (aQ 1)) bH))))⟩
def n8:=fA 3 3 kn.1
def BK:KS 6 nV n8:=kn.2
noncomputable def ko:CS 6 nW 3 3:=⟨_,λT=>gP ["self","who","room"] (T.d 21 rfl) λ_ _ _ _ _ _ _ b=>(bO (cH (dk (BJ T) b (dk (gy T) b (aW (aQ 0)) (aX (bo (cc (aR (aQ 1) ba))) (aX (aW (aQ 2)) bH))) (aX (aW (aQ 1)) bH))))⟩
def n_:=fA 3 3 ko.1
def BL:KS 6 nW n_:=ko.2
noncomputable def iP:CS 4 ll 5 5:=⟨_,λT=>gP ["self","who","room","what","value"] (T.d 22 rfl) λ_ _ _ _ _ _ _ b=>(bO (cH (dk (yK T) b (dk (gy T) b (aW (aQ 0)) (aX (bo (cc (aR (aQ 1) ba))) (aX (aW (aQ 2)) bH))) (aX (aW (aQ 1)) (aX (aW (aQ 3)) (aX (aW (aQ 4)) bH))))))⟩
def yL:=fA 5 5 iP.1
def yM:KS 4 ll yL:=iP.2
noncomputable def lU:CS 6 qj 5 5:=⟨_,λT=>gP ["self","who","room","whom","role"] (T.d 23 rfl) λ_ _ _ _ _ _ _ b=>(bO (cH (dk (DH T) b (dk (gy T) b (aW (aQ 0)) (aX (bo (cc (aR (aQ 1) (aR (aQ 3) ba)))) (aX (aW (aQ 2)) bH))) (aX (aW (aQ 1)) (aX (aW (aQ 3)) (aX (aW (aQ 4)) bH))))))⟩
def DI:=fA 5 5 lU.1
def DJ:KS 6 qj DI:=lU.2
noncomputable def jr:CP 1 mj 1 1:=⟨_,λT=>jO ["self"] (T.d 24 rfl) λ_ _ _ _ _ _ _ b=>(cy (cG (eQ g7 T.tuple (aR (cM (jB rfl) T.sorted (aR (dq T.m6 (aQ 0)) ba)) ba))))⟩
def rP:=rD 1 1 jr.1
def zo:KP 1 mj rP:=jr.2
noncomputable def kr:CP 1 nX 1 1:=⟨_,λT=>jO ["self"] (T.d 25 rfl) λ_ _ _ _ _ _ _ b=>(cy (cG (eQ g7 T.tuple (aR (cM (jB rfl) T.sorted (aR (dq T.jF (aQ 0)) ba)) ba))))⟩
def uB:=rD 1 1 kr.1
def BM:KP 1 nX uB:=kr.2
noncomputable def hJ:CP 1 iK 2 2:=⟨_,λT=>jO ["self","room"] (T.d 7 rfl) λ_ _ _ _ _ _ _ b=>(bN (fV (bD (ug (a_ b)) (aQ 1) (dq T.jF (aQ 0))) (cy Yc) dO) (cy (cG (bS (a_ b) (dq T.jF (aQ 0)) (aQ 1)))))⟩
def oC:=rD 2 2 hJ.1
def fG:KP 1 iK oC:=hJ.2
noncomputable def ky:CP 1 nY 1 1:=⟨_,λT=>jO ["self"] (T.d 26 rfl) λ_ _ _ _ _ _ _ b=>(cy (cG (eQ g7 T.tuple (aR (Lw T.sorted (dq T.eR (aQ 0))) ba))))⟩
def uC:=rD 1 1 ky.1
def BN:KP 1 nY uC:=ky.2
noncomputable def lV:CP 1 qm 1 1:=⟨_,λT=>jO ["self"] (T.d 27 rfl) λ_ _ _ _ _ _ _ b=>(cy (cG (eQ g7 T.tuple (aR (dq T.G3 (aQ 0)) ba))))⟩
def vK:=rD 1 1 lV.1
def DK:KP 1 qm vK:=lV.2
noncomputable def js:CP 1 ml 1 1:=⟨_,λT=>jO ["self"] (T.d 28 rfl) λ_ _ _ _ _ _ _ b=>(cy (cG (eQ g7 T.tuple (aR (cM (jB rfl) T.sorted (aR (dq T.yJ (aQ 0)) ba)) ba))))⟩
def rQ:=rD 1 1 js.1
def zp:KP 1 ml rQ:=js.2
noncomputable def kz:CP 1 nZ 1 1:=⟨_,λT=>jO ["self"] (T.d 29 rfl) λ_ _ _ _ _ _ _ b=>(cy (cG (eQ g7 T.tuple (aR (cM (jB rfl) T.sorted (aR (dq T.qZ (aQ 0)) ba)) ba))))⟩
def uD:=rD 1 1 kz.1
def BO:KP 1 nZ uD:=kz.2
noncomputable def iQ:CP 1 lp 2 2:=⟨_,λT=>jO ["self","what"] (T.d 30 rfl) λ_ _ _ _ _ _ _ b=>(cy (cG (bS (a_ b) (dq T.uy (aQ 0)) (aQ 1))))⟩
def qw:=rD 2 2 iQ.1
def yN:KP 1 lp qw:=iQ.2
noncomputable def kA:CP 2 n5 2 2:=⟨_,λT=>jO ["self","room"] (T.d 31 rfl) λ_ _ _ _ _ _ _ b=>(cy (cG (qT (BN T) b (jP (fG T) b (aQ 0) (aR (aQ 1) ba)))))⟩
def uE:=rD 2 2 kA.1
def BP:KP 2 n5 uE:=kA.2
noncomputable def lW:CP 2 qv 2 2:=⟨_,λT=>jO ["self","room"] (T.d 32 rfl) λ_ _ _ _ _ _ _ b=>(cy (cG (qT (DK T) b (jP (fG T) b (aQ 0) (aR (aQ 1) ba)))))⟩
def vL:=rD 2 2 lW.1
def DL:KP 2 qv vL:=lW.2
noncomputable def jt:CP 2 mn 2 2:=⟨_,λT=>jO ["self","room"] (T.d 33 rfl) λ_ _ _ _ _ _ _ b=>(cy (cG (qT (zp T) b (jP (fG T) b (aQ 0) (aR (aQ 1) ba)))))⟩
def rR:=rD 2 2 jt.1
def zq:KP 2 mn rR:=jt.2
noncomputable def kB:CP 2 n6 2 2:=⟨_,λT=>jO ["self","room"] (T.d 34 rfl) λ_ _ _ _ _ _ _ b=>(cy (cG (qT (BO T) b (jP (fG T) b (aQ 0) (aR (aQ 1) ba)))))⟩
def uF:=rD 2 2 kB.1
def BQ:KP 2 n6 uF:=kB.2
noncomputable def iR:CP 2 lq 3 3:=⟨_,λT=>jO ["self","room","what"] (T.d 35 rfl) λ_ _ _ _ _ _ _ b=>(cy (cG (jP (yN T) b (jP (fG T) b (aQ 0) (aR (aQ 1) ba)) (aR (aQ 2) ba))))⟩
def qA:=rD 3 3 iR.1
def yO:KP 2 lq qA:=iR.2
noncomputable def m_:CP 1 yB 2 2:=⟨_,λT=>jO ["_law_room","_law_who"] (T.d 36 rfl) λ_ _ _ _ _ _ _ b=>(cy (cG (Dw (bD (nK (a_ b)) (aQ 1) (bS (a_ b) (aQ 0) aU)) (Ya (a_ b) (aR aU (aR aU (aR aU (aR aU ba)))) (bS (a_ b) (bS (a_ b) (aQ 0) aU) (aQ 1))) (Qs bC))))⟩
def yP:=rD 2 2 m_.1
def uG:KP 1 yB yP:=m_.2
noncomputable def DM:CP 1 yC 1 3:=⟨_,λT=>jO ["_law_kept","_law_kinds","_law_words_here"] (T.d 37 rfl) λb _ _ _ _ _ _ g=>(bN (fk (i:=1) (p7 (aR (mf T.O0 T.LX T.isinstance (aQ 0)) (aR (mf T.Fp T.DD T.isinstance (aQ 0)) ba))) b) (bN (fk (i:=1) (fj iB (aQ 1) (p7 (aR (mf T.LW T.IU T.isinstance (aQ 0)) (aR (mf T.O2 T.LZ T.isinstance (aQ 0)) ba)))) b) (bN (fk (i:=1) (fj iB (aQ 1) (p7 (aR (mf T.Fq T.DE T.isinstance (aQ 0)) (aR (mf T.LS T.IQ T.isinstance (aQ 0)) ba)))) b) (bN (fk (i:=1) (fj iB (aQ 1) (p7 (aR (mf T.IP T.Fs T.isinstance (aQ 0)) ba))) b) (bN (fk (i:=1) (fj iB (aQ 1) (p7 (aR (mf T.O1 T.LY T.isinstance (aQ 0)) (aR (mf T.LU T.IS T.isinstance (aQ 0)) (aR (mf T.LV T.IT T.isinstance (aQ 0)) ba))))) b) (bN (fk (i:=2) (cc (aR aU (aR aU (aR aU (aR aU (aR aU (aR aU ba))))))) b) (bN (fk (i:=2) (fj iB (aQ 2) (cc (aR aU (aR aU (aR aU (aR aU ba)))))) b) (bN (fV (eW (Dv (bD (HN (dC g)) (X_ PySem.F.slot_list_count PySem.F.type_list_count (SU (a_ g)) (aQ 1) zk) bC) (vF (yt (mZ (TH T.BD T.ValueError T.isinstance (aQ 0))))))) (cy (cG aU)) dO) (cy (cG (bS (a_ g) (aQ 2) (X_ PySem.F.slot_list_index PySem.F.type_list_index (SS (a_ g)) (aQ 1) zk))))))))))))⟩
def yQ:=rD 1 3 DM.1
def L5:KP 1 yC yQ:=DM.2
noncomputable def An:CS 1 vd 1 1:=⟨_,λT=>gP ["_law_people"] (T.d 38 rfl) λ_ _ _ _ _ _ _ b=>(bO (eY (Lx (nO (aW aU) (fY (yw N7 T.list (aR (aQ 0) ba))) (nO (aW aU) (fY md) K4)))))⟩
def Ap:=fA 1 1 An.1
def IV:KS 1 vd Ap:=An.2
noncomputable def wu:CS 1 Bz 3 3:=⟨_,λT=>gP ["_law_room","_law_who","_law_parts"] (T.d 39 rfl) λ_ _ _ _ _ _ _ b=>(bp (cH (Aj nr qD iX u0 (uq (a_ b) (aW (aQ 0)) (bo aU)) (aX (bo (fj iB (cc (aR (fj iB (cM i8 T.len (aR (bS (a_ b) (aQ 0) aU) ba)) bC) (aR (aQ 1) ba))) (aQ 2))) bH))) (bO (eY (bo (cM i8 T.len (aR (bS (a_ b) (aQ 0) aU) ba))))))⟩
def BR:=fA 3 3 wu.1
def uH:KS 1 Bz BR:=wu.2
def ra:CS 2 qY 3 5:=⟨_,λT=>gP ["_law_room","_law_who","_law_word_here","_law_number","_law_first"] (T.d 40 rfl) λg _ _ _ _ _ _ b=>(bp (gO (i:=3) (gQ (uH T) b (aX (aW (aQ 0)) (aX (aW (aQ 1)) (aX (bo (cc (aR (aQ 2) ba))) bH)))) g) (bp (gO (i:=4) (bo (Dw (bD (dX (dC b)) (bS (a_ b) (aQ 0) aU) aU) bC (aQ 3))) g) (bp (cH (Aj nr qD iX u0 (uq (a_ b) (aW (aQ 0)) (bo aU)) (aX (bo (cc (aR (aQ 1) (aR (aQ 4) (aR (aQ 3) (aR fU ba)))))) bH))) (bp (hW (a_ b) (uq (a_ b) (aW (aQ 0)) (bo aU)) (aW (aQ 1)) (bo aU)) (bO (hW (a_ b) (aW (aQ 0)) (bo aU) (fY (Tz (N':=["_law_one","_law_who"]) (ix:=[none,some 1]) (gL.of (N:=["_law_room","_law_who","_law_word_here","_law_number","_law_first"]) (sc:=bF qY.st) rfl rfl (by decide+kernel)) (oq (bS (a_ b) (aQ 0) aU)) ⟨λs H ex=>⟨(fB 0 (by show List.Nodup (["_law_one","_law_who"]:List Str);decide+kernel)),(vG (bD (HN (dC b)) (aQ 0) (aQ 1))),(aQ 0)⟩⟩ (fJ 0)))))))))⟩
def vf:=fA 3 5 ra.1
def Aq:KS 2 qY vf:=ra.2
def uI:CS 1 uv 3 3:=⟨_,λT=>gP ["_law_room","_law_who","_law_number"] (T.d 41 rfl) λ_ _ _ _ _ _ _ b=>(bp (cH (Lp (uq (a_ b) (aW (aQ 0)) (bo aU)) (aW (aQ 1)))) (bO (hW (a_ b) (aW (aQ 0)) (bo aU) (fY (Tz (N':=["_law_stay","_law_who","_law_number"]) (ix:=[none,some 1,some 2]) (gL.of (N:=["_law_room","_law_who","_law_number"]) (sc:=bF uv.st) rfl rfl (by decide+kernel)) (oq (bS (a_ b) (aQ 0) aU)) ⟨λs H ex=>⟨(fB 0 (by show List.Nodup (["_law_stay","_law_who","_law_number"]:List Str);decide+kernel)),Ai,(Dw (eW (m3 (bD (dX (dC b)) (bS (a_ b) (aQ 0) bC) (aQ 1)) (i9 (bD CH (bS (a_ b) (aQ 0) bC) fU)))) (fj iB (vH (aQ 0) p9 (p_ bC)) (cc (aR (aQ 2) ba))) (aQ 0))⟩⟩ (fJ 0))))))⟩
def yR:=fA 3 3 uI.1
def DN:KS 1 uv yR:=uI.2
noncomputable def wx:CP 1 BA 3 4:=⟨_,λT=>jO ["_law_cell_here","_law_prime","_law_many","_law_blend"] (T.d 42 rfl) λb _ _ _ _ _ _ g=>(bN (fk (i:=3) (fj CC (fj Kd (aQ 0) bC) (aQ 1)) b) (cy (cG (fj CC (fj CC (fj Kd (aQ 3) (fj iB (aQ 3) bC)) (aQ 1)) (aQ 2)))))⟩
def G5:=rD 3 4 wx.1
def ju:KP 1 BA G5:=wx.2
noncomputable def DO:CP 1 yD 2 2:=⟨_,λT=>jO ["_law_script","_law_k"] (T.d 43 rfl) λ_ _ _ _ _ _ _ b=>(bN (fV (bD Kf (aQ 1) (cM i8 T.len (aR (aQ 0) ba))) (cy (cG (bS (a_ b) (aQ 0) (aQ 1)))) dO) (cy (cG bC)))⟩
def DP:=rD 2 2 DO.1
def L6:KP 1 yD DP:=DO.2
def rb:CS 2 kC 1 3:=⟨_,λT=>gP ["_law_room","_law_most","_law_there"] (T.d 44 rfl) λg _ _ _ _ _ _ b=>(bp (fo (cu (eW (Dv (yt (mZ (bS (a_ b) (aQ 0) aU))) (vF (bD (nK (a_ b)) aU (Qt (N':=["_law_who","_law_room"]) (ix:=[none,some 0]) (gL.of (N:=["_law_room","_law_most","_law_there"]) (sc:=bF kC.st) rfl rfl (by decide+kernel)) (GN (bS (a_ b) (aQ 0) aU)) ⟨λs H ex=>⟨(fB 0 (by show List.Nodup (["_law_who","_law_room"]:List Str);decide+kernel)),Ai,(bS (a_ b) (bS (a_ b) (aQ 1) aU) (aQ 0))⟩⟩ (fJ 0))))))) (bO Tx) dv) (bp (gO (i:=1) (bo (cM (Qp rfl) T.max (aR (Qt (N':=["_law_who","_law_room"]) (ix:=[none,some 0]) (gL.of (N:=["_law_room","_law_most","_law_there"]) (sc:=bF kC.st) rfl rfl (by decide+kernel)) (GN (bS (a_ b) (aQ 0) aU)) ⟨λs H ex=>⟨(fB 0 (by show List.Nodup (["_law_who","_law_room"]:List Str);decide+kernel)),Ai,(eE (uG T) b (aR (aQ 1) (aR (aQ 0) ba)))⟩⟩ (fJ 0)) ba))) g) (bp (OF (i:=2) (N':=["_law_stay","_law_most","_law_room"]) (ix:=[none,some 1,some 0]) (gL.of (N:=["_law_room","_law_most","_law_there"]) (sc:=bF kC.st) rfl rfl (by decide+kernel)) (oq (bS (a_ b) (aQ 0) aU)) ⟨λs H ex=>⟨(fB 0 (by show List.Nodup (["_law_stay","_law_most","_law_room"]:List Str);decide+kernel)),(vG (eW (m3 (bD CH (bS (a_ b) (aQ 0) bC) fU) (i9 (bD (dX (dC b)) (eE (uG T) b (aR (aQ 2) (aR (bS (a_ b) (aQ 0) bC) ba))) (aQ 1)))))),(bS (a_ b) (aQ 0) bC)⟩⟩ (fJ 0) g) (bp (hW (a_ b) (uq (a_ b) (aW (aQ 0)) (bo aU)) (bo (bS (a_ b) (aQ 2) bC)) (bo aU)) (bO (cH (gQ (uH T) b (aX (aW (aQ 0)) (aX (bo (bS (a_ b) (aQ 2) bC)) (aX (bo (cc (aR aU (aR (bS (a_ b) (aQ 2) bC) (aR aU ba))))) bH))))))))))⟩
def kD:=fA 1 3 rb.1
def IW:KS 2 kC kD:=rb.2
def il:CS 2 lT 2 6:=⟨_,λT=>gP ["_law_room","_law_deed_here","_law_word_here","_law_who","_law_names","_law_number"] (T.d 45 rfl) λg _ _ _ _ _ _ b=>(bp (Qu (GL (is:=[2,3]) (p8 (i:=2) (p8 (i:=3) GK g) g)) (Ey [2,3]) (bo (vH (aQ 1) p9 (p_ bC)))) (bp (gO (i:=4) (fY (yw (GG rfl) T.dict (aR (p7 (aR (cc (aR aU (aR aU ba))) (aR (cc (aR aU (aR aU ba))) ba))) ba))) g) (bp (gO (i:=5) (gQ (uH T) b (aX (aW (aQ 0)) (aX (aW (aQ 3)) (aX (bo (fj iB (cc (aR (Lo (a_ b) (aQ 4) (aQ 2) (aQ 2)) ba)) (vH (aQ 1) (p_ bC) p9))) bH)))) g) (bp (fo (cu (bD (dX (dC b)) (aQ 2) aU)) (bO (hW (a_ b) (aW (aQ 0)) (bo (bS (a_ b) (aQ 1) bC)) (bo (bS (a_ b) (aQ 1) bC)))) dv) (bp (fo (cu (bD (dX (dC b)) (aQ 2) aU)) (bO (cH (Aj nr qD iX u0 (uq (a_ b) (aW (aQ 0)) (bo aU)) (aX (bo (bS (a_ b) (aQ 1) bC)) bH)))) dv) (bp (fo (cu (bD (dX (dC b)) (aQ 2) aU)) (bO (hW (a_ b) (uq (a_ b) (aW (aQ 0)) (bo aU)) (bo (bS (a_ b) (aQ 1) bC)) (bo (bS (a_ b) (aQ 1) bC)))) dv) (bp (fo (cu (bD (dX (dC b)) (aQ 2) aU)) (bO (cH (Aj nr qD iX u0 (uq (a_ b) (aW (aQ 0)) (bo aU)) (aX (bo (bS (a_ b) (aQ 1) bC)) bH)))) dv) (bp (fo (cu (bD (dX (dC b)) (aQ 2) aU)) (bO (hW (a_ b) (aW (aQ 0)) (bo aU) (fY (Tz (N':=["_law_one","_law_deed_here"]) (ix:=[none,some 1]) (gL.of (N:=["_law_room","_law_deed_here","_law_word_here","_law_who","_law_names","_law_number"]) (sc:=bF lT.st) rfl rfl (by decide+kernel)) (oq (bS (a_ b) (aQ 0) aU)) ⟨λs H ex=>⟨(fB 0 (by show List.Nodup (["_law_one","_law_deed_here"]:List Str);decide+kernel)),(vG (bD (HN (dC b)) (aQ 0) (bS (a_ b) (aQ 1) bC))),(aQ 0)⟩⟩ (fJ 0))))) dv) (bO (fo (cu (eW (m3 (bD (nK (a_ b)) (aQ 2) (cc (aR aU (aR aU ba)))) (i9 (bD (nK (a_ b)) (bS (a_ b) (aQ 1) bC) (bS (a_ b) (aQ 0) aU)))))) (bO (cH (gQ (DN T) b (aX (aW (aQ 0)) (aX (bo (bS (a_ b) (aQ 1) bC)) (aX (aW (aQ 5)) bH)))))) dv))))))))))⟩
def lX:=fA 2 6 il.1
def DQ:KS 2 lT lX:=il.2
noncomputable def jG:CS 3 yE 2 5:=⟨_,λT=>gP ["_law_model","_law_deed_here","_law_word_here","_law_who","_law_room"] (T.d 46 rfl) λg _ _ _ _ _ _ b=>(bp (Qu (GL (is:=[2,3]) (p8 (i:=2) (p8 (i:=3) GK g) g)) (Ey [2,3]) (bo (vH (aQ 1) p9 (p_ bC)))) (bp (fo (cu (bD (dX (dC b)) (aQ 2) aU)) (bp (cH (Aj nr qD iX u0 (uq (a_ b) (aW (aQ 0)) (bo aU)) (aX (aW (aQ 3)) bH))) (bO (eY (bo fU)))) dv) (bp (fo (cu (bD (dX (dC b)) (aQ 2) aU)) (bp (gO (i:=4) (Lx (nO (aW aU) (fY (yv ba)) (nO (aW aU) (fY md) (nO (aW aU) (fY (yv ba)) (nO (aW aU) (fY (yv ba)) (nO (aW aU) (fY (yv ba)) K4)))))) g) (bp (cH (Yd (aW (aQ 4)) (aW (Ln (Br aU aU (Br aU aU (Br aU aU P6))))))) (bp (hW (a_ b) (uq (a_ b) (aW (aQ 0)) (bo aU)) (bo (bS (a_ b) (aQ 1) bC)) (aW (aQ 4))) (bp (cH (gQ (Aq T) b (aX (aW (aQ 4)) (aX (aW (aQ 3)) (aX (bo aU) bH))))) (bp (hW (a_ b) (uq (a_ b) (aW (aQ 4)) (bo aU)) (aW (aQ 3)) (bo aU)) (bO (eY (bo fU)))))))) dv) (bp (gO (i:=4) (uq (a_ b) (uq (a_ b) (aW (aQ 0)) (bo aU)) (bo (bS (a_ b) (aQ 1) bC))) g) (bp (fo (cu (bD (dX (dC b)) (aQ 2) aU)) (bO (eY (gQ (uH T) b (aX (aW (aQ 4)) (aX (aW (aQ 3)) (aX (bo (fj iB (vH (aQ 1) p9 (p_ bC)) (vH (aQ 1) (p_ bC) p9))) bH)))))) dv) (bp (fo (cu (bD (dX (dC b)) (aQ 2) aU)) (bO (cH (gQ (Aq T) b (aX (aW (aQ 4)) (aX (aW (aQ 3)) (aX (bo aU) bH)))))) (bO (fo (cu (bD (dX (dC b)) (aQ 2) aU)) (bO (cH (gQ (DN T) b (aX (aW (aQ 4)) (aX (aW (aQ 3)) (aX (gQ (uH T) b (aX (aW (aQ 4)) (aX (aW (aQ 3)) (aX (bo (cc (aR aU ba))) bH)))) bH)))))) (bO (cH (gQ (DQ T) b (aX (aW (aQ 4)) (aX (aW (aQ 1)) bH)))))))) (bp (cH (gQ (IW T) b (aX (aW (aQ 4)) bH))) (bO (eY (bo fU))))))))))⟩
def nc:=fA 2 5 jG.1
def DR:KS 3 yE nc:=jG.2
noncomputable def eB:CP 2 jd 2 6:=⟨_,λT=>jO ["_law_room","_law_deed_here","_law_word_here","_law_who","_law_mine","_law_yours"] (T.d 47 rfl) λg _ _ _ _ _ _ b=>(bN (X7 (GL (is:=[2,3]) (p8 (i:=2) (p8 (i:=3) GK g) g)) (vH (aQ 1) p9 (p_ bC))) (bN (fk (i:=4) (eE (uG T) b (aR (aQ 0) (aR (aQ 3) ba))) g) (bN (fk (i:=5) (eE (uG T) b (aR (aQ 0) (aR (bS (a_ b) (aQ 1) bC) ba))) g) (bN (fV (eW (m3 (bD (nK (a_ b)) (aQ 2) (cc (aR aU (aR aU ba)))) (i9 (bD Kf (aQ 5) bC)))) (cy (cG aU)) dO) (bN (fV (bD (dX (dC b)) (aQ 2) aU) (bN (fV (eW (Dv (bD Kf (aQ 4) bC) (vF (eW (m3 (bD (dX (dC b)) (aQ 4) bC) (i9 (eW (Dv (bD R8 (aQ 5) bC) (vF (bD (nK (a_ b)) (bS (a_ b) (aQ 1) bC) (cc (aR aU (aR aU ba))))))))))))) (cy (cG aU)) dO) (cy (cG (Dw (bD (dX (dC b)) (bS (a_ b) (bS (a_ b) (aQ 0) aU) (bS (a_ b) (aQ 1) bC)) (bS (a_ b) (aQ 1) bC)) aU fU)))) dO) (bN (fV (eW (Dv (bD Kf (aQ 4) bC) (vF (eW (m3 (bD (nK (a_ b)) (aQ 2) (cc (aR aU (aR aU ba)))) (i9 (bD Wq (aQ 5) (aQ 4)))))))) (cy (cG aU)) dO) (bN (fV (eW (Dv (eW (m3 (bD (dX (dC b)) (aQ 2) aU) (i9 (bD Wq (aQ 5) bC)))) (vF (eW (m3 (bD (dX (dC b)) (aQ 2) aU) (i9 (bD (nK (a_ b)) (bS (a_ b) (aQ 1) bC) (bS (a_ b) (aQ 0) aU)))))))) (cy (cG aU)) dO) (bN (fV (eW (m3 (bD (dX (dC b)) (aQ 2) aU) (i9 (bD (ug (a_ b)) (bS (a_ b) (aQ 1) bC) (bS (a_ b) (aQ 0) aU))))) (cy (cG aU)) dO) (cy (cG fU))))))))))⟩
def gB:=rD 2 6 eB.1
def vg:KP 2 jd gB:=eB.2
def ip:CP 3 jE 2 5:=⟨_,λT=>jO ["_law_model","_law_deed_here","_law_word_here","_law_some","_law_room"] (T.d 48 rfl) λg _ _ _ _ _ _ b=>(bN (fk (i:=2) (bS (a_ b) (aQ 1) bC) g) (bN (fV (bD (dX (dC b)) (aQ 2) aU) (cy (cG (Dw (bD (nK (a_ b)) (bS (a_ b) (aQ 1) bC) (bS (a_ b) (aQ 0) aU)) aU fU))) dO) (bN (fk (i:=3) (fj iB (p7 (aR (bS (a_ b) (aQ 1) bC) ba)) (IF (N':=["_law_k","_law_deed_here","_law_word_here"]) (ix:=[none,some 1,some 2]) (gL.of (N:=["_law_model","_law_deed_here","_law_word_here","_law_some","_law_room"]) (sc:=bF jE.st) rfl rfl (by decide+kernel)) (oq (cc (aR bC ba))) ⟨λs H ex=>⟨(fB 0 (by show List.Nodup (["_law_k","_law_deed_here","_law_word_here"]:List Str);decide+kernel)),(vG (bD (nK (a_ b)) (aQ 2) (cc (aR aU (aR aU (aR aU (aR aU (aR aU ba)))))))),(bS (a_ b) (aQ 1) (aQ 0))⟩⟩ (fJ 0))) g) (bN (fV (mZ (IF (N':=["_law_who","_law_model"]) (ix:=[none,some 0]) (gL.of (N:=["_law_model","_law_deed_here","_law_word_here","_law_some","_law_room"]) (sc:=bF jE.st) rfl rfl (by decide+kernel)) (oq (aQ 3)) ⟨λs H ex=>⟨(fB 0 (by show List.Nodup (["_law_who","_law_model"]:List Str);decide+kernel)),(vG (bD (ug (a_ b)) (aQ 0) (bS (a_ b) (aQ 1) aU))),(aQ 0)⟩⟩ (fJ 0))) (cy (cG aU)) dO) (bN (fk (i:=4) (Ts (a_ b) (bS (a_ b) (aQ 0) aU) (bS (a_ b) (aQ 1) bC)) g) (bN (fV (bD (dX (dC b)) (aQ 2) aU) (cy (cG (Dw (bD CH (aQ 4) fU) fU aU))) dO) (bN (fV (bD CH (aQ 4) fU) (cy (cG aU)) dO) (bN (fV (bD (dX (dC b)) (aQ 2) aU) (bN (fV (bD (nK (a_ b)) (bS (a_ b) (aQ 1) bC) (bS (a_ b) (aQ 4) aU)) (cy (cG aU)) dO) (bN (fV (bD (nK (a_ b)) (bS (a_ b) (aQ 1) bC) (bS (a_ b) (aQ 4) aU)) (cy (cG aU)) dO) (cy (cG (Dw (eW (m3 (bD (dX (dC b)) (bS (a_ b) (aQ 4) aU) aU) (i9 (bD (ug (a_ b)) (bS (a_ b) (aQ 1) bC) (bS (a_ b) (aQ 4) aU))))) aU fU))))) dO) (bN (fV (bD (ug (a_ b)) (bS (a_ b) (aQ 1) bC) (bS (a_ b) (aQ 4) aU)) (cy (cG aU)) dO) (bN (fV (bD (nK (a_ b)) (aQ 2) (cc (aR aU (aR aU (aR aU ba))))) (cy (cG Lu)) dO) (cy (cG (Dw (bD (dX (dC b)) (aQ 2) aU) fU (eE (vg T) b (aR (aQ 4) (aR (aQ 1) ba))))))))))))))))⟩
def fq:=rD 2 5 ip.1
def DT:KP 3 jE fq:=ip.2
def uJ:CP 2 uw 3 12:=⟨_,λT=>jO ["_law_cell_here","_law_model","_law_words_here","_law_names","_law_who","_law_whom","_law_room","_law_word_here","_law_some","_law_there","_law_number","_law_said_here"] (T.d 49 rfl) λg _ _ _ _ _ _ b=>(bN (fk (i:=3) (cc (aR aU (aR aU (aR aU (aR aU (aR aU ba)))))) g) (bN (fV (bD (dX (dC b)) (eE (ju T) b (aR (aQ 0) (aR bC (aR bC ba)))) bC) (cy (fk (i:=3) (cc (aR aU (aR aU (aR aU ba)))) g)) dO) (bN (fk (i:=4) (bS (a_ b) (aQ 3) (eE (ju T) b (aR (aQ 0) (aR bC (aR (cM i8 T.len (aR (aQ 3) ba)) ba))))) g) (bN (fk (i:=5) (bS (a_ b) (aQ 3) (eE (ju T) b (aR (aQ 0) (aR bC (aR (cM i8 T.len (aR (aQ 3) ba)) ba))))) g) (bN (fk (i:=6) (bS (a_ b) (cc (aR aU (aR aU (aR aU (aR aU ba))))) (eE (ju T) b (aR (aQ 0) (aR bC (aR bC ba))))) g) (bN (fk (i:=7) (bS (a_ b) (aQ 2) (eE (ju T) b (aR (aQ 0) (aR bC (aR (cM i8 T.len (aR (aQ 2) ba)) ba))))) g) (bN (fV (bD (nK (a_ b)) (aQ 7) (cc (aR aU (aR aU (aR aU (aR aU ba)))))) (cy (cG (vH (cc (aR (aQ 7) (aR (aQ 4) (aR (aQ 6) ba)))) p9 (p_ (fj iB bC (eQ Xr T.int (aR (Ah (HN (dC b)) (aQ 7) aU) ba))))))) dO) (bN (fV (bD (dX (dC b)) (aQ 7) aU) (bN (fk (i:=8) (p7 (aR (cc (aR aU (aR aU ba))) (aR (cc (aR aU (aR aU ba))) (aR (cc (aR aU (aR aU ba))) ba)))) g) (bN (fk (i:=8) (fj iB (aQ 8) (p7 (aR (cc (aR aU (aR aU ba))) (aR (cc (aR aU (aR aU ba))) (aR (cc (aR aU (aR aU ba))) ba))))) g) (cy (cG (fj iB (cc (aR (aQ 7) (aR (aQ 4) (aR (aQ 6) ba)))) (bS (a_ b) (aQ 8) (eE (ju T) b (aR (aQ 0) (aR bC (aR bC ba)))))))))) dO) (bN (fV (bD (dX (dC b)) (aQ 7) aU) (cy (cG (cc (aR (aQ 7) (aR (aQ 4) (aR (aQ 6) (aR (aQ 5) (aR (bS (a_ b) (cc (aR aU (aR aU (aR aU (aR aU ba))))) (eE (ju T) b (aR (aQ 0) (aR bC (aR bC ba))))) ba)))))))) dO) (bN (fV (bD (nK (a_ b)) (aQ 7) (cc (aR aU (aR aU (aR aU (aR aU ba)))))) (cy (cG (cc (aR (aQ 7) (aR (aQ 4) (aR (aQ 6) (aR (aQ 5) ba))))))) dO) (bN (fk (i:=9) (bS (a_ b) (Lo (a_ b) (bS (a_ b) (aQ 1) aU) (aQ 6) (Ln (Br aU (p7 ba) P6))) aU) g) (bN (fk (i:=10) (eE (ju T) b (aR (aQ 0) (aR bC (aR (fj iB (cM i8 T.len (aR (aQ 9) ba)) bC) ba)))) g) (bN (OD (i:=11) (N':=["_law_row_here"]) (ix:=[none]) (gL.of (N:=["_law_cell_here","_law_model","_law_words_here","_law_names","_law_who","_law_whom","_law_room","_law_word_here","_law_some","_law_there","_law_number","_law_said_here"]) (sc:=bF uw.st) rfl rfl (by decide+kernel)) (oq (aQ 9)) ⟨λs H ex=>⟨(fB 0 (by show List.Nodup (["_law_row_here"]:List Str);decide+kernel)),(vG (bD (dX (dC b)) (bS (a_ b) (aQ 0) bC) aU)),(bS (a_ b) (aQ 0) bC)⟩⟩ (fJ 0) g) (bN (fV (eW (m3 (mZ (aQ 11)) (i9 (bD R8 (fj CC (aQ 0) bC) bC)))) (cy (fk (i:=10) (bS (a_ b) (aQ 11) (eE (ju T) b (aR (aQ 0) (aR bC (aR (cM i8 T.len (aR (aQ 11) ba)) ba))))) g)) dO) (bN (fV (bD (dX (dC b)) (aQ 7) aU) (cy (cG (cc (aR (aQ 7) (aR (aQ 4) (aR (aQ 6) (aR Lu (aR (bS (a_ b) (cc (aR fU (aR fU (aR (aQ 10) ba)))) (eE (ju T) b (aR (aQ 0) (aR bC (aR bC ba))))) ba)))))))) dO) (bN (fV (bD (dX (dC b)) (aQ 7) aU) (cy (cG (cc (aR (aQ 7) (aR (aQ 4) (aR (aQ 6) (aR (aQ 10) (aR Lu ba)))))))) dO) (cy (cG (cc (aR (aQ 7) (aR (aQ 4) (aR (aQ 6) (aR (aQ 10) ba)))))))))))))))))))))))⟩
def DU:=rD 3 12 uJ.1
def L7:KP 2 uw DU:=uJ.2
noncomputable def gS:CS 7 yF 2 3:=⟨_,λT=>gP ["_law_hall_here","_law_deed_here","_law_word_here"] (T.d 50 rfl) λg _ _ _ _ _ _ b=>(bp (gO (i:=2) (bo (bS (a_ b) (aQ 1) bC)) g) (bp (fo (cu (bD (dX (dC b)) (aQ 2) aU)) (bO (eY (dk (vJ T) b (aW (aQ 0)) (aX (bo (bS (a_ b) (aQ 1) bC)) bH)))) dv) (bp (fo (cu (bD (dX (dC b)) (aQ 2) aU)) (bO (eY (dk (BH T) b (aW (aQ 0)) (aX (bo (bS (a_ b) (aQ 1) bC)) (aX (bo (bS (a_ b) (aQ 1) bC)) bH))))) dv) (bp (fo (cu (bD (dX (dC b)) (aQ 2) aU)) (bO (eY (dk (BK T) b (aW (aQ 0)) (aX (bo (bS (a_ b) (aQ 1) bC)) (aX (bo (bS (a_ b) (aQ 1) bC)) bH))))) dv) (bp (fo (cu (bD (dX (dC b)) (aQ 2) aU)) (bO (eY (dk (BL T) b (aW (aQ 0)) (aX (bo (bS (a_ b) (aQ 1) bC)) (aX (bo (bS (a_ b) (aQ 1) bC)) bH))))) dv) (bp (fo (cu (bD (dX (dC b)) (aQ 2) aU)) (bO (eY (dk (yM T) b (aW (aQ 0)) (aX (bo (bS (a_ b) (aQ 1) bC)) (aX (bo (bS (a_ b) (aQ 1) bC)) (aX (bo (bS (a_ b) (aQ 1) bC)) (aX (bo (bS (a_ b) (aQ 1) bC)) bH))))))) dv) (bp (fo (cu (bD (dX (dC b)) (aQ 2) aU)) (bO (eY yu)) dv) (bp (fo (cu (bD (dX (dC b)) (aQ 2) aU)) (bO (eY (dk (DJ T) b (aW (aQ 0)) (aX (bo (bS (a_ b) (aQ 1) bC)) (aX (bo (bS (a_ b) (aQ 1) bC)) (aX (bo (bS (a_ b) (aQ 1) bC)) (aX (bo (bS (a_ b) (aQ 1) bC)) bH))))))) dv) (bp (fo (cu (bD (dX (dC b)) (aQ 2) aU)) (bO (eY yu)) dv) (bp (fo (cu (bD (dX (dC b)) (aQ 2) aU)) (bO (eY yu)) dv) (bp (fo (cu (bD (dX (dC b)) (aQ 2) aU)) (bO (eY yu)) dv) (bp (fo (cu (bD (dX (dC b)) (aQ 2) aU)) (bO (eY yu)) dv) (bp (fo (cu (bD (dX (dC b)) (aQ 2) aU)) (bO (eY yu)) dv) (bO (eY yu)))))))))))))))⟩
def f':=fA 2 3 gS.1
def DV:KS 7 yF f':=gS.2
noncomputable def ng:CS 8 yG 2 5:=⟨_,λT=>gP ["_law_hall_here","_law_deed_here","_law_kept","_law_answer","e"] (T.d 51 rfl) λb _ _ _ _ _ _ g=>(bp (gO (i:=2) (bo fU) b) (bp (gO (i:=3) (bo fU) b) (bp (TM 5 (i:=4) T.DF (λpn l=>(bO (gO (i:=3) (gQ (DV T) g (aX (aW (aQ 0)) (aX (aW (aQ 1)) bH))) b))) (λpn e=>(bO (gO (i:=2) (aW (aQ 4)) b))) b) (bp (fo (cu (bD CH (aQ 2) fU)) (bO (eY (aW (aQ 3)))) dv) (bO (eY (bo (eE (L5 T) g (aR (aQ 2) ba)))))))))⟩
def qB:=fA 2 5 ng.1
def L8:KS 8 yG qB:=ng.2
def uK(r:List Tr->Rs Tr):CR 0 ux 2 2 r:=⟨_,λT g G=>jO ["_law_found","_law_due"] (T.d 52 rfl) λ_ _ _ _ _ _ _ b=>(bN (fV (mZ (cM zN T.isinstance (aR (aQ 1) (aR (Du T.tuple) ba)))) (bN (fV (eW (Dv (yt (mZ (cM zN T.isinstance (aR (aQ 0) (aR (Du T.tuple) ba))))) (vF (bD (HN (dC b)) (cM i8 T.len (aR (aQ 0) ba)) (cM i8 T.len (aR (aQ 1) ba)))))) (cy (cG zk)) dO) (cy (cG (cM (Wx rfl) T.all (aR (IF (N':=["_law_one","_law_other"]) (ix:=[none,none]) (gL.of (N:=["_law_found","_law_due"]) (sc:=bF ux.st) rfl rfl (by decide+kernel)) (X9 T.zip (aR (aQ 0) (aR (aQ 1) ba))) ⟨λs H ex=>⟨(GL (is:=[0,1]) (p8 (i:=0) (p8 (i:=1) GK (by show List.Nodup (["_law_one","_law_other"]:List Str);decide+kernel)) (by show List.Nodup (["_law_one","_law_other"]:List Str);decide+kernel))),Ai,(eE G b (aR (aQ 0) (aR (aQ 1) ba)))⟩⟩ (Ey [0,1])) ba))))) dO) (bN (fV (bD CH (aQ 1) fU) (cy (cG (Ah CH (aQ 0) fU))) dO) (bN (fV (eW (Dv (mZ (cM zN T.isinstance (aR (aQ 1) (aR (Du T.bool) ba)))) (vF (mZ (cM zN T.isinstance (aR (aQ 0) (aR (Du T.bool) ba))))))) (cy (cG (Ll (cM zN T.isinstance (aR (aQ 1) (aR (Du T.bool) ba))) (Ll (cM zN T.isinstance (aR (aQ 0) (aR (Du T.bool) ba))) (Qr (Ah (dX (dC b)) (aQ 0) (aQ 1))))))) dO) (cy (cG (Ll (cM SN T.isinstance (aR (aQ 0) (aR (cc (aR (Du T.int) (aR (Du T.str) ba))) ba))) (Qr (Ah (dX (dC b)) (aQ 0) (aQ 1)))))))))⟩
def fm:Nat->List Tr->Rs Tr
 |0=>λ_=>.bad
 |n+1=>rD 2 2 (uK (fm n)).1
theorem kE{P:Program}{w:World}{K:Frag}{mg:Str->Option Value}{base:Heap}(T:Qw K w mg):∀n:Nat,yx P w K mg base mq (0+n) ux (spT K (fm n))
 |0=>aaY (T.d 52 rfl)
 |n+1=>(uK _).2 T (mE ..) (kE T n)
noncomputable def nh:CS 9 yH 3 4:=⟨_,λT=>gP ["_law_hall_here","_law_model","_law_deed_here","_law_due"] (T.d 53 rfl) λg _ _ _ _ _ _ b=>(bp (gO (i:=3) (bo (eE (DT T) b (aR (aQ 1) (aR (aQ 2) ba)))) g) (bp (fo (cu (bD CH (aQ 3) fU)) (bO (gO (i:=3) (gQ (DR T) b (aX (aW (aQ 1)) (aX (aW (aQ 2)) bH))) g)) dv) (bO (eY (gQ (kE T 5).toZ b (aX (gQ (L8 T) b (aX (aW (aQ 0)) (aX (aW (aQ 2)) bH))) (aX (aW (aQ 3)) bH)))))))⟩
def jH:=fA 3 4 nh.1
def DW:KS 9 yH jH:=nh.2
noncomputable def DX:CS 8 yI 2 4:=⟨_,λT=>gP ["_law_hall_here","_law_model","_law_who","_law_deed_here"] (T.d 54 rfl) λg _ _ _ _ _ _ b=>(bp (GO (oq (cc (aR aU (aR aU (aR aU (aR aU (aR aU ba))))))) (fB 2 g) (fJ 2) (bO (cH (dk (vJ T) b (aW (aQ 0)) (aX (aW (aQ 2)) bH))))) (bO (GO (oq (cc (aR (cc (aR aU (aR aU (aR aU ba)))) (aR (cc (aR aU (aR aU (aR aU ba)))) (aR (cc (aR aU (aR aU (aR aU ba)))) (aR (cc (aR aU (aR aU (aR aU ba)))) ba)))))) (fB 3 g) (fJ 3) (bp (cH (gQ (DV T) b (aX (aW (aQ 0)) (aX (aW (aQ 3)) bH)))) (bO (cH (gQ (DR T) b (aX (aW (aQ 1)) (aX (aW (aQ 3)) bH)))))))))⟩
def DY:=fA 2 4 DX.1
def L9:KS 8 yI DY:=DX.2
def vh:CP 6 m5 2 6:=⟨_,λT=>jO ["_law_hall_here","_law_model","_law_name","_law_room","_law_roles","_law_due"] (T.d 55 rfl) λg _ _ _ _ _ _ b=>(bN (Tt (GN (bS (a_ b) (aQ 1) aU)) (fB 2 g) (bN (fk (i:=3) (bS (a_ b) (bS (a_ b) (aQ 1) aU) (aQ 2)) g) (bN (fk (i:=4) (eQ g7 T.tuple (aR (IF (N':=["_law_who","_law_room"]) (ix:=[none,some 3]) (gL.of (N:=["_law_hall_here","_law_model","_law_name","_law_room","_law_roles","_law_due"]) (sc:=bF m5.st) rfl rfl (by decide+kernel)) (oq (cM (jB rfl) T.sorted (aR (bS (a_ b) (aQ 3) aU) ba))) ⟨λs H ex=>⟨(fB 0 (by show List.Nodup (["_law_who","_law_room"]:List Str);decide+kernel)),Ai,(cc (aR (aQ 0) (aR (bS (a_ b) (bS (a_ b) (aQ 1) aU) (aQ 0)) ba)))⟩⟩ (fJ 0)) ba)) g) (bN (fV (yt (mZ (eE (kE T 5) b (aR (cc (aR (jP (DL T) b (aQ 0) (aR (aQ 2) ba)) (aR (jP (BP T) b (aQ 0) (aR (aQ 2) ba)) ba))) (aR (cc (aR (eQ g7 T.tuple (aR (bS (a_ b) (aQ 3) aU) ba)) (aR (aQ 4) ba))) ba))))) (cy (cG zk)) dO) (bN (fV (yt (mZ (eE (kE T 5) b (aR (jP (zq T) b (aQ 0) (aR (aQ 2) ba)) (aR (eQ g7 T.tuple (aR (cM (jB rfl) T.sorted (aR (bS (a_ b) (aQ 3) aU) ba)) ba)) ba))))) (cy (cG zk)) dO) (bN (fV (yt (mZ (eE (kE T 5) b (aR (jP (BQ T) b (aQ 0) (aR (aQ 2) ba)) (aR (eQ g7 T.tuple (aR (Tv T.sorted T.set (bS (a_ b) (aQ 3) aU)) ba)) ba))))) (cy (cG zk)) dO) (cy (fV (mZ (IF (N':=["_law_what","_law_name","_law_room","_law_hall_here"]) (ix:=[none,some 2,some 3,some 0]) (gL.of (N:=["_law_hall_here","_law_model","_law_name","_law_room","_law_roles","_law_due"]) (sc:=bF m5.st) rfl rfl (by decide+kernel)) (oq (cc (aR aU (aR aU (aR aU ba))))) ⟨λs H ex=>⟨(fB 0 (by show List.Nodup (["_law_what","_law_name","_law_room","_law_hall_here"]:List Str);decide+kernel)),(vG (bD (HN (dC b)) (jP (yO T) b (aQ 3) (aR (aQ 1) (aR (aQ 0) ba))) (bS (a_ b) (aQ 2) (aQ 0)))),bC⟩⟩ (fJ 0))) (cy (cG zk)) dO)))))))) (bN (fk (i:=5) (cc (aR (eQ g7 T.tuple (aR (cM (jB rfl) T.sorted (aR (bS (a_ b) (aQ 1) aU) ba)) ba)) (aR (eQ g7 T.tuple (aR (cM (jB rfl) T.sorted (aR (bS (a_ b) (aQ 1) aU) ba)) ba)) ba))) g) (cy (cG (eE (kE T 5) b (aR (cc (aR (qT (BM T) b (aQ 0)) (aR (qT (zo T) b (aQ 0)) ba))) (aR (aQ 5) ba)))))))⟩
def Ar:=rD 2 6 vh.1
def IX:KP 6 m5 Ar:=vh.2
noncomputable def G6:CZ 10 DC 1 7:=⟨_,λT=>aaX ["_law_script","_law_hall_here","_law_model","_law_some","_law_deed_here","_law_words_here","_law_k"] (T.d 56 rfl) λg _ _ _ _ _ _ b=>(bp (gO (i:=1) (OL (vZ T) T.T_ b) g) (bp (gO (i:=2) (gQ (IV T) b (aX (bo (cc (aR aU (aR aU (aR aU (aR aU (aR aU ba))))))) bH)) g) (bp (cH (gQ (L9 T) b (aX (aW (aQ 1)) (aX (aW (aQ 2)) bH)))) (bp (gO (i:=3) (fY (yv (aR (cc (aR aU (aR aU (aR aU (aR aU (aR aU ba)))))) (aR (cc (aR aU (aR aU (aR aU ba)))) ba)))) g) (bp (TR (TQ (aQ 3) (p7 (aR (cc (aR aU (aR aU (aR aU (aR aU (aR aU ba)))))) ba))) (fB 4 g) (fJ 4) (bO (fo (Ls (Lr (gQ (DW T) b (aX (aW (aQ 1)) (aX (aW (aQ 2)) (aX (aW (aQ 4)) bH)))))) (bO (eY (bo zk))) dv))) (bp (gO (i:=5) (bo (cc (aR aU (aR aU (aR aU (aR aU (aR aU ba))))))) g) (bp (GO (Lm T.range (aR bC ba)) (fB 6 g) (fJ 6) (bp (gO (i:=4) (bo (eE (L7 T) b (aR (fj iB (eE (L6 T) b (aR (aQ 0) (aR (fj CC (aQ 6) bC) ba))) (fj Kd bC (aQ 6))) (aR (aQ 2) (aR (aQ 5) ba))))) g) (bO (fo (Ls (Lr (gQ (DW T) b (aX (aW (aQ 1)) (aX (aW (aQ 2)) (aX (aW (aQ 4)) bH)))))) (bO (eY (bo zk))) dv)))) (bO (eY (bo (eE (IX T) b (aR (aQ 1) (aR (aQ 2) ba)))))))))))))⟩
def yS:=CM 1 7 G6.1
def Yt:KP 10 DC yS:=G6.2
section
variable {rk en ch bn iv:List (Key×Tr)}
def wy{aZ c7:Str}{ps:List Tr}(h:bA A aN rows rk en ch bn iv)(f:d8 rows rk en ch bn iv)(q:rows.length<eM)(hp:3+ps.length<=eM)(ht:mT ps=true):
  m7 [.at aN,.str aZ,.str c7,.tup ps] A=.ok (.int (rows.length+1)) (A.set (aN+1) (.lst (rows++[.tup (.int (rows.length+1):: .str aZ:: .str c7::ps)]))):=by
 show cI (gv.1 [.sh (.at aN),.sh (.str aZ),.sh (.str c7),.sh (.tup ps),.no] A)=_;unfold gv;have b:xQ (.tup [.int (rows.length+1),.str aZ,.str c7]) (.tup ps)=.ok (.tup (.int (rows.length+1):: .str aZ:: .str c7::ps)):=aV hp;have g:∀A,r_ (.ok (.tup (.int (rows.length+1):: .str aZ:: .str c7::ps))) A=.ok (.tup (.int (rows.length+1):: .str aZ:: .str c7::ps)) A:=λA=>aV (by simpa only[Jj,mT,pw]using ht);simp only[ev,cW,gu,gR,h.aaZ f,h.aa1,cf,cg,Fd h.lg,Fe h.lg q,b,g]
noncomputable abbrev iT(rows:List Tr)(aZ c7:Str)(ps:List Tr):Tr:=.tup (.int (rows.length+1):: .str aZ:: .str c7::ps)
def O4{aZ c7 role:Str}(h:bA A aN rows rk en ch bn iv)(f:d8 rows rk en ch bn iv)(q:rows.length<eM)(hr:rk.length<eM)(he:en.length<eM):
  ∃A',rN [.at aN,.str aZ,.str c7,.str role] A=.ok .cx A'/\Ext A A' [(aN+6,.bW (iE iv (.inr aZ))),(aN+2,.bW (l6 rk (.inr aZ) (.str role))),(aN+3,.bW (l6 en (.inr aZ) (.int (rows.length+1)))),(aN+1,.lst (rows++[iT rows aZ c7 []]))]/\bA A' aN (rows++[iT rows aZ c7 []]) (l6 rk (.inr aZ) (.str role)) (l6 en (.inr aZ) (.int (rows.length+1))) ch bn (iE iv (.inr aZ)):=by
 have h1:=h.II (Ext.put (o:=.lst (rows++[iT rows aZ c7 []])) h.lg);have h2:=h1.aa4 (Ext.put (o:=.bW (l6 en (.inr aZ) (.int (rows.length+1)))) h1.en);have b:=h2.T1 (Ext.put (o:=.bW (l6 rk (.inr aZ) (.str role))) h2.rk);refine⟨_,?_,((Ext.put h.lg).trans (Ext.put h1.en)).trans ((Ext.put h2.rk).trans (Ext.put b.iv)),b.aa6 (Ext.put b.iv)⟩;show cI (jq.1 [.sh (.at aN),.sh (.str aZ),.sh (.str c7),.sh (.str role)] A)=_;unfold jq;have g:∀A,r_ (.ok (.tup [])) A=.ok (.tup []) A:=λA=>rfl;have w:=wy (aZ:=aZ) (c7:=c7) (ps:=[]) h f q (by decide) rfl;simp only[ev,cW,gu,gR,h.call (m:="write_row") rfl,g,w,nP,h1.aa2,mh h1.en he,h2.TZ,mh h2.rk hr,b.aa3,OM b.iv,ON _ b.iv]
def L_{aZ d4 role:Str}(h:bA A aN rows rk en ch bn iv)(f:d8 rows rk en ch bn iv)(q:rows.length<eM)(hr:rk.length<eM):
  ∃A',m8 [.at aN,.str aZ,.str d4,.str role] A=.ok .cx A'/\Ext A A' [(aN+2,.bW (l6 rk (.inr d4) (.str role))),(aN+1,.lst (rows++[iT rows aZ "role" [.str d4,.str role]]))]/\bA A' aN (rows++[iT rows aZ "role" [.str d4,.str role]]) (l6 rk (.inr d4) (.str role)) en ch bn iv:=by
 have h1:=h.II (Ext.put (o:=.lst (rows++[iT rows aZ "role" [.str d4,.str role]])) h.lg);refine⟨_,?_,(Ext.put h.lg).trans (Ext.put h1.rk),h1.T1 (Ext.put h1.rk)⟩;show cI (gx.1 [.sh (.at aN),.sh (.str aZ),.sh (.str d4),.sh (.str role)] A)=_;unfold gx;have b:∀A,r_ (.ok (.tup [.str d4,.str role])) A=.ok (.tup [.str d4,.str role]) A:=λA=>rfl;have w:=wy (aZ:=aZ) (c7:="role") (ps:=[.str d4,.str role]) h f q (by show 3+2<=eM;decide) rfl;simp only[ev,cW,gu,gR,h.call (m:="write_row") rfl,b,w,nP,h1.TZ,mh h1.rk hr]
def yT(h:bA A aN rows rk en ch bn iv)(f:d8 rows rk en ch bn iv)(hw:aZ.length<=1000):
  lr [.at aN,.str aZ] A=if(eZ rk (.inr aZ)).isSome=true then .ok .cx A else .exc (.str "NotIn") A:=by
 show cI (iM.1 [.sh (.at aN),.sh (.str aZ)] A)=_;unfold iM;simp only[ev,cW,gu,gR,h.sA f];cases e:(eZ rk (.inr aZ)).isSome with
 |true=>simp only[dA,ev,cC]
 |false=>
  have s:=Ff (z:=aZ) (y:=" is not in the room") hw (by decide+kernel);simp only[eL,ev,cW,gu,gR,s,cR,cq]
end
noncomputable abbrev gK:List Str:=["guest","speaker","keeper","owner"]
noncomputable def lvl(r:Str):Int:=if r="owner"then 3 else if r="keeper"then 2 else if r="speaker"then 1 else 0
def og{r:Str}(h:r∈gK):wt [.str r]=.ok (.int (lvl r)):=by
 have:r="guest"\/r="speaker"\/r="keeper"\/r="owner":=by simpa using h
 rcases this with rfl|rfl|rfl|rfl<;>rfl
structure IY(aT:List (Str×Str))(z:Str):Prop where
 ex:∃j r,aT[j]?=some (z,r)/\(∀p∈aT,lvl p.2<=lvl r)/\∀(a:Nat) (p:Str×Str),a<j->aT[a]?=some p->lvl p.2<lvl r
theorem IY.one {y z:Str}(a:IY aT y)(b:IY aT z):y=z:=by
 obtain⟨j,r,h1,h2,n⟩:=a.ex;obtain⟨k,s,g1,g2,g3⟩:=b.ex;have g:=h2 _ (dZ g1);have l:=g2 _ (dZ h1);rcases Nat.lt_trichotomy j k with q|q|q
 ·have:=g3 j _ q h1;simp only at g l this;omega
 ·subst q;rw[h1]at g1;cases g1;rfl
 ·have:=n k _ q g1;simp only at g l this;omega
section
variable {i:Nat}{ch bn iv:List (Key×Tr)}{ent:Str->Int}
structure dr(aT:List (Str×Str))(ents:List (Str×Int))(ent:Str->Int):Prop where
 rl:∀p∈aT,p.2∈gK
 nd:(aT.map (·.1)).Nodup
 sh:∀p∈aT,p.1.length<=1000
 en:∀p∈aT,ents.lookup p.1=some (ent p.1)
 up:(aT.map fun p=>ent p.1).Pairwise (· <·)
theorem iU:∀{aT:List (Str×Str)},(aT.map (·.1)).Nodup->∀p∈aT,aT.lookup p.1=some p.2
 |q::aT,nd,p,hp=>by
  rw[bL,gY]at nd;rw[cK];rcases bE.mp hp with rfl|hp
  ·simp
  ·have:(p.1==q.1)=false:=by
    simp only[jh];intro e;exact nd.1 (e▸gf hp)
   rw[this];exact iU nd.2 p hp
def O5{p:Str×Str}(h:bA A i rows (dP .str aT) (dP .int ents) ch bn iv)(f:d8 rows (dP .str aT) (dP .int ents) ch bn iv)(k:dr aT ents ent)(hp:p∈aT):
  iL [aY 5 A (.at i),.str p.1]=.ok (.tup [.int (-(lvl p.2)),.int (ent p.1)]):=by
 show dH (kl.1 [.sh (aY 5 A (.at i)),.sh (.str p.1)])=_;unfold kl;simp only[ev,cW,h.sA f,h.aa0 f,dS,iU k.nd p hp,k.en p hp,di,kS,og (k.rl p hp)]
theorem Ua(h:bA A i rows (dP .str aT) (dP .int ents) ch bn iv)(f:d8 rows (dP .str aT) (dP .int ents) ch bn iv)(k:dr aT ents ent)(q:aT≠[]):
  ∃z,IY aT z/\GI "Room" "claim" iL (.ok (.lst (aT.map λp=>.str p.1))) (.ok (aY 5 A (.at i)))=.ok (.str z):=by
 have L:0<aT.length:=sO.mpr q
 let key:Str->Int×Int:=λz=>(-(lvl ((aT.lookup z).getD "")),ent z)
 have r:∀p∈aT,key p.1=(-(lvl p.2),ent p.1):=λp hp=>by show(-(lvl ((aT.lookup p.1).getD "")),ent p.1)=_;rw[iU k.nd p hp];rfl
 have hs:keysOf iL (aY 5 A (.at i)) ((aT.map (·.1)).map .str)=some ((aT.map (·.1)).map key):=Ak λz hz=>by
  obtain⟨p,hp,rfl⟩:=cE.mp hz;rw[O5 h f k hp,r p hp]
 let kf:Nat->Int×Int:=λa=>((aT.map (·.1)).map key).getD a (0,0)
 have l:∀a p,aT[a]?=some p->kf a=(-(lvl p.2),ent p.1):=λa p e=>by
  show((aT.map (·.1)).map key).getD a (0,0)=_;rw[eJ,b_,b_,e];exact r p (dZ e)
 have n:∀a b,a<b->b<=aT.length - 1->(kf a).2<(kf b).2:=λa b M hb=>by
  have g:b<aT.length:=by omega
  have I:a<aT.length:=by omega
  rw[l a _ (bV I),l b _ (bV g)];have:=List.pairwise_iff_getElem.mp k.up a b (by simpa using I) (by simpa using g) M;simpa using this
 obtain⟨S,h2⟩:=uu (kf:=kf) (aT.length - 1) n;have hb:=u9 (kf:=kf) (aT.length - 1);have g:dh kf (aT.length - 1)<aT.length:=by omega
 refine⟨aT[dh kf (aT.length - 1)].1,⟨dh kf (aT.length - 1),aT[dh kf (aT.length - 1)].2,bV g,λp hp=>?_,λa p ha e=>?_⟩,?_⟩
 ·obtain⟨a,ha,e⟩:=List.getElem_of_mem hp;have:=S a (by omega);rw[l _ _ (bV g),l a p (by rw[bV ha,e])]at this;simp only at this;omega
 ·have:=h2 a ha;rw[l _ _ (bV g),l a p e]at this;simp only at this;omega
 ·show vD "Room" "claim" iL (.lst (aT.map λp=>.str p.1)) (aY 5 A (.at i))=_;rw[gH h.o]at hs⊢;rw[show(aT.map λp=>Tr.str p.1)=(aT.map (·.1)).map .str by rw[cL];rfl];refine LL rfl (by simpa using L) hs ?_
  rw[show((aT.map (·.1)).map Tr.str).length=aT.length by simp];show((aT.map (·.1)).map Tr.str)[dh kf (aT.length - 1)]?=_
  rw[b_,b_,bV g]
  rfl
inductive gU(rows:List Tr)(aT:List (Str×Str)):List Tr->List (Str×Str)->Prop
 |same:(aT=[]\/∃p∈aT,p.2="owner")->gU rows aT rows aT
 |zr (z:Str):IY aT z->(∀p∈aT,p.2≠"owner")->aT≠[]->gU rows aT (rows++[iT rows z "role" [.str z,.str "owner"]]) (e_ aT z "owner")
theorem gU.one {r1 q:List Tr}{k1 k2:List (Str×Str)}(a:gU rows aT r1 k1)(b:gU rows aT q k2):r1=q/\k1=k2:=by
 cases a with
 |same h=>
  cases b with
  |same _=>exact⟨rfl,rfl⟩
  |zr z _ h2 l=>
   rcases h with h|⟨p,hp,e⟩
   ·exact absurd h l
   ·exact absurd e (h2 p hp)
 |zr z g h2 l=>
  cases b with
  |same h=>
   rcases h with h|⟨p,hp,e⟩
   ·exact absurd h l
   ·exact absurd e (h2 p hp)
  |zr y g' _ _=>cases g.one g';exact⟨rfl,rfl⟩
theorem L'(h:bA A i rows (dP .str aT) (dP .int ents) ch bn iv)(f:d8 rows (dP .str aT) (dP .int ents) ch bn iv)(k:dr aT ents ent)(hl:rows.length<eM)(hr:aT.length<eM):
  ∃A' cJ q,jZ [.at i] A=.ok .cx A'/\gU rows aT cJ q/\Ext A A' [(i+2,.bW (dP .str q)),(i+1,.lst cJ)]/\bA A' i cJ (dP .str q) (dP .int ents) ch bn iv:=by
 let P:Str->Bool:=λz=>aT.lookup z==some ("owner":Str)
 have h1:=h.e_0 (Ext.push (o:=.lst ((((aT.map (·.1)).filter P).map .str))));have r:Ext A (A++[.lst ((((aT.map (·.1)).filter P).map .str))]) [(i+2,.bW (dP .str aT)),(i+1,.lst rows)]:=(Ext.push.idem h.lg rfl).idem h.rk (hX (by omega));have g:∀p∈aT,P p.1=(p.2==("owner":Str)):=λp hp=>by show(aT.lookup p.1==some ("owner":Str))=_;rw[iU k.nd p hp];rfl
 have t1:aY 5 (A++[Ao.lst (((aT.map (·.1)).filter P).map .str)]) (.at A.length)=.lst (((aT.map (·.1)).filter P).map .str):=by rw[kX lR,qV]
 show∃A' cJ q,cI (fi.1 [.sh (.at i),.no,.no] A)=.ok .cx A'/\_;unfold fi;simp only[ev,cW,gu,gR,h.sA f,wk k.sh,map_fst];rw[qW (Bu:=[.sh (aY 5 A (.at i))]) P rfl (by simpa using dB hr) rfl (λ_=>rfl) ?hC]
 case hC=>
  intro z hz;obtain⟨p,hp,rfl⟩:=cE.mp hz;simp only[ev,cW,h.sA f,dS,iU k.nd p hp,di,kS,g p hp]
 simp only[wj qU,ev,cW,gu,gR,cf,cg,h1.sA f,t1,jQ,bt];by_cases b:aT=[]
 ·subst b;exact⟨_,_,_,rfl,.same (.inl rfl),r,h1⟩
 have l:(decide ((0:Int)<(aT.length:Int)))=true:=jj (by have:=sO.mpr b;omega);simp only[l,ev,cW,gu];by_cases n:∃p∈aT,p.2="owner"
 ·have:((((aT.map (·.1)).filter P).length:Int)==0)=false:=by
   obtain⟨p,hp,e⟩:=n;have hm:p.1∈(aT.map (·.1)).filter P:=gg.mpr ⟨gf hp,by rw[g p hp,e];exact bX _⟩;have:=List.length_pos_of_mem hm;simp only[jh];omega
  simp only[this,ev];exact⟨_,_,_,rfl,.same (.inr n),r,h1⟩
 ·have I:∀p∈aT,p.2≠"owner":=λp hp e=>n ⟨p,hp,e⟩;have:((aT.map (·.1)).filter P)=[]:=List.filter_eq_nil_iff.mpr λz hz=>by
   obtain⟨p,hp,rfl⟩:=cE.mp hz;rw[g p hp];simpa using I p hp
  obtain⟨z,hz,L⟩:=Ua h1 f k b;obtain⟨A',q1,M,S⟩:=L_ (aZ:=z) (d4:=z) (role:="owner") h1 f hl (by rw[jQ];exact hr);rw[map_fst]at L;have el:EV [.bW (dP .str aT)]=.ok (.lst ((aT.map (·.1)).map .str)):=by
   show(CN (dP .str aT)).bind (λts=>Rs.ok (Tr.lst ts))=_;rw[GX λp hp=>cB (k.sh p hp) (by decide),map_fst];rfl
  have e9:((((aT.map (·.1)).filter P).length:Int)==0)=true:=by rw[this];rfl
  simp only[e9,ev,cW,gu,gR,h1.sA f,el,L,cf,cg,h1.call (m:="give_role") rfl,q1];rw[kZ]at M S;exact⟨_,_,_,rfl,.zr z hz I b,Ext.past Ext.push M,S⟩
end
section
variable {i:Nat}{oh:List (Str×Str)}{bn iv:List (Key×Tr)}{ent:Str->Int}{d:Str}
theorem lookup_none{α:Type}{z:Str}:∀{l:List (Str×α)},l.lookup z=none->∀p∈l,p.1≠z
 |q::l,h,p,hp=>by
  rw[cK]at h;cases e:(z==q.1)with
  |true=>rw[e]at h;cases h
  |false=>
   rw[e]at h;rcases bE.mp hp with rfl|hp
   ·intro q;rw[q,bX]at e;cases e
   ·exact lookup_none h p hp
def uL{α:Type}{l:List (Str×α)}{z:Str}{a:α}(h:l.lookup z=none):e_ l z a=l++[(z,a)]:=by
 unfold e_;rw[bb];intro q;obtain⟨p,hp,e⟩:=List.any_eq_true.mp q;exact lookup_none h p hp (eK e)
def yU{α:Type}{z y:Str}{a:α}:∀{l:List (Str×α)},(e_ l z a).lookup y=if y=z then some a else l.lookup y:=by
 intro l;unfold e_;split
 ·rename_i h
  induction l with
  |nil=>cases h
  |cons p l n=>
   rw[bL,cK,cK];by_cases hz:p.1=z
   ·rw[aV hz];by_cases g:y=z
    ·subst g;rw[aV rfl,hz];simp
    ·have L:(y==p.1)=false:=by simpa[hz]using g
     rw[bb g];simp only[L]
     clear n h
     induction l with
     |nil=>rfl
     |cons q l n=>
      rw[bL,cK,cK];by_cases I:q.1=z
      ·rw[aV I];have r:(y==q.1)=false:=by simpa[I]using g
       simp only[r];exact n
      ·rw[bb I];split
       ·rfl
       ·exact n
   ·rw[bb hz];have h2:(l.any λp=>decide (p.1=z))=true:=by
     rw[jk]at h;simpa[hz]using h
    cases e:(y==p.1)with
    |true=>
     have:y=p.1:=by simpa using e
     rw[bb (by rw[this];exact hz)]
    |false=>exact n h2
 ·rename_i h;rw[List.lookup_append];have M:l.lookup z=none:=by
   cases e:l.lookup z with
   |none=>rfl
   |some b=>
    exfalso;apply h
    clear h
    induction l with
    |nil=>cases e
    |cons p l n=>
     rw[cK]at e;rw[jk];cases r:(z==p.1)with
     |true=>have:z=p.1:=by simpa using r
            simp[this]
     |false=>rw[r]at e;simp[n e]
  by_cases g:y=z
  ·subst g;rw[M,aV rfl];simp
  ·rw[bb g];have:(y==z)=false:=by simpa using g
   simp[List.lookup,this]
theorem dr.enter {n:Int}{r:Str}(k:dr aT ents ent)(q:aT.lookup aZ=none)(gm:∀p∈aT,ent p.1<n)(hw:aZ.length<=1000)(hr:r∈gK):dr (e_ aT aZ r) (e_ ents aZ n) λz=>if z=aZ then n else ent z:=by
 rw[uL q];have g:=lookup_none q;refine⟨λp hp=>?_,?_,λp hp=>?_,λp hp=>?_,?_⟩
 ·rcases dI.mp hp with hp|hp
  ·exact k.rl p hp
  ·cases de.mp hp;exact hr
 ·rw[ke,wW];refine⟨k.nd,by simp,λa l b hb=>?_⟩;obtain⟨p,hp,rfl⟩:=cE.mp l;cases(de.mp hb);exact g p hp
 ·rcases dI.mp hp with hp|hp
  ·exact k.sh p hp
  ·cases de.mp hp;exact hw
 ·rw[yU];rcases dI.mp hp with hp|hp
  ·rw[bb (g p hp),bb (g p hp)];exact k.en p hp
  ·cases de.mp hp;rw[aV rfl,aV rfl]
 ·rw[ke,List.pairwise_append];refine⟨?_,by simp,λa l b hb=>?_⟩
  ·have:(aT.map λp=>if p.1=aZ then n else ent p.1)=aT.map λp=>ent p.1:=gW λp hp=>bb (g p hp);rw[this];exact k.up
  ·obtain⟨p,hp,rfl⟩:=cE.mp l;simp at hb;subst hb;rw[bb (g p hp)];exact gm p hp
theorem dr.leave (k:dr aT ents ent):dr (kY aT aZ) ents ent:=by
 have s:(kY aT aZ).Sublist aT:=List.filter_sublist;exact⟨λp hp=>k.rl p (s.subset hp),k.nd.sublist (s.map _),λp hp=>k.sh p (s.subset hp),λp hp=>k.en p (s.subset hp),k.up.sublist (s.map _)⟩
def yV{α:Type}{l:List (Str×α)}{z:Str}{a:α}(h:z∈l.map (·.1)):(e_ l z a).map (·.1)=l.map (·.1):=by
 unfold e_;obtain⟨p,hp,e⟩:=cE.mp h;rw[aV (List.any_eq_true.mpr ⟨p,hp,jj e⟩),cL];exact gW λq _=>by show(if q.1=z then(q.1,a)else q).1=q.1;split<;>rfl
def O6{α:Type}{l:List (Str×α)}{a:α}{p:Str×α}(h:p∈e_ l aZ a):p=(aZ,a)\/p∈l:=by
 unfold e_ at h;split at h
 ·obtain⟨q,b,e⟩:=cE.mp h;split at e
  ·rename_i hz;left;rw[<-e,hz]
  ·right;rw[<-e];exact b
 ·rcases dI.mp h with h|h
  ·exact .inr h
  ·exact .inl (de.mp h)
theorem dr.role {r:Str}(k:dr aT ents ent)(h:aZ∈aT.map (·.1))(hr:r∈gK):dr (e_ aT aZ r) ents ent:=by
 have g:=yV (a:=r) h;have hm:∀p∈e_ aT aZ r,∃q∈aT,q.1=p.1:=λp hp=>by
  have:p.1∈aT.map (·.1):=by rw[<-g];exact gf hp
  obtain⟨q,b,e⟩:=cE.mp this;exact⟨q,b,e⟩
 refine⟨λp hp=>?_,by rw[g];exact k.nd,λp hp=>?_,λp hp=>?_,?_⟩
 ·rcases O6 hp with rfl|hp
  ·exact hr
  ·exact k.rl p hp
 ·obtain⟨q,b,e⟩:=hm p hp;rw[<-e];exact k.sh q b
 ·obtain⟨q,b,e⟩:=hm p hp;rw[<-e];exact k.en q b
 ·have:((e_ aT aZ r).map λp=>ent p.1)=aT.map λp=>ent p.1:=by
   have n:∀l:List (Str×Str),(l.map λp=>ent p.1)=(l.map (·.1)).map ent:=λl=>by rw[cL];rfl
   rw[n,n,g]
  rw[this];exact k.up
def gU.Fv {cJ:List Tr}{q:List (Str×Str)}(o:gU rows aT cJ q)(k:dr aT ents ent):dr q ents ent:=by
 cases o with
 |same _=>exact k
 |zr z g _ _=>
  obtain⟨j,r,e,_⟩:=g.ex;exact k.role (cE.mpr ⟨_,dZ e,rfl⟩) (by decide+kernel)
end
section
variable {oh:List (Str×Str)}{bn iv:List (Key×Tr)}{ent:Str->Int}{d:Str}
def G7{us:List Tr}{rk en ch q en' ch' bn' iv':List (Key×Tr)}(f:d8 rows rk en ch bn iv)(h1:gF q)(h2:gF en')(h3:gF ch')(h4:gF bn')(h5:gF iv'):d8 (rows++[.tup us]) q en' ch' bn' iv':=⟨m4 f.lg,h1,h2,h3,h4,h5⟩
def U4:gF (dP .str aT):=ur λ_ _ _=>sx
def flI:gF (dP .int ents):=ur λ_ _ _=>LH
def Ma{r:Str}(h:bA A aN rows (dP .str aT) (dP .int ents) (dP .str oh) bn iv)(f:d8 rows (dP .str aT) (dP .int ents) (dP .str oh) bn iv)(hw:aZ.length<=1000)(q:aT.lookup aZ=some r):
  eV [.at aN,.str aZ] A=.exc (.str "Known") A:=by
 show cI (dM.1 [.sh (.at aN),.sh (.str aZ)] A)=_;unfold dM;have s:=Ff (z:=aZ) (y:=" is in the room") hw (by decide+kernel);simp only[ev,cW,gu,gR,h.sA f,eI,q,di,nD,s]
def Mb{r:Tr}(h:bA A aN rows (dP .str aT) (dP .int ents) (dP .str oh) bn iv)(f:d8 rows (dP .str aT) (dP .int ents) (dP .str oh) bn iv)(hw:aZ.length<=1000)(q:aT.lookup aZ=none)(hb:eZ bn (.inr aZ)=some r):
  eV [.at aN,.str aZ] A=.exc (.str "Barred") A:=by
 show cI (dM.1 [.sh (.at aN),.sh (.str aZ)] A)=_;unfold dM;have s:=Ff (z:=aZ) (y:=" is barred") hw (by decide+kernel);simp only[ev,cW,gu,gR,h.sA f,eI,q,pd,oW,h.TY f,hb,nD,s]
def Mc(h:bA A aN rows (dP .str aT) (dP .int ents) (dP .str oh) bn iv)(f:d8 rows (dP .str aT) (dP .int ents) (dP .str oh) bn iv)(hw:aZ.length<=1000)(q:aT.lookup aZ=none)(hb:eZ bn (.inr aZ)=none)(hd:oh.lookup ("door":Str)=some ("asked":Str))(hv:eZ iv (.inr aZ)=none):
  eV [.at aN,.str aZ] A=.exc (.str "NotAsked") A:=by
 show cI (dM.1 [.sh (.at aN),.sh (.str aZ)] A)=_;unfold dM;have s:=Ff (z:=aZ) (y:=" is not asked") hw (by decide+kernel);have b:oh.lookup (Str.ofString "door")=some (Str.ofString "asked"):=hd;simp only[ev,cW,gu,gR,h.sA f,eI,q,pd,oW,h.TY f,hb,h.Yo f,dS,b,di,kS,bX,h.Yp f,hv,eL,s]
def O7(h:bA A aN rows (dP .str aT) (dP .int ents) (dP .str oh) bn iv)(f:d8 rows (dP .str aT) (dP .int ents) (dP .str oh) bn iv)(k:dr aT ents ent)(gm:∀p∈aT,ent p.1<rows.length+1)(hl:rows.length+1<eM)(hr':aT.length+1<eM)(he:ents.length<eM)(hw:aZ.length<=1000)
  (hr:aT.lookup aZ=none) (hb:eZ bn (.inr aZ)=none) (hd:oh.lookup ("door":Str)=some d) (q:d≠"asked"\/(eZ iv (.inr aZ)).isSome=true):
  ∃A' cJ cQ,eV [.at aN,.str aZ] A=.ok .cx A'/\gU (rows++[iT rows aZ "enter" []]) (e_ aT aZ "guest") cJ cQ/\Ext A A' ([(aN+2,.bW (dP .str cQ)),(aN+1,.lst cJ)]++[(aN+6,.bW (iE iv (.inr aZ))),(aN+2,.bW (dP .str (e_ aT aZ "guest"))),(aN+3,.bW (dP .int (e_ ents aZ (rows.length+1)))),(aN+1,.lst (rows++[iT rows aZ "enter" []]))])
   /\bA A' aN cJ (dP .str cQ) (dP .int (e_ ents aZ (rows.length+1))) (dP .str oh) bn (iE iv (.inr aZ)):=by
 obtain⟨A1,l,g,b⟩:=O4 (aZ:=aZ) (c7:="enter") (role:="guest") h f (by omega) (by rw[jQ];omega) (by rw[jQ];exact he);rw[kZ,kZ]at g b;have hs:(e_ aT aZ "guest").length<eM:=by rw[uL hr,eO];exact hr'
 obtain⟨A2,cJ,cQ,s1,s2,s3,s4⟩:=L' b (G7 f U4 flI f.ch f.bn (IJ f.iv)) (k.enter (n:=rows.length+1) hr gm hw (by decide+kernel)) (by rw[eO];exact hl) hs;refine⟨A2,cJ,cQ,?_,s2,g.trans s3,s4⟩;show cI (dM.1 [.sh (.at aN),.sh (.str aZ)] A)=_;unfold dM;have r:oh.lookup (Str.ofString "door")=some d:=hd;have I:HF (.ok (d==("asked":Str))) (.ok (!(eZ iv (.inr aZ)).isSome))=.ok false:=by
  rcases q with q|q
  ·rw[show(d==("asked":Str))=false by simpa using q];rfl
  ·rw[q];cases(d==("asked":Str))<;>rfl
 simp only[ev,cW,gu,gR,h.sA f,eI,hr,pd,oW,h.TY f,hb,h.Yo f,dS,r,di,kS,h.Yp f,I,h.call (m:="let_in") rfl,l,b.call (m:="see_to_owner") rfl,s1]
def Md(h:bA A aN rows (dP .str aT) (dP .int ents) (dP .str oh) bn iv)(f:d8 rows (dP .str aT) (dP .int ents) (dP .str oh) bn iv)(hw:aZ.length<=1000)(q:aT.lookup aZ=none):
  gA [.at aN,.str aZ] A=.exc (.str "NotIn") A:=by
 show cI (gz.1 [.sh (.at aN),.sh (.str aZ)] A)=_;unfold gz;have n:=yT h f hw;rw[eI,q]at n;simp only[ev,cW,gu,gR,h.call (m:="need_in") rfl,n,pd,oW,cR,cq]
def O8(h:bA A aN rows (dP .str aT) (dP .int ents) (dP .str oh) bn iv)(f:d8 rows (dP .str aT) (dP .int ents) (dP .str oh) bn iv)(k:dr aT ents ent)(hl:rows.length+1<eM)(hr':aT.length<eM)(hw:aZ.length<=1000)
  (hr:aT.lookup aZ=some aO):
  ∃A' cJ q,gA [.at aN,.str aZ] A=.ok .cx A'/\gU (rows++[iT rows aZ "leave" []]) (kY aT aZ) cJ q/\Ext A A' ([(aN+2,.bW (dP .str q)),(aN+1,.lst cJ)]++[(aN+2,.bW (dP .str (kY aT aZ))),(aN+1,.lst (rows++[iT rows aZ "leave" []]))])
   /\bA A' aN cJ (dP .str q) (dP .int ents) (dP .str oh) bn iv:=by
 have w:=wy (aZ:=aZ) (c7:="leave") (ps:=[]) h f (by omega) (by decide) rfl;have h1:=h.II (Ext.put (o:=.lst (rows++[iT rows aZ "leave" []])) h.lg);have h2:=h1.T1 (Ext.put (o:=.bW (dP .str (kY aT aZ))) h1.rk);obtain⟨A2,cJ,q,s1,s2,s3,s4⟩:=L' h2 (G7 f U4 flI f.ch f.bn f.iv) (k.leave (aZ:=aZ)) (by rw[eO];exact hl) (sP (oR ..) hr');refine⟨A2,cJ,q,?_,s2,((Ext.put h.lg).trans (Ext.put h1.rk)).trans s3,s4⟩;show cI (gz.1 [.sh (.at aN),.sh (.str aZ)] A)=_;unfold gz;have n:=yT h f hw;rw[eI,hr]at n;have b:∀A,r_ (.ok (.tup [])) A=.ok (.tup []) A:=λA=>rfl;have p:=GS (z:=aZ) (v:=.str aO) h1.rk (by rw[eI,hr];rfl);rw[Bt]at p;simp only[ev,cW,gu,gR,h.call (m:="need_in") rfl,n,di,nD,cC,h.call (m:="write_row") rfl,b,w,h1.TZ,GR h1.rk,p,h2.call (m:="see_to_owner") rfl,s1]
end
def O9(h:cw A bg a9)(hw:aZ.length<=1000):h_ [.at 0,.tup [.str aZ]] A=if(bg.lookup aZ).isSome=true then .ok .cx A else .exc (.str "NoPerson") A:=by
 show cI (dF.1 [.sh (.at 0),.sh (.tup [.str aZ]),.no] A)=_;unfold dF;have s:=Ff (z:="nobody is called ") (y:=aZ) (by decide+kernel) hw;simp only[ev,cW,gu,gR,GY,cf,cg,h.OP,eI,j8];cases(bg.lookup aZ).isSome with
 |true=>simp only[dA,ev,cW,cC]
 |false=>simp only[eL,ev,cW,gu,gR,s,cR,cq]
def G8(h:cw A bg a9)(q:a9.lookup aO=some aN):uz [.at 0,.str aO] A=.ok (.at aN) A:=by
 show cI (km.1 [.sh (.at 0),.sh (.str aO)] A)=_;unfold km;simp only[ev,cW,gu,gR,h.T2,eI,q,di,nD,dA,h.aa7,kj,wm h.pl,dS,kS]
def sD(h:cw A bg a9)(hw:aZ.length<=1000)(q:a9.lookup aO=some aN):je [.at 0,.tup [.str aZ],.str aO] A=if(bg.lookup aZ).isSome=true then .ok (.at aN) A else .exc (.str "NoPerson") A:=by
 show cI (ee.1 [.sh (.at 0),.sh (.tup [.str aZ]),.sh (.str aO)] A)=_;unfold ee;simp only[ev,cW,gu,gR,h.call (m:="need_people") rfl,O9 h hw];cases(bg.lookup aZ).isSome with
 |true=>simp only[cC,ev,cW,gu,gR,h.call (m:="place") rfl,G8 h q]
 |false=>simp only[cR,cq,ev]
def Me(h:cw A bg a9)(hw:aZ.length<=1000)(q:a9.lookup aO=some aN)(hF:rG "Room" "enter" eV (.ok (.at aN) A) (λA=>.ok [.str aZ] A)=eV [.at aN,.str aZ] A):
  n8 [.at 0,.str aZ,.str aO] A=if(bg.lookup aZ).isSome=true then cI (pV (eV [.at aN,.str aZ] A) [.sh (.at 0),.sh (.str aZ),.sh (.str aO)])else .exc (.str "NoPerson") A:=by
 show cI (kn.1 [.sh (.at 0),.sh (.str aZ),.sh (.str aO)] A)=_;unfold kn;have b:∀A,r_ (.ok (.tup [.str aZ])) A=.ok (.tup [.str aZ]) A:=λA=>rfl;simp only[ev,cW,gu,gR,h.call (m:="place_for") rfl,b,sD h hw q];cases(bg.lookup aZ).isSome with
 |true=>simp only[cC];rw[hF]
 |false=>simp only[cR,cq];rfl
def Mf(h:cw A bg a9)(hw:aZ.length<=1000)(q:a9.lookup aO=some aN)(hF:rG "Room" "leave" gA (.ok (.at aN) A) (λA=>.ok [.str aZ] A)=gA [.at aN,.str aZ] A):
  n_ [.at 0,.str aZ,.str aO] A=if(bg.lookup aZ).isSome=true then cI (pV (gA [.at aN,.str aZ] A) [.sh (.at 0),.sh (.str aZ),.sh (.str aO)])else .exc (.str "NoPerson") A:=by
 show cI (ko.1 [.sh (.at 0),.sh (.str aZ),.sh (.str aO)] A)=_;unfold ko;have b:∀A,r_ (.ok (.tup [.str aZ])) A=.ok (.tup [.str aZ]) A:=λA=>rfl;simp only[ev,cW,gu,gR,h.call (m:="place_for") rfl,b,sD h hw q];cases(bg.lookup aZ).isSome with
 |true=>simp only[cC];rw[hF]
 |false=>simp only[cR,cq];rfl
section
variable {ks kb ka n:Nat}{v p c7:Str}
theorem yW{ps:List Tr}(h:bQ A aN ks kb ka rows bq stays bw aP aO v p)(f:ij rows)(q:rows.length<eM)(hp:2+ps.length<=eM)(ht:mT ps=true):
  BR [.at aN,.str aZ,.tup ps] A=.ok (.int (rows.length+1)) (A.set (aN+1) (.lst (rows++[.tup (.int (rows.length+1):: .str aZ::ps)]))):=by
 show cI (wu.1 [.sh (.at aN),.sh (.str aZ),.sh (.tup ps)] A)=_;unfold wu;have h1:=h.IK (Ext.put (o:=.lst (rows++[.tup (.int (rows.length+1):: .str aZ::ps)])) h.rw);have b:xQ (.tup [.int (rows.length+1),.str aZ]) (.tup ps)=.ok (.tup (.int (rows.length+1):: .str aZ::ps)):=aV hp;have g:∀A,r_ (.ok (.tup (.int (rows.length+1):: .str aZ::ps))) A=.ok (.tup (.int (rows.length+1):: .str aZ::ps)) A:=λA=>aV (by simpa only[Jj,mT,pw]using ht);have l:((rows++[Tr.tup (.int (rows.length+1):: .str aZ::ps)]).length:Int)=rows.length+1:=by simp
 simp only[ev,cW,gu,gR,kj,h.aa8,Fd h.rw,h.T5 (n:=3) f,b,g,Fe h.rw q,h1.T5 (n:=3) (m4 f),l]
theorem Mg(h:bQ A aN ks kb ka rows bq stays bw aP aO v p)(f:ij rows)(hl:rows.length<eM)(hs:stays.length<eM)(hr:bq.length<eM)(ha:aP.length<=eM):
  ∃A' Yu f1,vf [.at aN,.str aZ,.str c7] A=.ok .cx A'/\A.length<=Yu/\Ext A A' [(aN,.bW (dP id (zl aN ks kb Yu aO v p))),(aN+2,.bW (dP .str (e_ bq aZ "guest"))),(ks,.lst ((stays++[(aZ,f1,(rows.length+1:Int),none)]).map vW)),(aN+1,.lst (rows++[iT rows aZ c7 []]))]
   /\bQ A' aN ks kb Yu (rows++[iT rows aZ c7 []]) (e_ bq aZ "guest") (stays++[(aZ,f1,(rows.length+1:Int),none)]) bw (aP.filter λz=>!(z==aZ)) aO v p:=by
 have w:=yW (aZ:=aZ) (ps:=[.str c7]) h f hl (by show 2+1<=eM;decide) rfl;have h1:=h.IK (Ext.put (o:=.lst (rows++[iT rows aZ c7 []])) h.rw)
 let f1:Int:=if p="shown"then 1 else rows.length+1
 have h2:=h1.aba (qe:=stays++[(aZ,f1,(rows.length+1:Int),none)]) (Ext.put h1.st);have b:=h2.OR (k_:=e_ bq aZ "guest") (Ext.put h2.rl);have r:=b.abb (yy:=aP.filter λz=>!(z==aZ));have g:=((Ext.put (o:=.lst (rows++[iT rows aZ c7 []])) h.rw).trans (Ext.put (o:=.lst ((stays++[(aZ,f1,(rows.length+1:Int),none)]).map vW)) h1.st)).trans (Ext.put (o:=.bW (dP .str (e_ bq aZ "guest"))) h2.rl);refine⟨_,_,f1,?_,g.le,g.cons (Ext.past Ext.push (Ext.put (Ext.push.same b.o rfl))),r⟩;show cI (ra.1 [.sh (.at aN),.sh (.str aZ),.sh (.str c7),.no,.no] A)=_;unfold ra;have I:∀A,r_ (.ok (.tup [.str c7])) A=.ok (.tup [.str c7]) A:=λA=>rfl;have L:∀A,r_ (.ok (.tup [.str aZ,.int f1,.int (rows.length+1),.cx])) A=.ok (.tup [.str aZ,.int f1,.int (rows.length+1),.cx]) A:=λA=>rfl;have M:J9 (.ok (p==("shown":Str))) (.ok (.int 1)) (.ok (.int (rows.length+1)))=.ok (.int f1):=by
  show(if(p==("shown":Str))then _ else _)=_;by_cases q:p="shown"
  ·subst q;rfl
  ·rw[show(p==("shown":Str))=false by simpa using q];show Rs.ok _=_;congr 2;exact(bb q).symm
 have ep:=mh (z:=aZ) (t:=.str "guest") (Y:=[.sh (.at aN),.sh (.str aZ),.sh (.str c7),.sh (.int (rows.length+1)),.sh (.int f1)]) h2.rl (by rw[jQ];exact hr);rw[kZ]at ep;have l:=Fe (t:=.tup [.str aZ,.int f1,.int (rows.length+1),.cx]) h1.st (by rw[bt];exact hs);rw[show stays.map vW++[.tup [.str aZ,.int f1,.int (rows.length+1),.cx]]=(stays++[(aZ,f1,(rows.length+1:Int),none)]).map vW by rw[ke];rfl]at l;simp only[ev,cW,gu,gR,I,w,cf,cg,h1.a_p (n:=4),M,kj,h1.aa9,Fd h1.st,L,l,nP,h2.OQ,ep,GY,b.T6 (n:=3)];rw[qW (Bu:=[.sh (.str aZ)]) (λz=>!(z==aZ)) rfl ha rfl (λ_=>rfl) ?hC]
 case hC=>intro z hz;simp only[ev,OS]
 simp only[wj qU,nP,ev,cW,gu,gR,b.abd]
noncomputable def jI(aZ:Str)(n:Int)(s:nQ):nQ:=if s.1=aZ/\s.2.2.2=none then(s.1,s.2.1,s.2.2.1,some n)else s
def O_{n:Int}{r:Str}(h:bQ A aN ks kb ka rows bq stays bw aP aO v p)(hs:stays.length<=eM)(hr:bq.lookup aZ=some r):
  ∃A' Yv,yR [.at aN,.str aZ,.int n] A=.ok .cx A'/\A.length<=Yv/\Ext A A' [(aN,.bW (dP id (zl aN Yv kb ka aO v p))),(aN+2,.bW (dP .str (kY bq aZ)))]
   /\bQ A' aN Yv kb ka rows (kY bq aZ) (stays.map (jI aZ n)) bw aP aO v p:=by
 have h1:=h.OR (k_:=kY bq aZ) (Ext.put h.rl);have h2:=h1.abc (qe:=stays.map (jI aZ n));have I:=Ext.put (o:=.bW (dP .str (kY bq aZ))) h.rl;refine⟨_,_,?_,I.le,I.cons (Ext.past Ext.push (Ext.put (Ext.push.same h1.o rfl))),h2⟩;show cI (uI.1 [.sh (.at aN),.sh (.str aZ),.sh (.int n)] A)=_;unfold uI;have pp:=GS (z:=aZ) (v:=.str r) h.rl (by rw[eI,hr];rfl);rw[Bt]at pp;simp only[ev,cW,gu,gR,kj,h.OQ,GR h.rl,pp,h1.Yq (n:=3),GY];rw[lS (Bu:=[.sh (.str aZ),.sh (.int n)]) (λ_=>true) vW (λs=>vW (jI aZ n s)) rfl hs rfl (λ_ _=>rfl) ?hF]
 case hF=>
  intro s _ _;obtain⟨a,b,c,e⟩:=s;have g:jX (vW (a,b,c,e)) (.int 0)=.ok (.str a):=rfl;have L:jX (vW (a,b,c,e)) (.int 3)=.ok (Fg e):=rfl;have is:vU (.ok (vW (a,b,c,e))) (.ok none) (Ji (.ok (.int 3)))=.ok (.tup [.str a,.int b,.int c]):=rfl;have ia:xQ (.tup [.str a,.int b,.int c]) (.tup [.int n])=.ok (.tup [.str a,.int b,.int c,.int n]):=rfl;cases e with
  |none=>
   have l:Gd (Fg none) .cx=.ok (.bl true):=rfl;by_cases q:a=aZ
   ·subst q;simp only[ev,cW,g,L,is,ia,l,bX,jI,and_self,cC]
    rfl
   ·have:(a==aZ)=false:=by simpa using q
    simp only[ev,cW,g,this,jI,q,false_and,cq]
  |some m=>
   have l:Gd (Fg (some m)) .cx=.ok (.bl false):=rfl;simp only[ev,cW,g,L,l,jI,reduceCtorEq,and_false,cq];cases(a==aZ)<;>rfl
 rw[show stays.filter (λ_=>true)=stays from oV.mpr λ_ _=>rfl,show(stays.map λs=>vW (jI aZ n s))=(stays.map (jI aZ n)).map vW by rw[cL];rfl];simp only[wj yz,nP,ev,cW,gu,gR,h1.abe]
end
section
variable {ks kb ka n:Nat}{v p c7:Str}{ent:Str->Int}
theorem Fw{T:Tr}{r:Str}(q:jX T (.str "roles")=.ok (.bW (dP .str bq)))(hr:bq.lookup aZ=some r)(h4:r∈gK):yP [T,.str aZ]=.ok (.int (lvl r)):=by
 show dH (m_.1 [.sh T,.sh (.str aZ)])=_;unfold m_;have b:∀X:Rs Tr,(if([.str "guest",.str "speaker",.str "keeper",.str "owner"]:List Tr).length<=eM then X else .bad)=X:=λX=>aV (by show 4<=eM;decide);have g:vS [.str "guest",.str "speaker",.str "keeper",.str "owner"] (.str r)=.ok (.int (lvl r)):=by
  have:r="guest"\/r="speaker"\/r="keeper"\/r="owner":=by simpa using h4
  rcases this with rfl|rfl|rfl|rfl<;>rfl
 simp only[ev,cW,q,eI,hr,di,nD,b,dS,kS,g]
noncomputable def oE(stays:List nQ):List Str:=(stays.filter λs=>s.2.2.2.isNone).map (·.1)
theorem uM{α:Type}{Q:α->Bool}{x:α}:∀{l r:List α},l.filter Q=x::r->∃a:Nat,l[a]?=some x/\Q x=true/\∀(b:Nat) (y:α),b<a->l[b]?=some y->Q y=false
 |y::l,r,h=>by
  cases e:Q y with
  |true=>
   rw[lF e]at h;cases h;exact⟨0,rfl,e,λb y hb=>absurd hb (w8 _)⟩
  |false=>
   rw[j6 (by rw[e];exact fK)]at h;obtain⟨a,h1,h2,g⟩:=uM h;refine⟨a+1,h1,h2,λb z hb hz=>?_⟩;cases b with
   |zero=>cases hz;exact e
   |succ b=>exact g b z (Nat.lt_of_succ_lt_succ hb) hz
def ix0{t:Tr}:jX (.lst (t::rows)) (.int 0)=.ok t:=by
 show kS (uV (t::rows) 0)=_;have:MK (t::rows).length 0=some 0:=by unfold MK;simp
 unfold uV;rw[this]
 rfl
theorem uN(h:bQ A aN ks kb ka rows bq stays bw aP aO v p)(f:ij rows)(k:dr bq ents ent)(ho:oE stays=bq.map (·.1))(hl:rows.length<eM)(hs:stays.length<=eM)(hr:bq.length<eM):
  ∃A' cJ k_,kD [.at aN] A=.ok .cx A'/\gU rows bq cJ k_/\Ext A A' [(aN+1,.lst cJ),(aN+2,.bW (dP .str k_))]/\bQ A' aN ks kb ka cJ k_ stays bw aP aO v p:=by
 show∃A' cJ k_,cI (rb.1 [.sh (.at aN),.no,.no] A)=.ok .cx A'/\_;unfold rb;have x0:Ext A A [(aN+1,.lst rows),(aN+2,.bW (dP .str bq))]:=(Ext.refl.idem h.rl rfl).idem h.rw (hX (by omega));have I:=h.Bw (n:=3);simp only[ev,cW,gu,gR,I,T7];by_cases L:bq=[]
 ·subst L;exact⟨_,_,_,rfl,.same (.inl rfl),x0,h⟩
 have he:bq.isEmpty=false:=by cases bq<;>first|exact absurd rfl L|rfl
 simp only[he,eL,dA,ev,wk k.sh,map_fst];rw[lS (Bu:=[.sh (aY 5 A (.at aN))]) (λ_=>true) (λp=>.str p.1) (λp=>.str p.2) (xs:=bq) (by rw[cL];rfl) (dB hr) rfl (λ_ _=>rfl) ?hF]
 case hF=>intro q g _;simp only[ev,cW,I,dS,iU k.nd q g,di,kS]
 rw[show bq.filter (λ_=>true)=bq from oV.mpr λ_ _=>rfl,show(bq.map λp=>Tr.str p.2)=(bq.map (·.2)).map .str by rw[cL];rfl];simp only[ev,cW,gu,gR,Bx];by_cases hw:∃p∈bq,p.2="owner"
 ·have:(bq.map (·.2)).contains (Str.ofString "owner")=true:=by
   obtain⟨q,g,e⟩:=hw;exact fb.mpr (cE.mpr ⟨q,g,e⟩)
  simp only[this,ev];exact⟨_,_,_,rfl,.same (.inr hw),x0,h⟩
 have Jn:∀p∈bq,p.2≠"owner":=λp hp e=>hw ⟨p,hp,e⟩;have hc:(bq.map (·.2)).contains (Str.ofString "owner")=false:=by
  cases e:(bq.map (·.2)).contains (Str.ofString "owner")with
  |false=>rfl
  |true=>
   obtain⟨q,g,e⟩:=cE.mp (fb.mp e);exact absurd e (Jn q g)
 simp only[hc,ev,cW,gu,gR,I,wk k.sh,map_fst];rw[lS (Bu:=[.sh (aY 5 A (.at aN))]) (λ_=>true) (λp=>.str p.1) (λp=>.int (lvl p.2)) (xs:=bq) (by rw[cL];rfl) (dB hr) rfl (λ_ _=>rfl) ?hF]
 case hF=>intro q g _;simp only[ev,cW,Fw I (iU k.nd q g) (k.rl q g)]
 rw[show bq.filter (λ_=>true)=bq from oV.mpr λ_ _=>rfl];have M:=max_map (f:=λq:Str×Str=>lvl q.2) L;obtain⟨m1,m2⟩:=Fh (ns:=bq.map λq=>lvl q.2) (by rw[bt];exact sO.mpr L);generalize rK (bq.map λq=>lvl q.2)=most at M m1 m2;simp only[ev,cW,gu,gR,M,cf,cg,h.Yq (n:=3),GY]
 let Q:Str->Bool:=λz=>match bq.lookup z with|some r=>lvl r==most|none=>false
 have hQ:∀q∈bq,Q q.1=(lvl q.2==most):=λq g=>by show(match bq.lookup q.1 with|some r=>lvl r==most|none=>false)=_;rw[iU k.nd q g]
 rw[lS (Bu:=[.sh (.int most),.sh (aY 5 A (.at aN))]) (λs:nQ=>s.2.2.2.isNone&&Q s.1) vW (λs=>.str s.1) rfl hs rfl ?hC ?hF]
 case hC=>
  intro s hs;obtain⟨a,b,c,e⟩:=s;have i0:jX (vW (a,b,c,e)) (.int 0)=.ok (.str a):=rfl;have i3:jX (vW (a,b,c,e)) (.int 3)=.ok (Fg e):=rfl;cases e with
  |some m=>
   have ie:Gd (Fg (some m)) .cx=.ok (.bl false):=rfl;simp only[ev,cW,i3,ie,wR,xf]
  |none=>
   have ie:Gd (Fg none) .cx=.ok (.bl true):=rfl;have hm:a∈oE stays:=cE.mpr ⟨_,gg.mpr ⟨hs,rfl⟩,rfl⟩;rw[ho]at hm;obtain⟨q,g,e⟩:=cE.mp hm;subst e;simp only[ev,cW,i0,i3,ie,Fw I (iU k.nd q g) (k.rl q g),Option.isNone_none,pw,hQ q g]
 case hF=>intro s _ _;obtain⟨a,b,c,e⟩:=s;rfl
 have ht:(stays.filter λs:nQ=>s.2.2.2.isNone&&Q s.1).map (λs=>Tr.str s.1)=((bq.filter λq=>lvl q.2==most).map (·.1)).map .str:=by
  rw[show(λs:nQ=>Tr.str s.1)=Tr.str∘(·.1)from rfl,<-cL];congr 1;have e1:(stays.filter λs:nQ=>s.2.2.2.isNone&&Q s.1)=(stays.filter λs=>s.2.2.2.isNone).filter λs=>Q s.1:=by
   rw[List.filter_filter];congr 1;funext s;exact Bool.and_comm ..
  have e2:((stays.filter λs=>s.2.2.2.isNone).filter λs=>Q s.1).map (·.1)=(oE stays).filter Q:=by unfold oE;rw[pb];rfl
  rw[e1,e2,ho,pb];congr 1;exact sT λq g=>hQ q g
 rw[ht];obtain⟨q0,hq0,e0⟩:=cE.mp m1;have hfe:(bq.filter λq=>lvl q.2==most)≠[]:=List.ne_nil_of_mem (gg.mpr ⟨hq0,by simpa using e0⟩);obtain⟨⟨z,l⟩,c9,S⟩:=List.exists_cons_of_ne_nil hfe;obtain⟨a,a1,a2,a3⟩:=uM S;have hz:IY bq z:=⟨a,l,a1,λq g=>by
  have:=m2 _ (gf g);have e:lvl l=most:=by simpa using a2
  rw[e];exact this,λb q hb g=>by
  have h1:=m2 _ (gf (f:=λq:Str×Str=>lvl q.2) (dZ g));have h2:¬lvl q.2=most:=by simpa using a3 b q hb g
  have e:lvl l=most:=by simpa using a2
  omega⟩
 rw[S];have h1:=h.ext (Ext.push (o:=.lst ((((z,l)::c9).map (·.1)).map .str))) λ_ _=>rfl;have h2:=h1.OR (k_:=e_ bq z "owner") (Ext.put h1.rl);have t1:aY 5 (A++[Ao.lst ((((z,l)::c9).map (·.1)).map .str)]) (.at A.length)=.lst ((((z,l)::c9).map (·.1)).map .str):=by rw[kX lR,qV]
 have t2:aY 5 ((A++[Ao.lst ((((z,l)::c9).map (·.1)).map .str)]).set (aN+2) (.bW (dP .str (e_ bq z "owner")))) (.at A.length)=.lst ((((z,l)::c9).map (·.1)).map .str):=by
  rw[kX (((Ext.put h1.rl).same lR (hX (by have:=iI h.rl;omega)))),qV]
 have i0:jX (.lst ((((z,l)::c9).map (·.1)).map .str)) (.int 0)=.ok (.str z):=ix0;have ep:=mh (z:=z) (t:=.str "owner") (Y:=[.sh (.at aN),.sh (.int most),.sh (.at A.length)]) h1.rl (by rw[jQ];exact hr);rw[kZ]at ep;have w:=yW (aZ:=z) (ps:=[.str "role",.str z,.str "owner"]) h2 f hl (by show 2+3<=eM;decide) rfl;have ef:∀A,r_ (.ok (.tup [.str "role",.str z,.str "owner"])) A=.ok (.tup [.str "role",.str z,.str "owner"]) A:=λA=>rfl;simp only[wj qU,ev,cW,gu,gR,cf,cg,nP,kj,h1.OQ,t1,i0,ep,t2,ef,w];exact⟨_,_,_,rfl,.zr z hz Jn L,(Ext.past Ext.push (Ext.put h1.rl)).cons (Ext.put h2.rw),h2.IK (Ext.put h2.rw)⟩
end
section
variable {ks kb ka n:Nat}{asked:List Str}{v p c6:Str}
theorem G9{c7:Str}(m:fN A bw c8)(h:bQ A aN ks kb ka rows bq stays aP asked aO v p)(q:c8.lookup c6=some aN)(hw:c7="found"\/c7="enter"\/c7="leave"):
  fq [aY 5 A (.at 4),.tup [.str c7,.str aZ,.str c6]]=.ok (if bw.contains aZ=false then .str "no person"else if c7="found"then .str "known"else if c7="enter"then(if(bq.lookup aZ).isSome=true then .str "known"else if aP.contains aZ=true then .str "barred"else if aO="asked"/\asked.contains aZ=false then .str "not asked"else .cx)else if(bq.lookup aZ).isSome=true then .cx else .str "not in"):=by
 show dH (ip.1 [.sh (aY 5 A (.at 4)),.sh (.tup [.str c7,.str aZ,.str c6]),.no,.no,.no])=_;unfold ip;have b:jX (.tup [.str c7,.str aZ,.str c6]) (.int 0)=.ok (.str c7):=rfl;have i1:jX (.tup [.str c7,.str aZ,.str c6]) (.int 1)=.ok (.str aZ):=rfl;have i2:jX (.tup [.str c7,.str aZ,.str c6]) (.int 2)=.ok (.str c6):=rfl;have g:(c7==Str.ofString "come")=false:=by rcases hw with rfl|rfl|rfl<;>decide+kernel
 have l:D4 (.str c7) (.tup [.str "ask",.str "role",.str "out",.str "bar",.str "unbar"])=.ok (.bl false):=by rcases hw with rfl|rfl|rfl<;>rfl
 have r:D4 (.str c7) (.tup [.str "say",.str "mend",.str "take_back"])=.ok (.bl false):=by rcases hw with rfl|rfl|rfl<;>rfl
 have l1:∀a,zb (.ok [a])=.ok (.lst [a]):=λ_=>rfl;have a1:xQ (.lst [.str aZ]) (.lst [])=.ok (.lst [.str aZ]):=rfl;have I:∀x:Bool,pM (.lst (((if x then[aZ]else[]):List Str).map .str))=.ok x:=λx=>by cases x<;>rfl
 have t3:aY 3 A (.at aN)=.bW (dP (aY 2 A) (zl aN ks kb ka aO v p)):=g8 h.o;simp only[ev,cW,b,i1,i2,cf,cg,g,l1,GY];rw[lS (Bu:=[.sh (.tup [.str c7,.str aZ,.str c6]),.sh (.str c7)]) (λ_:Unit=>false) (λ_=>.int 3) (λ_=>.cx) (xs:=[()]) (by rfl) (by decide) rfl (λ_ _=>by simp only[ev,cW,l]) (λ_ _ e=>by cases e)];simp only[o5,w_,cR,cq,mG,a1,ev,cW,GY,cf,cg];rw[qW (ns:=[aZ]) (Bu:=[.sh (aY 5 A (.at 4))]) (λz=>!bw.contains z) (by rfl) (by show 1<=eM;decide) rfl (λ_=>rfl) ?hC]
 case hC=>intro z _;simp only[ev,cW,m.T8 (n:=3),yA]
 have L:pM (.lst ((List.filter (λz=>!bw.contains z) [aZ]).map .str))=.ok (!bw.contains aZ):=by
  rw[o5,w_];exact I _
 simp only[ev,cW,L];cases hp:bw.contains aZ with
 |false=>simp only[eL,ev,cC]
 |true=>
  simp only[dA,ev,cW,i1,i2,m.LP (n:=3),Dy,q,di,o6,cf,cg,Bool.true_eq_false,cq];rcases hw with rfl|rfl|rfl
  ·simp only[bX,ev,cW,t3,OU,cC]
  ·have s1:(Str.ofString "enter"==Str.ofString "found")=false:=by decide+kernel
   have s2:¬(Str.ofString "enter"=Str.ofString "found"):=by decide+kernel
   simp only[s1,s2,ev,cW,cq,bX,cC];rw[show Gd (aY 3 A (.at aN)) .cx=.ok (.bl false) by rw[t3];rfl];simp only[ev,cW,i1,bX,h.Bw (n:=1),eI,j8];cases(bq.lookup aZ).isSome with
   |true=>simp only[ev,cW,cC]
   |false=>
    simp only[ev,cW,i1,h.Yr (n:=1),Bx,cR,cq];cases aP.contains aZ with
    |true=>simp only[ev,cW,cC]
    |false=>
     simp only[ev,cW,i1,h.T6 (n:=1),h.a_d (n:=2),yA,cR,cq];by_cases hd:aO="asked"
     ·subst hd;simp only[bX,ev,cW,true_and];cases asked.contains aZ<;>rfl
     ·have:(aO==Str.ofString "asked")=false:=by simpa using hd
      simp only[this,ev,cW,hd,false_and,cq]
  ·have s1:(Str.ofString "leave"==Str.ofString "found")=false:=by decide+kernel
   have s2:¬(Str.ofString "leave"=Str.ofString "found"):=by decide+kernel
   have s3:(Str.ofString "leave"==Str.ofString "enter")=false:=by decide+kernel
   have s4:¬(Str.ofString "leave"=Str.ofString "enter"):=by decide+kernel
   simp only[s1,s2,s3,s4,ev,cW,cq];rw[show Gd (aY 3 A (.at aN)) .cx=.ok (.bl false) by rw[t3];rfl];simp only[ev,cW,i1,s3,h.Bw (n:=1),eI,j8];cases(bq.lookup aZ).isSome with
   |true=>simp only[dA,ev,cW,r,bX,cC]
   |false=>simp only[eL,ev,cW,cR,cq]
end
section
variable {A0 A1 A2:Ab}{c6:Str}
theorem Mh(m:fN A bw c8)(q:c8.lookup c6=some aN)(q1:vf [.at aN,.str aZ,.str "enter"] A=.ok .cx A1)(q2:kD [.at aN] A1=.ok .cx A2):nc [.at 4,.tup [.str "enter",.str aZ,.str c6]] A=.ok .cx A2:=by
 show cI (jG.1 [.sh (.at 4),.sh (.tup [.str "enter",.str aZ,.str c6]),.no,.no,.no] A)=_;unfold jG;have sl:vU (.ok (.tup [.str "enter",.str aZ,.str c6])) (.ok none) (Ji (.ok (.int 2)))=.ok (.tup [.str "enter",.str aZ]):=rfl;have b:∀A,r_ (.ok (.tup [.str "enter",.str aZ])) A=.ok (.tup [.str "enter",.str aZ]) A:=λA=>rfl;have gt:∀A,Km (gT [2,3]) (.ok (.tup [.str "enter",.str aZ]) A) [.sh (.at 4),.sh (.tup [.str "enter",.str aZ,.str c6]),.no,.no,.no]=.ok (.nx [.sh (.at 4),.sh (.tup [.str "enter",.str aZ,.str c6]),.sh (.str "enter"),.sh (.str aZ),.no]) A:=λA=>rfl;have i2:jX (.tup [.str "enter",.str aZ,.str c6]) (.int 2)=.ok (.str c6):=rfl;have s1:(Str.ofString "enter"==Str.ofString "come")=false:=by decide+kernel
 have s2:(Str.ofString "enter"==Str.ofString "found")=false:=by decide+kernel
 have s3:(Str.ofString "enter"==Str.ofString "say")=false:=by decide+kernel
 simp only[ev,cW,gu,gR,sl,b,gt,s1,s2,s3,i2,kj,m.T9,wm m.rs,dS,q,di,kS,cf,cg,bX,q1,q2]
theorem Mi{n:Int}(m:fN A bw c8)(q:c8.lookup c6=some aN)(q0:BR [.at aN,.str aZ,.tup [.str "leave"]] A=.ok (.int n) A0)(q1:yR [.at aN,.str aZ,.int n] A0=.ok .cx A1)(q2:kD [.at aN] A1=.ok .cx A2):nc [.at 4,.tup [.str "leave",.str aZ,.str c6]] A=.ok .cx A2:=by
 show cI (jG.1 [.sh (.at 4),.sh (.tup [.str "leave",.str aZ,.str c6]),.no,.no,.no] A)=_;unfold jG;have sl:vU (.ok (.tup [.str "leave",.str aZ,.str c6])) (.ok none) (Ji (.ok (.int 2)))=.ok (.tup [.str "leave",.str aZ]):=rfl;have b:∀A,r_ (.ok (.tup [.str "leave",.str aZ])) A=.ok (.tup [.str "leave",.str aZ]) A:=λA=>rfl;have g:∀A,r_ (.ok (.tup [.str "leave"])) A=.ok (.tup [.str "leave"]) A:=λA=>rfl;have gt:∀A,Km (gT [2,3]) (.ok (.tup [.str "leave",.str aZ]) A) [.sh (.at 4),.sh (.tup [.str "leave",.str aZ,.str c6]),.no,.no,.no]=.ok (.nx [.sh (.at 4),.sh (.tup [.str "leave",.str aZ,.str c6]),.sh (.str "leave"),.sh (.str aZ),.no]) A:=λA=>rfl;have i2:jX (.tup [.str "leave",.str aZ,.str c6]) (.int 2)=.ok (.str c6):=rfl;have s1:(Str.ofString "leave"==Str.ofString "come")=false:=by decide+kernel
 have s2:(Str.ofString "leave"==Str.ofString "found")=false:=by decide+kernel
 have s3:(Str.ofString "leave"==Str.ofString "say")=false:=by decide+kernel
 have s4:(Str.ofString "leave"==Str.ofString "enter")=false:=by decide+kernel
 simp only[ev,cW,gu,gR,sl,b,g,gt,s1,s2,s3,s4,i2,kj,m.T9,wm m.rs,dS,q,di,kS,cf,cg,bX,q0,q1,q2]
def ZI{X:Rz Tr}{G:bT->Ab->Rz Out}:cI (EH (Kl X) G)=X:=by cases X<;>rfl
theorem Mj(h:cw A bg a9):f' [.at 0,.tup [.str "enter",.str aZ,.str c6]] A=n8 [.at 0,.str aZ,.str c6] A:=by
 show cI (gS.1 [.sh (.at 0),.sh (.tup [.str "enter",.str aZ,.str c6]),.no] A)=_;unfold gS;have b:jX (.tup [.str "enter",.str aZ,.str c6]) (.int 0)=.ok (.str "enter"):=rfl;have i1:jX (.tup [.str "enter",.str aZ,.str c6]) (.int 1)=.ok (.str aZ):=rfl;have i2:jX (.tup [.str "enter",.str aZ,.str c6]) (.int 2)=.ok (.str c6):=rfl;have s1:(Str.ofString "enter"==Str.ofString "come")=false:=by decide+kernel
 have s2:(Str.ofString "enter"==Str.ofString "found")=false:=by decide+kernel
 simp only[ev,cW,gu,gR,b,i1,i2,s1,s2,cf,cg,bX,h.call (m:="enter") rfl,ZI]
theorem Ml(h:cw A bg a9):f' [.at 0,.tup [.str "leave",.str aZ,.str c6]] A=n_ [.at 0,.str aZ,.str c6] A:=by
 show cI (gS.1 [.sh (.at 0),.sh (.tup [.str "leave",.str aZ,.str c6]),.no] A)=_;unfold gS;have b:jX (.tup [.str "leave",.str aZ,.str c6]) (.int 0)=.ok (.str "leave"):=rfl;have i1:jX (.tup [.str "leave",.str aZ,.str c6]) (.int 1)=.ok (.str aZ):=rfl;have i2:jX (.tup [.str "leave",.str aZ,.str c6]) (.int 2)=.ok (.str c6):=rfl;have s1:(Str.ofString "leave"==Str.ofString "come")=false:=by decide+kernel
 have s2:(Str.ofString "leave"==Str.ofString "found")=false:=by decide+kernel
 have s3:(Str.ofString "leave"==Str.ofString "enter")=false:=by decide+kernel
 simp only[ev,cW,gu,gR,b,i1,i2,s1,s2,s3,cf,cg,bX,h.call (m:="leave") rfl,ZI]
variable {ts:List Tr}{x w:Str}
def Ub(q:f' [.at 0,.tup ts] A=.ok .cx A1):qB [.at 0,.tup ts] A=.ok .cx A1:=by
 show cI (ng.1 [.sh (.at 0),.sh (.tup ts),.no,.no,.no] A)=_;unfold ng;have tz:∀o A G,E1 5 4 ["Known","NoPerson","NoRoom","NotIn","NotAsked","Barred","NoRight","NoRow","NoHand","NoLine"] (.ok o A) G=.ok o A:=λ_ _ _=>rfl;have b:Gd .cx .cx=.ok (.bl true):=rfl;simp only[ev,cW,gu,gR,cf,cg,q,tz,b]
def Pa(q:f' [.at 0,.tup ts] A=.exc (.str x) A)(hx:(["Known","NoPerson","NoRoom","NotIn","NotAsked","Barred","NoRight","NoRow","NoHand","NoLine"]:List Str).contains x=true)(hw:yQ [.zG x]=.ok (.str w)):qB [.at 0,.tup ts] A=.ok (.str w) (A++[.D5 x]):=by
 show cI (ng.1 [.sh (.at 0),.sh (.tup ts),.no,.no,.no] A)=_;unfold ng;have tz:∀A:Ab,E1 5 4 ["Known","NoPerson","NoRoom","NotIn","NotAsked","Barred","NoRight","NoRow","NoHand","NoLine"] (.exc (.str x) A) (λY A=>AY 2 (gE (xJ Y 4) A) Y)=.ok (.nx [.no,.no,.sh (.at A.length),.no,.no]) (A++[.D5 x]):=λA=>by
  unfold E1 XD;simp only[hx,cC]
  rfl
 have t1:aY 5 (A++[Ao.D5 x]) (.at A.length)=.zG x:=by simp only[aY,lR]
 have b:Gd (.zG x) .cx=.ok (.bl false):=rfl;simp only[ev,cW,gu,gR,cf,cg,q,tz,t1,b,hw]
def Pb(q:fq [aY 5 A (.at 4),.tup ts]=.ok (.str w))(ht:qB [.at 0,.tup ts] A=.ok (.str w) A1)(hs:fm 5 [.str w,.str w]=.ok (.bl true)):jH [.at 0,.at 4,.tup ts] A=.ok (.bl true) A1:=by
 show cI (nh.1 [.sh (.at 0),.sh (.at 4),.sh (.tup ts),.no] A)=_;unfold nh;have b:Gd (.str w) .cx=.ok (.bl false):=rfl;simp only[ev,cW,gu,gR,cf,cg,q,b,ht,hs]
def Pc(q:fq [aY 5 A (.at 4),.tup ts]=.ok .cx)(hd:nc [.at 4,.tup ts] A=.ok .cx A1)(ht:qB [.at 0,.tup ts] A1=.ok .cx A2):jH [.at 0,.at 4,.tup ts] A=.ok (.bl true) A2:=by
 show cI (nh.1 [.sh (.at 0),.sh (.at 4),.sh (.tup ts),.no] A)=_;unfold nh;have b:Gd .cx .cx=.ok (.bl true):=rfl;have hs:fm 5 [.cx,.cx]=.ok (.bl true):=rfl;simp only[ev,cW,gu,gR,cf,cg,q,b,hd,ht,hs]
end
theorem lkn{k:Nat}:∀{pins:List (Nat×Ao)},k∉pins.map (·.1)->pins.lookup k=none
 |[],_=>rfl
 |p::pins,h=>by
  rw[bL,bE,not_or]at h;rw[cK];have:(k==p.1)=false:=by simpa using h.1
  rw[this];exact lkn h.2
def jJ(A A':Ab)(S:List Nat):Prop:=∃pins,Ext A A' pins/\∀k∈pins.map (·.1),k∈S
section
variable {A' B:Ab}{S T:List Nat}{k:Nat}{o o':Ao}
theorem jJ.push:jJ A (A++[o]) S:=⟨[],Ext.push,λk h=>nomatch h⟩
theorem jJ.put (h:A[k]?=some o')(m:k∈S):jJ A (A.set k o) S:=⟨_,Ext.put h,λq b=>by cases de.mp b;exact m⟩
def jJ.of {pins:List (Nat×Ao)}(x:Ext A A' pins)(h:∀k∈pins.map (·.1),k∈S):jJ A A' S:=⟨pins,x,h⟩
theorem jJ.trans (a:jJ A A' S)(b:jJ A' B S):jJ A B S:=by
 obtain⟨pins,x,p⟩:=a;obtain⟨V,y,q⟩:=b;refine⟨_,x.trans y,λk g=>?_⟩;rw[ke]at g;rcases dI.mp g with h|h
 ·exact q k h
 ·exact p k h
def jJ.sub (a:jJ A A' S)(h:∀k∈S,k∈T):jJ A A' T:=by obtain⟨pins,x,p⟩:=a;exact⟨pins,x,λk b=>h k (p k b)⟩
theorem jJ.same (a:jJ A A' S)(h:A[k]?=some o)(n:k∉S):A'[k]?=some o:=by obtain⟨pins,x,p⟩:=a;exact x.same h (lkn λq=>n (p k q))
def bA.kp {i:Nat}{rk en ch bn iv:List (Key×Tr)}(h:bA A i rows rk en ch bn iv)(t:jJ A A' S)(q:∀k∈S,k<i\/i+6<k):bA A' i rows rk en ch bn iv:=by
 have n:∀k,i<=k->k<=i+6->k∉S:=λk g h2 b=>by have:=q k b;omega
 exact⟨t.same h.o (n _ (by omega) (by omega)),t.same h.lg (n _ (by omega) (by omega)),t.same h.rk (n _ (by omega) (by omega)),t.same h.en (n _ (by omega) (by omega)),t.same h.ch (n _ (by omega) (by omega)),t.same h.bn (n _ (by omega) (by omega)),t.same h.iv (n _ (by omega) (by omega))⟩
def bQ.kp {j ks kb ka:Nat}{cA asked:List Str}{d v p:Str}(h:bQ A j ks kb ka rows bq stays cA asked d v p)(t:jJ A A' S)(q:∀k∈[j,j+1,j+2,ks,kb,ka],k∉S):bQ A' j ks kb ka rows bq stays cA asked d v p:=by
 obtain⟨pins,x,p⟩:=t;exact h.ext x λk b=>lkn λg=>q k b (p k g)
def cw.kp (h:cw A bg a9)(t:jJ A A' S)(q:∀k∈S,6<k):cw A' bg a9:=by
 have n:∀k,k<=6->k∉S:=λk g b=>by have:=q k b;omega
 exact⟨t.same h.o (n _ (by decide)),t.same h.ps (n _ (by decide)),t.same h.pl (n _ (by decide))⟩
def fN.kp (h:fN A bw c8)(t:jJ A A' S)(q:∀k∈S,6<k):fN A' bw c8:=by
 have n:∀k,k<=6->k∉S:=λk g b=>by have:=q k b;omega
 exact⟨t.same h.o (n _ (by decide)),t.same h.pe (n _ (by decide)),t.same h.rs (n _ (by decide))⟩
end
noncomputable abbrev iS(i:Nat):List Nat:=[i+1,i+2,i+3,i+4,i+5,i+6]
theorem sn{a b:String}(h:(a==b)=false):(Str.ofString a==Str.ofString b)=false:=by
 have:a≠b:=by simpa using h
 refine jh.mpr λe=>this ?_
 rw[Str.ofString_eq_toList,Str.ofString_eq_toList]at e;injection e with e
 have m:∀{l r:List Char},l.map Char.toNat=r.map Char.toNat->l=r:=λ{l}=>by
  induction l with
  |nil=>intro r h;cases r with
   |nil=>rfl
   |cons=>cases h
  |cons x l g=>intro r h;cases r with
   |nil=>cases h
   |cons y r=>
    injection h with h1 h2
    rw[g h2,Char.toNat_inj.mp h1]
 exact String.toList_inj.mp (m (Array.toList_inj.mpr e:(List.map Char.toNat a.toList).toArray.toList=_))
def jN{acc:Str}(h:acc.length<=20000):∃w,Be acc=.ok (.str w):=⟨acc,aV (cB h (by decide))⟩
def jC{k:Str->Rs Tr}{acc z:Str}{n:Nat}(q:acc.length<=n)(hz:z.length<=1000)(hn:n<=10000)(h:∀a,a.length<=n+1000->∃w,k a=.ok (.str w)):∃w,mX (.ok (.str z)) k acc=.ok (.str w):=by
 have l:(acc++z).length<=n+1000:=by rw[oO];omega
 obtain⟨w,e⟩:=h _ l;refine⟨w,?_⟩;show(if(acc++z).length<=cY then k (acc++z)else .bad)=_;rw[aV (cB l (by show n+1000<=1000000;omega)),e]
def fW:List (Bool×Str×Str)->Tr
 |[]=>.cx
 |(b,_,w)::cs=>if b then .str w else fW cs
noncomputable def fX(A:Ab)(X:Rz Tr):List (Bool×Str×Str)->Rz Tr
 |[]=>X
 |(b,x,_)::cs=>if b then .exc (.str x) A else fX A X cs
theorem Uc{X:Rz Tr}:∀{cs:List (Bool×Str×Str)},(∀c∈cs,c.1=false)->fX A X cs=X
 |[],_=>rfl
 |c::cs,h=>by
  obtain⟨b,x,w⟩:=c;have:b=false:=h _ (cz ..);subst this;exact Uc (cs:=cs) λc g=>h c (ck _ g)
def Jl{b:Bool}{X:Rz Tr}{q:Rz Tr}(h1:b=true->q=.exc (.str aZ) A)(h2:b=false->q=fX A X cs):q=fX A X ((b,aZ,aO)::cs):=by
 cases b with
 |true=>exact h1 rfl
 |false=>exact h2 rfl
def ZJ{b:Bool}{q:Rs Tr}(h1:b=true->q=.ok (.str aO))(h2:b=false->q=.ok (fW cs)):q=.ok (fW ((b,aZ,aO)::cs)):=by
 cases b with
 |true=>exact h1 rfl
 |false=>exact h2 rfl
def Yw{k:Nat}{t:Tr}(h:rows[k]?=some t):jX (.tup rows) (.int k)=.ok t:=by
 show kS (L2.uV rows k)=_;rw[AJ h];rfl
def IZ:(∀a l,jX (.tup (a::l)) (.int 0)=.ok a)/\(∀a b l,jX (.tup (a::b::l)) (.int 1)=.ok b)/\(∀a b c l,jX (.tup (a::b::c::l)) (.int 2)=.ok c)/\(∀a b c d l,jX (.tup (a::b::c::d::l)) (.int 3)=.ok d)/\(∀a b c d e l,jX (.tup (a::b::c::d::e::l)) (.int 4)=.ok e):=
 ⟨λ_ _=>Yw (k:=0) rfl,λ_ _ _=>Yw (k:=1) rfl,λ_ _ _ _=>Yw (k:=2) rfl,λ_ _ _ _ _=>Yw (k:=3) rfl,λ_ _ _ _ _ _=>Yw (k:=4) rfl⟩
def Yx:(∀i j:Int,ltC (.int i) (.int j)=.ok (.bl (decide (i<j))))/\(∀i j:Int,leC (.int i) (.int j)=.ok (.bl (decide (i<=j))))/\(∀i j:Int,geC (.int i) (.int j)=.ok (.bl (decide (j<=i))))/\(∀i j:Int,K' [.int i,.int j]=.ok (.int (if j>i then j else i))):=by
 refine⟨?_,?_,?_,?_⟩<;>intros<;>rfl
def zt(aT:List (Str×Str))(z:Str):Int:=match aT.lookup z with
 |some r=>lvl r
 |none=>-1
def Mm(r:Str):0<=lvl r/\lvl r<=3:=by
 unfold lvl;split
 ·decide
 split
 ·decide
 split<;>decide
def Ud{r:Str}(h:r∈gK):(r==("owner":Str))=decide (lvl r=3)/\(r==("keeper":Str))=decide (lvl r=2):=by
 have:r="guest"\/r="speaker"\/r="keeper"\/r="owner":=by simpa using h
 rcases this with rfl|rfl|rfl|rfl<;>decide+kernel
def Mn:decide (zt aT aZ<0)=(aT.lookup aZ).isNone:=by
 unfold zt;cases aT.lookup aZ with
 |none=>rfl
 |some r=>exact fu (by have:=Mm r;show¬lvl r<0;omega)
abbrev RA(A:Ab)(i:Nat)(rows:List Tr)(aT:List (Str×Str))(ents:List (Str×Int))(oh:List (Str×Str))(bn iv:List Str):Prop:=bA A i rows (dP .str aT) (dP .int ents) (dP .str oh) (nS bn) (nS iv)
section
variable {oh:List (Str×Str)}{iv:List Str}{ent:Str->Int}{r cX val:Str}{X:Rz Tr}{Y:bT}
def lz(tu:ij rows):d8 rows (dP .str aT) (dP .int ents) (dP .str oh) (nS aP) (nS iv):=⟨tu,U4,flI,U4,wo,wo⟩
def dr.lk (k:dr aT ents ent)(h:aT.lookup aZ=some r):r∈gK:=k.rl _ (i_ h)
theorem bdX{A1:Ab}:∀{cs:List (Bool×Str×Str)},cI (pV (fX A (.ok .cx A1) cs) Y)=fX A (.ok .cx A1) cs
 |[]=>rfl
 |(true,_,_)::cs=>rfl
 |(false,_,_)::cs=>bdX (cs:=cs)
def yX(h:RA A aN rows aT ents oh aP iv)(tu:ij rows)(hw:aZ.length<=1000):lr [.at aN,.str aZ] A=if(aT.lookup aZ).isNone then .exc (.str "NotIn") A else .ok .cx A:=by
 have n:=yT h (lz tu) hw;rw[eI]at n;rw[n];cases aT.lookup aZ<;>rfl
end
section
variable {A1:Ab}{j t ks kb ka:Nat}{oh:List (Str×Str)}{iv asked:List Str}{ent:Str->Int}{cX val c6 d v p:Str}
theorem abm(h:RA A aN rows aT ents oh aP iv)(tu:ij rows)(k:dr aT ents ent)(hw:aZ.length<=1000)(q:(aT.lookup aZ).isNone=false):lx [.at aN,.str aZ] A=if decide (zt aT aZ<2)then .exc (.str "NoRight") A else .ok .cx A:=by
 obtain⟨r,b⟩:∃r,aT.lookup aZ=some r:=by cases e:aT.lookup aZ with
  |none=>rw[e]at q;cases q
  |some r=>exact⟨r,rfl⟩
 show cI (fD.1 [.sh (.at aN),.sh (.str aZ)] A)=_;unfold fD;obtain⟨w,s⟩:=jC (z:=aZ) (acc:=Str.empty) (n:=0) (k:=λacc=>mX (.ok (.str " is no keeper or owner")) (λacc=>Be acc) acc) (bz 0) hw (by decide) λa g=>jC g (by decide+kernel) (by decide) λa g=>jN (by omega);have l2:wt [.str "keeper"]=.ok (.int 2):=og (by decide+kernel);simp only[ev,cW,gu,gR,h.sA (lz tu),dS,b,di,kS,og (k.lk b),l2,Yx];rw[show zt aT aZ=lvl r by unfold zt;rw[b]];cases decide (lvl r<2)with
 |true=>simp only[ev,cW,gu,s,cC]
 |false=>rfl
end
section
variable {i:Nat}{oh:List (Str×Str)}{iv:List Str}{ent:Str->Int}{d4 val:Str}
def As{z:Str}(q:(aT.lookup z).isNone=false):∃r,aT.lookup z=some r:=by
 cases e:aT.lookup z with
 |none=>rw[e]at q;cases q
 |some r=>exact⟨r,rfl⟩
def yY{r:Str}(h:aT.lookup aZ=some r):zt aT aZ=lvl r:=by unfold zt;rw[h]
def D3{b:Str}:(∀A,r_ (.ok (.tup [.str aO])) A=.ok (.tup [.str aO]) A)/\(∀A,r_ (.ok (.tup [.str aO,.str b])) A=.ok (.tup [.str aO,.str b]) A):=⟨λ_=>rfl,λ_=>rfl⟩
abbrev Pd(rows:List Tr)(aZ c7:Str)(ps:List Tr):Ao:=.lst (rows++[iT rows aZ c7 ps])
end
section
variable {A1:Ab}{c6 cX val:Str}{oh:List (Str×Str)}{iv:List Str}
def Pe(h:cw A bg a9)(hw:aZ.length<=1000)(q:aO.length<=1000):h_ [.at 0,.tup [.str aZ,.str aO]] A=if((bg.lookup aZ).isSome&&(bg.lookup aO).isSome)=true then .ok .cx A else .exc (.str "NoPerson") A:=by
 show cI (dF.1 [.sh (.at 0),.sh (.tup [.str aZ,.str aO]),.no] A)=_;unfold dF;have s:=Ff (z:="nobody is called ") (y:=aZ) (by decide+kernel) hw;have s':=Ff (z:="nobody is called ") (y:=aO) (by decide+kernel) q;simp only[ev,cW,gu,gR,GY,cf,cg,h.OP,eI,j8];cases(bg.lookup aZ).isSome with
 |false=>simp only[eL,ev,cW,gu,gR,s,xf,cR,cq]
 |true=>
  simp only[dA,ev,cW,gu,gR,cf,cg,h.OP,eI,j8,pw];cases(bg.lookup aO).isSome with
  |true=>simp only[dA,ev,cW,cC]
  |false=>simp only[eL,ev,cW,gu,gR,s',cR,cq]
def DZ(h:cw A bg a9)(hw:aZ.length<=1000)(q:aO.length<=1000)(hj:a9.lookup c6=some aN):je [.at 0,.tup [.str aZ,.str aO],.str c6] A=if((bg.lookup aZ).isSome&&(bg.lookup aO).isSome)=true then .ok (.at aN) A else .exc (.str "NoPerson") A:=by
 show cI (ee.1 [.sh (.at 0),.sh (.tup [.str aZ,.str aO]),.sh (.str c6)] A)=_;unfold ee;simp only[ev,cW,gu,gR,h.call (m:="need_people") rfl,Pe h hw q];cases((bg.lookup aZ).isSome&&(bg.lookup aO).isSome)with
 |true=>simp only[cC,ev,cW,gu,gR,h.call (m:="place") rfl,G8 h hj]
 |false=>simp only[cR,cq,ev]
end
section
variable {ks kb ka n:Nat}{ent:Str->Int}{asked:List Str}{v p d4 c6 x3 cX val:Str}
def G_{T:Tr}(q:jX T (.str "roles")=.ok (.bW (dP .str bq)))(k:dr bq ents ent):yP [T,.str aZ]=.ok (.int (zt bq aZ)):=by
 cases b:bq.lookup aZ with
 |some r=>rw[yY b];exact Fw q b (k.lk b)
 |none=>
  show dH (m_.1 [.sh T,.sh (.str aZ)])=_;unfold m_;simp only[ev,cW,q,eI,b,pd,oW,show zt bq aZ=-1 by unfold zt;rw[b]]
theorem Mo{c7:Str}{c9:List Tr}{wh:Bool}(m:fN A bw c8)(h:bQ A aN ks kb ka rows bq stays aP asked aO v p)(hj:c8.lookup c6=some aN)
  (hw:c7="arrange"/\wh=false\/(c7="ask"\/c7="role"\/c7="out"\/c7="bar"\/c7="unbar")/\wh=true)
  (hd:gB [aY 3 A (.at aN),.tup (.str c7:: .str aZ:: .str c6:: .str x3::c9)]=.ok (fW cs)):
  fq [aY 5 A (.at 4),.tup (.str c7:: .str aZ:: .str c6:: .str x3::c9)]=.ok (fW ((!(bw.contains aZ&&(!wh||bw.contains x3)),"NoPerson","no person")::((bq.lookup aZ).isNone,"NotIn","not in")::cs)):=by
 show dH (ip.1 [.sh (aY 5 A (.at 4)),.sh (.tup (.str c7:: .str aZ:: .str c6:: .str x3::c9)),.no,.no,.no])=_;unfold ip;have r:D4 (.str c7) (.tup [.str "ask",.str "role",.str "out",.str "bar",.str "unbar"])=.ok (.bl wh):=by rcases hw with⟨rfl,rfl⟩|⟨rfl|rfl|rfl|rfl|rfl,rfl⟩<;>rfl
 have g:D4 (.str c7) (.tup [.str "say",.str "mend",.str "take_back"])=.ok (.bl false):=by rcases hw with⟨rfl,_⟩|⟨rfl|rfl|rfl|rfl|rfl,_⟩<;>rfl
 have b:(c7==Str.ofString "come")=false/\(c7==Str.ofString "found")=false/\(c7==Str.ofString "enter")=false/\(c7==Str.ofString "leave")=false:=by rcases hw with⟨rfl,_⟩|⟨rfl|rfl|rfl|rfl|rfl,_⟩<;>decide+kernel
 have l1:∀a,zb (.ok [a])=.ok (.lst [a]):=λ_=>rfl;have t3:aY 3 A (.at aN)=.bW (dP (aY 2 A) (zl aN ks kb ka aO v p)):=g8 h.o;simp only[ev,cW,IZ,cf,cg,b,l1,GY];rw[lS (Bu:=[.sh (.tup (.str c7:: .str aZ:: .str c6:: .str x3::c9)),.sh (.str c7)]) (λ_:Unit=>wh) (λ_=>.int 3) (λ_=>.str x3) (xs:=[()]) (by rfl) (by decide) rfl (λ_ _=>by simp only[ev,cW,r]) (λ_ _ e=>by simp only[ev,cW,IZ])];have a1:xQ (.lst [.str aZ]) (.lst (([()].filter λ_=>wh).map λ_=>.str x3))=.ok (.lst ((aZ::if wh then[x3]else[]).map .str)):=by cases wh<;>rfl
 simp only[a1,ev,cW,GY,cf,cg];have I:(aZ::if wh then[x3]else[]).length<=eM:=by
  cases wh
  ·show 1<=eM;decide
  ·show 2<=eM;decide
 rw[qW (ns:=aZ::if wh then[x3]else[]) (Bu:=[.sh (aY 5 A (.at 4))]) (λz=>!bw.contains z) (by rfl) I rfl (λ_=>rfl) ?hC]
 case hC=>intro z _;simp only[ev,cW,m.T8 (n:=3),yA]
 have L:pM (.lst ((List.filter (λz=>!bw.contains z) (aZ::if wh then[x3]else[])).map .str))=.ok (!(bw.contains aZ&&(!wh||bw.contains x3))):=by
  cases wh<;>simp only[o5,w_,cC,cR,cq]<;>cases bw.contains aZ<;>first|rfl|(cases bw.contains x3<;>rfl)
 simp only[ev,cW,L];refine ZJ (λq=>by simp only[q,ev]) λq=>?_
 simp only[q,ev,cW,IZ,m.LP (n:=3),Dy,hj,di,o6,cf,cg,b];rw[show Gd (aY 3 A (.at aN)) .cx=.ok (.bl false) by rw[t3];rfl];simp only[ev,cW,IZ,b,g,h.Bw (n:=1),eI,j8];have l:(bq.lookup aZ).isSome=!(bq.lookup aZ).isNone:=by cases bq.lookup aZ<;>rfl
 refine ZJ (λq=>by simp only[l,q,dA,eL,ev]) λq=>by simp only[l,q,dA,eL,ev,cW,b,g,hd]
end
section
variable {A':Ab}{ks kb ka n:Nat}{l':List Str}{v p d' v' p' c6 cX val:Str}
noncomputable abbrev Mp:List (Key×Tr):=[(.inr "arrange",.str "set"),(.inr "take_back",.str "gone")]
def nm1:(∀a b,zb (.ok [a,b])=.ok (.lst [a,b]))/\E9 [.lst [.tup [.str "arrange",.str "set"],.tup [.str "take_back",.str "gone"]]]=.ok (.bW Mp)/\(∀A,uZ (.ok (.bW Mp)) A=.ok (.at A.length) (A++[.bW Mp])):=⟨λ_ _=>rfl,rfl,λ_=>rfl⟩
def nm2:aY 5 (A++[.bW Mp]) (.at A.length)=.bW Mp:=by rw[fZ lR];rfl
def gt2{a b:Tr}{Y:bT}{c e:Cell}:Km (gT [2,3]) (.ok (.tup [a,b]) A) (c::e:: .no:: .no::Y)=.ok (.nx (c::e:: .sh a:: .sh b::Y)) A:=rfl
noncomputable abbrev D7(aO v p:Str):List (Str×Str):=[("door",aO),("voice",v),("past",p)]
abbrev jS(aN ks kb ka:Nat):List Nat:=[aN,aN+1,aN+2,ks,kb,ka]
end
structure Dat where
 rows:List Tr
 aT:List (Str×Str)
 ents:List (Str×Int)
 ent:Str->Int
 stays:List nQ
 cA:List Str
 inv:List Str
 asked:List Str
 d:Str
 v:Str
 p:Str
 ks:Nat
 kb:Nat
 ka:Nat
noncomputable abbrev six:List Str:=["ann","bo","cy","dee","ed","zed"]
def iq{z:Str}(h:z∈six):z.length<=1000:=(by decide+kernel:∀z∈six,z.length<=1000) z h
def jf(rows:List Tr):Prop:=∀t∈rows,∃us,t=.tup us/\us.all xV=true/\us.length<=10
section
variable {cJ us:List Tr}{ent:Str->Int}{inv asked:List Str}{t:Nat}
def jf.tu (h:jf rows):ij rows:=λt b=>by obtain⟨us,e,_⟩:=h t b;exact⟨us,e⟩
def jf.add (h:jf rows)(q:us.all xV=true)(hl:us.length<=10):jf (rows++[.tup us]):=λt b=>by
 rcases dI.mp b with b|b
 ·exact h t b
 ·exact⟨us,de.mp b,q,hl⟩
def dU{n:Nat}(h:n<10000):n<eM:=c_ h (by decide)
def wz{α:Type}{l:List (Str×α)}{z:Str}{a:α}:(e_ l z a).length<=l.length+1:=by
 unfold e_;split
 ·rw[bt];omega
 ·rw[eO];exact bz _
def gU.names (o:gU rows aT cJ bq):bq.map (·.1)=aT.map (·.1):=by
 cases o with
 |same _=>rfl
 |zr z g _ _=>
  obtain⟨a,r,e,_⟩:=g.ex;exact yV (cE.mpr ⟨_,dZ e,rfl⟩)
theorem gU.len (o:gU rows aT cJ bq):rows.length<=cJ.length/\cJ.length<=rows.length+1/\bq.length=aT.length:=by
 have hn:bq.length=aT.length:=by have:=cT List.length o.names;simpa using this
 cases o with
 |same _=>omega
 |zr z g _ _=>rw[eO];exact⟨by omega,bz _,hn⟩
theorem gU.jf (o:gU rows aT cJ bq)(h:jf rows):jf cJ:=by
 cases o with
 |same _=>exact h
 |zr z g _ _=>exact h.add rfl (by show 5<=10;decide)
def gU.ow (o:gU rows aT cJ bq):bq=[]\/∃p∈bq,p.2="owner":=by
 cases o with
 |same h=>exact h
 |zr z g _ _=>exact .inr ⟨(z,"owner"),i_ (by rw[yU,aV rfl]),rfl⟩
def yZ(o:gU rows aT cJ bq)(h:∀p∈aT,ent p.1<rows.length+1):∀p∈bq,ent p.1<cJ.length+1:=λp hp=>by
 have:p.1∈aT.map (·.1):=by rw[<-o.names];exact gf hp
 obtain⟨q,b,e⟩:=cE.mp this;have g:=h q b;have h2:=o.len.1;rw[<-e];omega
structure Good(rows:List Tr)(aT:List (Str×Str))(ents:List (Str×Int))(ent:Str->Int)(stays:List nQ)(bw inv asked:List Str):Prop where
 fr:jf rows
 rk:dr aT ents ent
 op:oE stays=aT.map (·.1)
 lt:∀p∈aT,ent p.1<rows.length+1
 ow:aT=[]\/∃p∈aT,p.2="owner"
 ia:∀z,inv.contains z=asked.contains z
 ns:∀z∈aT.map (·.1),z∈six
 bs:∀z∈bw,z∈six
 is:∀z∈inv,z∈six
 nd:inv.Nodup
theorem Good.row (g:Good rows aT ents ent stays bw inv asked)(q:us.all xV=true)(hl:us.length<=10):Good (rows++[.tup us]) aT ents ent stays bw inv asked:=
 ⟨g.fr.add q hl,g.rk,g.op,λp hp=>by have:=g.lt p hp;rw[eO];show ent p.1<((rows.length+1:Nat):Int)+1;omega,g.ow,g.ia,g.ns,g.bs,g.is,g.nd⟩
abbrev Qx(D:Dat):Prop:=Good D.rows D.aT D.ents D.ent D.stays D.cA D.inv D.asked
structure Bd(D:Dat)(t:Nat):Prop where
 b1:D.rows.length<=3+2*t
 b2:D.aT.length<=3+t
 b3:D.ents.length<=3+t
 b4:D.stays.length<=3+t
 b5:D.asked.length<=t
 b6:D.cA.length<=t
 b7:D.inv.length<=t
end
structure Pr(A:Ab)(i j:Nat)(D:Dat)(t:Nat):Prop where
 r:RA A i D.rows D.aT D.ents (D7 D.d D.v D.p) D.cA D.inv
 m:bQ A j D.ks D.kb D.ka D.rows D.aT D.stays D.cA D.asked D.d D.v D.p
 g:Qx D
 b:Bd D t
 dj:∀k∈jS j D.ks D.kb D.ka,6<k/\(k<i\/i+6<k)
 hi:6<i
def Kept(A:Ab)(D D':Dat):Prop:=∀k∈[D'.ks,D'.kb,D'.ka],k∈[D.ks,D.kb,D.ka]\/A.length<=k
abbrev touched(i j:Nat)(D:Dat):List Nat:=iS i++jS j D.ks D.kb D.ka
def Res(A:Ab)(i j:Nat)(D:Dat)(t:Nat)(ts:List Tr):Prop:=∃A' D',jH [.at 0,.at 4,.tup ts] A=.ok (.bl true) A'/\jJ A A' (touched i j D)/\Pr A' i j D' (t+1)/\Kept A D D'
noncomputable abbrev Yy:List (Str×Str):=[("Known","known"),("NoPerson","no person"),("NotIn","not in"),("NotAsked","not asked"),("Barred","barred"),("NoRight","no right")]
section
variable {A' A2:Ab}{j t:Nat}{D D':Dat}{c6 x w:Str}{ts:List Tr}{X:Rz Tr}
def Ue(h:(x,w)∈Yy):(["Known","NoPerson","NoRoom","NotIn","NotAsked","Barred","NoRight","NoRow","NoHand","NoLine"]:List Str).contains x=true/\yQ [.zG x]=.ok (.str w)/\fm 5 [.str w,.str w]=.ok (.bl true):=by
 simp only[bE,cN,cO,Prod.mk.injEq]at h;rcases h with⟨rfl,rfl⟩|⟨rfl,rfl⟩|⟨rfl,rfl⟩|⟨rfl,rfl⟩|⟨rfl,rfl⟩|⟨rfl,rfl⟩<;>exact⟨by decide+kernel,rfl,rfl⟩
def Bd.more (b:Bd D t):Bd D (t+1):=by obtain⟨g,h2,l,n,r,I,L⟩:=b;exact⟨by omega,by omega,by omega,by omega,by omega,by omega,by omega⟩
theorem Pr.kp {S:List Nat}(P:Pr A aN j D t)(e:jJ A A' S)(q:∀k∈S,(k<aN\/aN+6<k)/\k∉jS j D.ks D.kb D.ka):Pr A' aN j D (t+1):=
 ⟨bA.kp P.r e λk l=>(q k l).1,bQ.kp P.m e λk l h=>(q k h).2 l,P.g,P.b.more,P.dj,P.hi⟩
theorem s_same(P:Pr A aN j D t)(h:jH [.at 0,.at 4,.tup ts] A=.ok (.bl true) (A++[.D5 x])):Res A aN j D t ts:=
 ⟨_,D,h,jJ.push,P.kp (jJ.push (S:=[])) λ_ h=>(nomatch h),λ_ h=>.inl h⟩
theorem OO:∀{cs:List (Bool×Str×Str)},(∀c∈cs,c.1=false)\/∃c∈cs,fW cs=.str c.2.2/\fX A X cs=.exc (.str c.2.1) A
 |[]=>.inl λc h=>nomatch h
 |(true,x,w)::cs=>.inr ⟨_,cz ..,rfl,rfl⟩
 |(false,x,w)::cs=>by
  rcases OO (cs:=cs)with h|⟨c,h,h2⟩
  ·exact .inl λc b=>by
    rcases bE.mp b with rfl|b
    ·rfl
    ·exact h c b
  ·exact .inr ⟨c,ck _ h,h2⟩
theorem Yz:∀{cs:List (Bool×Str×Str)},(∀c∈cs,c.1=false)->fW cs=.cx
 |[],_=>rfl
 |(b,x,w)::cs,h=>by
  have:b=false:=h _ (cz ..);subst this;exact Yz (cs:=cs) λc g=>h c (ck _ g)
def wA(P:Pr A aN j D t)(q:fq [aY 5 A (.at 4),.tup ts]=.ok (fW cs))(hc:f' [.at 0,.tup ts] A=fX A X cs)(he:∀c∈cs,c.2∈Yy)(dn:(∀c∈cs,c.1=false)->fq [aY 5 A (.at 4),.tup ts]=.ok .cx->Res A aN j D t ts):Res A aN j D t ts:=by
 rcases OO (A:=A) (X:=X) (cs:=cs)with h|⟨c,h,h1,h2⟩
 ·exact dn h (by rw[q,Yz h])
 ·obtain⟨b,g,l⟩:=Ue (he c h);rw[h1]at q;rw[h2]at hc;exact s_same P (Pb q (Pa hc b g) l)
def Pr.abn (P:Pr A aN j D t)(kp:Kept A D D'):∀k∈jS j D'.ks D'.kb D'.ka,6<k/\(k<aN\/aN+6<k):=λk b=>by
 have l:=iI P.r.iv;have g:=P.hi;have q:∀k,k∈[D'.ks,D'.kb,D'.ka]->6<k/\(k<aN\/aN+6<k):=λk b=>by
  rcases kp k b with h|h
  ·exact P.dj k (ck _ (ck _ (ck _ h)))
  ·omega
 rcases bE.mp b with rfl|b
 ·exact P.dj _ (by simp)
 rcases bE.mp b with rfl|b
 ·exact P.dj _ (by simp)
 rcases bE.mp b with rfl|b
 ·exact P.dj _ (by simp)
 exact q k b
def wB(P:Pr A aN j D t)(hH:cw A bg a9)(hr:fq [aY 5 A (.at 4),.tup ts]=.ok .cx)(hd:nc [.at 4,.tup ts] A=.ok .cx A2)(t1:jJ A A2 (jS j D.ks D.kb D.ka))
  (m2:bQ A2 j D'.ks D'.kb D'.ka D'.rows D'.aT D'.stays D'.cA D'.asked D'.d D'.v D'.p) (kp:Kept A D D')
  (pr:cw A2 bg a9->RA A2 aN D.rows D.aT D.ents (D7 D.d D.v D.p) D.cA D.inv->∃q,f' [.at 0,.tup ts] A2=.ok .cx q/\jJ A2 q (iS aN)/\RA q aN D'.rows D'.aT D'.ents (D7 D'.d D'.v D'.p) D'.cA D'.inv)
  (g:Qx D') (b:Bd D' (t+1)):Res A aN j D t ts:=by
 obtain⟨q,L,n,M⟩:=pr (cw.kp hH t1 λk l=>(P.dj k l).1) (bA.kp P.r t1 λk l=>(P.dj k l).2);have I:=P.abn kp;refine⟨q,D',Pc hr hd (Ub L),(t1.sub λk l=>dI.mpr (.inr l)).trans (n.sub λk l=>dI.mpr (.inl l)),⟨M,bQ.kp m2 n λk l h=>?_,g,b,I,P.hi⟩,kp⟩;have:=I k l;simp only[bE,cN,cO]at h;omega
end
section
variable {A1 A2:Ab}{j t:Nat}{D D':Dat}{d4 cX val c7:Str}{c9:List Tr}
theorem Mq(hw:c7="arrange"\/c7="ask"\/c7="role"\/c7="out"\/c7="bar"\/c7="unbar")(m:fN A bw c8)(q:c8.lookup aO=some j)(q1:lX [.at j,.tup (.str c7:: .str aZ:: .str aO::c9)] A=.ok .cx A1)(q2:kD [.at j] A1=.ok .cx A2)
  (sl:vU (.ok (.tup (.str c7:: .str aZ:: .str aO::c9))) (.ok none) (Ji (.ok (.int 2)))=.ok (.tup [.str c7,.str aZ])):nc [.at 4,.tup (.str c7:: .str aZ:: .str aO::c9)] A=.ok .cx A2:=by
 show cI (jG.1 [.sh (.at 4),.sh (.tup (.str c7:: .str aZ:: .str aO::c9)),.no,.no,.no] A)=_;unfold jG;have b:(c7==Str.ofString "come")=false/\(c7==Str.ofString "found")=false/\(c7==Str.ofString "say")=false/\(c7==Str.ofString "enter")=false/\(c7==Str.ofString "leave")=false:=by rcases hw with rfl|rfl|rfl|rfl|rfl|rfl<;>decide+kernel
 simp only[ev,cW,gu,gR,IZ,sl,D3,gt2,b,kj,m.T9,wm m.rs,dS,q,di,kS,cf,cg,q1,q2]
def Pf{kb ka:Nat}{ent:Str->Int}{p:Str}(h:bQ A j aN kb ka rows bq stays bw aP aZ aO p)(f:ij rows)(k:dr bq ents ent)(ho:oE stays=bq.map (·.1))(ow:bq=[]\/∃p∈bq,p.2="owner")(hl:rows.length<eM)(hs:stays.length<=eM)(hr:bq.length<eM):
  ∃A',kD [.at j] A=.ok .cx A'/\(∀aN kb ka,jJ A A' (jS j aN kb ka))/\bQ A' j aN kb ka rows bq stays bw aP aZ aO p:=by
 obtain⟨A',cJ,k_,q,o,x,m⟩:=uN h f k ho hl hs hr;obtain⟨rfl,rfl⟩:=o.one (.same ow);exact⟨A',q,λ_ _ _=>jJ.of x (by simp),m⟩
def Kept.refl:Kept A D D:=λ_ h=>.inl h
abbrev Dr(D:Dat)(aZ c7:Str)(ps:List Tr):Dat:={D with rows:=D.rows++[iT D.rows aZ c7 ps]}
def uO{α:Type}{l:List α}{a:α}:(l++[a]).length=l.length+1:=by rw[eO];rfl
theorem Au{n:Int}:∀{stays:List nQ},oE (stays.map (jI aZ n))=(oE stays).filter λz=>!(z==aZ)
 |[]=>rfl
 |s::stays=>by
  obtain⟨a,b,c,e⟩:=s;have g:=Au (n:=n) (stays:=stays);unfold oE at g⊢;rw[bL];cases e with
  |some m=>
   have:jI aZ n (a,b,c,some m)=(a,b,c,some m):=by simp[jI]
   rw[this,j6 (by simp),j6 (by simp)];exact g
  |none=>
   rw[lF (a:=(a,b,c,none)) (by rfl),bL];by_cases q:a=aZ
   ·subst q;have:jI a n (a,b,c,none)=(a,b,c,some n):=by simp[jI]
    rw[this,j6 (by simp),j6 (by simp)];exact g
   ·have:jI aZ n (a,b,c,none)=(a,b,c,none):=by simp[jI,q]
    rw[this,lF (by rfl),bL,lF (by simpa using q),g]
def y0:(kY aT aZ).map (·.1)=(aT.map (·.1)).filter λz=>!(z==aZ):=by
 unfold kY;rw[pb];congr 1;refine sT λq _=>?_
 show decide (q.1≠aZ)=!(q.1==aZ);by_cases h:q.1=aZ<;>simp[h]
end
def contains_filter{l:List Str}{P:Str->Bool}{z:Str}:(l.filter P).contains z=(l.contains z&&P z):=by
 rw[sX,fb,gg,bU,fb]
section
variable {j t:Nat}{D:Dat}{c6:Str}
theorem Pg(P:Pr A aN j D t)(hH:cw A bg a9)(hM:fN A bw c8)(hi:a9.lookup c6=some aN)(hj:c8.lookup c6=some j)(hp:∀z,(bg.lookup z).isSome=bw.contains z)(h6:aZ∈six)(ht:t<=1000):Res A aN j D t [.str "enter",.str aZ,.str c6]:=by
 have tu:=P.g.fr.tu;have hs:=iq h6;have b1:=P.b.b1;have b2:=P.b.b2;have b3:=P.b.b3;have b4:=P.b.b4;have b5:=P.b.b5;have b6:=P.b.b6;have b7:=P.b.b7;have fl:d8 D.rows (dP .str D.aT) (dP .int D.ents) (dP .str (D7 D.d D.v D.p)) (nS D.cA) (nS D.inv):=lz tu;have hr:=G9 (aZ:=aZ) (c7:="enter") hM P.m hj (.inr (.inl rfl));have I:=λ{A:Ab} (hH:cw A bg a9) (r:RA A aN D.rows D.aT D.ents (D7 D.d D.v D.p) D.cA D.inv)=>(Mj (aZ:=aZ) (c6:=c6) hH).trans (Me hH hs hi (by rw[r.call (m:="enter") rfl];rfl));simp only[hp]at I;have s2:¬(Str.ofString "enter"=Str.ofString "found"):=by decide+kernel
 have vb:∀{b},D.cA.contains aZ=b->eZ (nS D.cA) (.inr aZ)=if b then some (.bl true)else none:=λe=>by rw[Fj,e]
 refine wA (cs:=[(!bw.contains aZ,"NoPerson","no person"),((D.aT.lookup aZ).isSome,"Known","known"),(D.cA.contains aZ,"Barred","barred"),(decide (D.d="asked")&&!D.asked.contains aZ,"NotAsked","not asked")]) (X:=f' [.at 0,.tup [.str "enter",.str aZ,.str c6]] A) P (hr.trans ?_) ?_ (by simp) λall OB=>?_
 ·simp only[s2,cq,cC];cases bw.contains aZ with
  |false=>rfl
  |true=>
   cases(D.aT.lookup aZ).isSome with
   |true=>rfl
   |false=>
    cases D.cA.contains aZ with
    |true=>rfl
    |false=>by_cases hd:D.d="asked"<;>cases D.asked.contains aZ<;>simp[fW,hd]
 ·refine Jl (λq=>by rw[I hH P.r,show bw.contains aZ=false by simpa using q];rfl) λq=>?_
  have I:=I hH P.r;rw[show bw.contains aZ=true by simpa using q,aV rfl]at I;refine Jl (λq=>?_) λq=>Jl (λq2=>?_) λq2=>Jl (λq3=>?_) λq3=>rfl
  ·obtain⟨r,L⟩:=sE.mp q;rw[I,Ma P.r fl hs L];rfl
  ·rw[I,Mb (r:=.bl true) P.r fl hs (by simpa using q) (vb q2)];rfl
  ·rw[bU,oZ]at q3;rw[I,Mc P.r fl hs (by simpa using q) (vb q2) (show some D.d=some _ by rw[eK q3.1]) (by rw[Fj,P.g.ia,q3.2];rfl)];rfl
 have a1:bw.contains aZ=true:=by simpa using all _ (cz ..)
 have L:D.aT.lookup aZ=none:=by simpa using all ((D.aT.lookup aZ).isSome,"Known","known") (by simp)
 have a3:=all (D.cA.contains aZ,"Barred","barred") (by simp);have a4:=all (decide (D.d="asked")&&!D.asked.contains aZ,"NotAsked","not asked") (by simp);obtain⟨A1,Yu,f1,q1,le1,x1,m1⟩:=Mg (aZ:=aZ) (c7:="enter") P.m tu (dU (by omega)) (dU (by omega)) (dU (by omega)) (dB (dU (by omega)));have Qy:=P.g.rk.enter (aZ:=aZ) (n:=D.rows.length+1) (r:="guest") L P.g.lt hs (by decide+kernel);have hnm:(e_ D.aT aZ "guest").map (·.1)=D.aT.map (·.1)++[aZ]:=by rw[uL L,ke];rfl
 have pl:=wz (l:=D.aT) (z:=aZ) (a:=("guest":Str));have YA:oE (D.stays++[(aZ,f1,(D.rows.length+1:Int),none)])=(e_ D.aT aZ "guest").map (·.1):=by
  unfold oE;rw[List.filter_append,ke,hnm,<-P.g.op];rfl
 obtain⟨A2,cJ,cQ,q2,M,x2,m2⟩:=uN m1 (m4 tu) Qy YA (by rw[uO];exact dU (by omega)) (by rw[uO];exact dB (dU (by omega))) (dU (by omega));have ol:=M.len;rw[uO]at ol;refine wB (D':=⟨cJ,cQ,e_ D.ents aZ (D.rows.length+1),λz=>if z=aZ then D.rows.length+1 else D.ent z,D.stays++[(aZ,f1,(D.rows.length+1:Int),none)],D.cA,D.inv.filter λz=>!(z==aZ),D.asked.filter λz=>!(z==aZ),D.d,D.v,D.p,D.ks,D.kb,Yu⟩) P hH OB (Mh hM hj q1 q2) ((jJ.of x1 (by simp)).trans (jJ.of x2 (by simp))) m2 (λk L=>?_) (λUg r2=>?_) ⟨M.jf (P.g.fr.add rfl (by show 3<=10;decide)),M.Fv Qy,YA.trans M.names.symm,yZ M λq S=>?_,M.ow,λz=>?_,λz hz=>?_,P.g.bs,λz hz=>P.g.is z (gg.mp hz).1,P.g.nd.sublist List.filter_sublist⟩ ⟨by show cJ.length<=_;omega,by show cQ.length<=_;omega,?_,by show(D.stays++[_]).length<=_;rw[uO];omega,by show(D.asked.filter _).length<=_;have:=oR (λz=>!(z==aZ)) D.asked;omega,by show D.cA.length<=_;omega,by show(D.inv.filter _).length<=_;have:=oR (λz=>!(z==aZ)) D.inv;omega⟩
 ·simp only[bE,cN,cO]at L⊢;omega
 ·obtain⟨A3,Qz,Mr,q3,o3,x3,r3⟩:=O7 (aZ:=aZ) (d:=D.d) r2 fl P.g.rk P.g.lt (dU (by omega)) (dU (by omega)) (dU (by omega)) hs L (vb a3) rfl (by
   by_cases h9:D.d="asked"
   ·right;rw[Fj,P.g.ia];rw[h9]at a4;rw[show D.asked.contains aZ=true by simpa using a4];rfl
   ·exact .inl h9)
  obtain⟨rfl,rfl⟩:=M.one o3;rw[OT]at r3;have I:=I Ug r2;rw[a1,aV rfl,q3]at I;exact⟨A3,I,jJ.of x3 (by simp),r3⟩
 ·rw[uL L]at S;show(if q.1=aZ then(D.rows.length+1:Int)else D.ent q.1)<((D.rows++[iT D.rows aZ "enter" []]).length:Int)+1;rw[uO];rcases dI.mp S with S|S
  ·rw[bb (lookup_none L q S)];have:=P.g.lt q S;omega
  ·cases de.mp S;rw[aV rfl];omega
 ·show(D.inv.filter λz=>!(z==aZ)).contains z=(D.asked.filter λz=>!(z==aZ)).contains z;rw[contains_filter,contains_filter,P.g.ia]
 ·have hz:z∈cQ.map (·.1):=hz;rw[M.names,hnm]at hz;rcases dI.mp hz with hz|hz
  ·exact P.g.ns z hz
  ·rw[de.mp hz];exact h6
 ·show(e_ D.ents aZ _).length<=_;have:=wz (l:=D.ents) (z:=aZ) (a:=(D.rows.length+1:Int));omega
theorem Ph(P:Pr A aN j D t)(hH:cw A bg a9)(hM:fN A bw c8)(hi:a9.lookup c6=some aN)(hj:c8.lookup c6=some j)(hp:∀z,(bg.lookup z).isSome=bw.contains z)(h6:aZ∈six)(ht:t<=1000):Res A aN j D t [.str "leave",.str aZ,.str c6]:=by
 have tu:=P.g.fr.tu;have hs:=iq h6;have b1:=P.b.b1;have b2:=P.b.b2;have b3:=P.b.b3;have b4:=P.b.b4;have b5:=P.b.b5;have b6:=P.b.b6;have b7:=P.b.b7;have fl:d8 D.rows (dP .str D.aT) (dP .int D.ents) (dP .str (D7 D.d D.v D.p)) (nS D.cA) (nS D.inv):=lz tu;have hr:=G9 (aZ:=aZ) (c7:="leave") hM P.m hj (.inr (.inr rfl));have I:=λ{A:Ab} (hH:cw A bg a9) (r:RA A aN D.rows D.aT D.ents (D7 D.d D.v D.p) D.cA D.inv)=>(Ml (aZ:=aZ) (c6:=c6) hH).trans (Mf hH hs hi (by rw[r.call (m:="leave") rfl];rfl));simp only[hp]at I;have s2:¬(Str.ofString "leave"=Str.ofString "found"):=by decide+kernel
 have s3:¬(Str.ofString "leave"=Str.ofString "enter"):=by decide+kernel
 refine wA (cs:=[(!bw.contains aZ,"NoPerson","no person"),(!(D.aT.lookup aZ).isSome,"NotIn","not in")]) (X:=f' [.at 0,.tup [.str "leave",.str aZ,.str c6]] A) P (hr.trans ?_) ?_ (by simp) λall OB=>?_
 ·simp only[s2,s3,cq];cases bw.contains aZ<;>cases(D.aT.lookup aZ).isSome<;>rfl
 ·refine Jl (λq=>by rw[I hH P.r,show bw.contains aZ=false by simpa using q];rfl) λq=>Jl (λL=>?_) λL=>rfl;rw[I hH P.r,show bw.contains aZ=true by simpa using q,aV rfl,Md P.r fl hs (by simpa using L)];rfl
 have a1:bw.contains aZ=true:=by simpa using all _ (cz ..)
 obtain⟨r,M⟩:∃r,D.aT.lookup aZ=some r:=sE.mp (by simpa using all (!(D.aT.lookup aZ).isSome,"NotIn","not in") (by simp));have q0:=yW (aZ:=aZ) (ps:=[.str "leave"]) P.m tu (dU (by omega)) (by show 2+1<=eM;decide) rfl;have x0:=Ext.put (o:=.lst (D.rows++[iT D.rows aZ "leave" []])) P.m.rw;have m0:=P.m.IK x0;obtain⟨A1,Yv,q1,le1,x1,m1⟩:=O_ (aZ:=aZ) (n:=D.rows.length+1) m0 (dB (dU (by omega))) M;have Qy:=P.g.rk.leave (aZ:=aZ);have dl:=oR (λp:Str×Str=>decide (p.1≠aZ)) D.aT;have YA:oE (D.stays.map (jI aZ (D.rows.length+1)))=(kY D.aT aZ).map (·.1):=by rw[Au,P.g.op,y0]
 obtain⟨A2,cJ,S,L,l,x2,m2⟩:=uN m1 (m4 tu) Qy YA (by rw[uO];exact dU (by omega)) (by rw[bt];exact dB (dU (by omega))) (dU (by show(D.aT.filter _).length<_;omega));have le0:=x0.le;have ol:=l.len;rw[uO]at ol;have ol3:S.length=(D.aT.filter λp=>decide (p.1≠aZ)).length:=ol.2.2;refine wB (D':=⟨cJ,S,D.ents,D.ent,D.stays.map (jI aZ (D.rows.length+1)),D.cA,D.inv,D.asked,D.d,D.v,D.p,Yv,D.kb,D.ka⟩) P hH OB (Mi hM hj q0 q1 L) (((jJ.of x0 (by simp)).trans (jJ.of x1 (by simp))).trans (jJ.of x2 (by simp))) m2 (λk M=>?_) (λUg r2=>?_) ⟨l.jf (P.g.fr.add rfl (by show 3<=10;decide)),l.Fv Qy,YA.trans l.names.symm,yZ l λq hq=>?_,l.ow,P.g.ia,λz hz=>?_,P.g.bs,P.g.is,P.g.nd⟩ ⟨by show cJ.length<=_;omega,by show S.length<=_;omega,by show D.ents.length<=_;omega,by show(D.stays.map _).length<=_;rw[bt];omega,by show D.asked.length<=_;omega,by show D.cA.length<=_;omega,by show D.inv.length<=_;omega⟩
 ·simp only[bE,cN,cO]at M⊢;omega
 ·obtain⟨A3,Qz,Mr,q3,o3,x3,r3⟩:=O8 (aZ:=aZ) r2 fl P.g.rk (dU (by omega)) (dU (by omega)) hs M;obtain⟨rfl,rfl⟩:=l.one o3;have I:=I Ug r2;rw[a1,aV rfl,q3]at I;exact⟨A3,I,jJ.of x3 (by simp),r3⟩
 ·have:=P.g.lt q (gg.mp hq).1;show D.ent q.1<((D.rows++[iT D.rows aZ "leave" []]).length:Int)+1;rw[uO];omega
 ·have hz:z∈S.map (·.1):=hz;rw[l.names,y0]at hz;exact P.g.ns z (gg.mp hz).1
end
section
variable {A1:Ab}{j t ks kb ka:Nat}{D:Dat}{oh:List (Str×Str)}{iv cA asked:List Str}{ent:Str->Int}{cX val c6 d v p:Str}
def YB(h:RA A aN rows aT ents oh aP iv)(tu:ij rows)(k:dr aT ents ent)(hw:aZ.length<=1000)(hl:rows.length<eM)(hc:oh.length<eM):
  ly [.at aN,.str aZ,.str cX,.str val] A=fX A (.ok .cx ((A.set (aN+1) (Pd rows aZ "set" [.str cX,.str val])).set (aN+4) (.bW (dP .str (e_ oh cX val))))) [((aT.lookup aZ).isNone,"NotIn","not in"),(decide (zt aT aZ<2),"NoRight","no right")]:=by
 show cI (iO.1 [.sh (.at aN),.sh (.str aZ),.sh (.str cX),.sh (.str val)] A)=_;unfold iO;simp only[ev,cW,gu,gR,h.call (m:="need_in") rfl,yX h tu hw];refine Jl (λq=>by simp only[q,cC,ev]) λq=>?_
 simp only[q,cR,cq,ev,cW,gu,gR,h.call (m:="need_keeper") rfl,abm h tu k hw q];refine Jl (λq=>by simp only[q,cC,ev]) λq=>?_
 have w:=wy (aZ:=aZ) (c7:="set") (ps:=[.str cX,.str val]) h (lz tu) hl (by show 3+2<=eM;decide) rfl;have h1:=h.II (Ext.put (o:=Pd rows aZ "set" [.str cX,.str val]) h.lg);have ep:=mh (z:=cX) (t:=.str val) (Y:=[.sh (.at aN),.sh (.str aZ),.sh (.str cX),.sh (.str val)]) h1.ch (by rw[jQ];exact hc);rw[kZ]at ep;simp only[q,cR,cq,ev,cW,gu,gR,h.call (m:="write_row") rfl,D3,w,nP,h1.OO,ep,fX]
theorem YC(q:cw A bg a9)(hi:a9.lookup c6=some aN)(h:RA A aN rows aT ents oh aP iv)(hw:aZ.length<=1000)(hR:ly [.at aN,.str aZ,.str cX,.str val] A=fX A (.ok .cx A1) cs):
  f' [.at 0,.tup [.str "arrange",.str aZ,.str c6,.str cX,.str val]] A=fX A (.ok .cx A1) ((!(bg.lookup aZ).isSome,"NoPerson","no person")::cs):=by
 show cI (gS.1 [.sh (.at 0),.sh (.tup [.str "arrange",.str aZ,.str c6,.str cX,.str val]),.no] A)=_;unfold gS;simp only[ev,cW,gu,gR,IZ,cf,cg,sn,String.reduceBEq,bX,q.call (m:="arrange") rfl,ZI];show cI (iP.1 [.sh (.at 0),.sh (.str aZ),.sh (.str c6),.sh (.str cX),.sh (.str val)] A)=_;unfold iP;simp only[ev,cW,gu,gR,q.call (m:="place_for") rfl,(D3 (b:=aZ)).1,sD q hw hi];cases(bg.lookup aZ).isSome with
 |false=>rfl
 |true=>simp only[cC,ev,cW,gu,gR,h.call (m:="arrange") rfl,hR,bdX];rfl
theorem Uh(h:bQ A j ks kb ka rows bq stays cA asked d v p)(k:dr bq ents ent):gB [aY 3 A (.at j),.tup [.str "arrange",.str aZ,.str c6,.str cX,.str val]]=.ok (fW [(decide (zt bq aZ<2),"NoRight","no right")]):=by
 show dH (eB.1 [.sh (aY 3 A (.at j)),.sh (.tup [.str "arrange",.str aZ,.str c6,.str cX,.str val]),.no,.no,.no,.no])=_;unfold eB;have sl:vU (.ok (.tup [.str "arrange",.str aZ,.str c6,.str cX,.str val])) (.ok none) (Ji (.ok (.int 2)))=.ok (.tup [.str "arrange",.str aZ]):=rfl;have gt:∀a b Y c e,ND (gT [2,3]) (.ok (.tup [a,b])) (c::e:: .no:: .no::Y)=.ok (.nx (c::e:: .sh a:: .sh b::Y)):=λ_ _ _ _ _=>rfl;have g:D4 (.str "arrange") (.tup [.str "role",.str "out"])=.ok (.bl false):=rfl;have l:D4 (.str "arrange") (.tup [.str "out",.str "bar"])=.ok (.bl false):=rfl;cases r:decide (zt bq aZ<2)<;>simp only[ev,cW,IZ,Yx,sl,gt,G_ (h.Bw (n:=1)) k,g,l,sn,String.reduceBEq,bX,cf,cg,fW,cC,cR,cq,Bool.or_true,pv,dA,eL,r]
theorem YD(h:bQ A j ks kb ka rows bq stays cA asked d v p)(f:ij rows)(q:rows.length<eM)(hw:cX="door"\/cX="voice"\/cX="past"):
  ∃A' d' v' p',lX [.at j,.tup [.str "arrange",.str aZ,.str c6,.str cX,.str val]] A=.ok .cx A'/\jJ A A' (jS j ks kb ka)/\bQ A' j ks kb ka (rows++[iT rows aZ "set" [.str cX,.str val]]) bq stays cA asked d' v' p'/\e_ (D7 d v p) cX val=D7 d' v' p':=by
 have h0:=h.ext (Ext.push (o:=.bW Mp)) λ_ _=>rfl;have w:=yW (aZ:=aZ) (ps:=[.str "set",.str cX,.str val]) h0 f q (by show 2+3<=eM;decide) rfl;have h1:=h0.IK (Ext.put (o:=.lst (rows++[iT rows aZ "set" [.str cX,.str val]])) h0.rw);have t1:=(jJ.push (A:=A) (o:=.bW Mp) (S:=jS j ks kb ka)).trans (jJ.put (o:=(.lst (rows++[iT rows aZ "set" [.str cX,.str val]]))) h0.rw (by simp));obtain⟨d',v',p',b,g⟩:∃d' v' p',e_ (zl j ks kb ka d v p) cX (.str val)=zl j ks kb ka d' v' p'/\e_ (D7 d v p) cX val=D7 d' v' p':=by
  rcases hw with rfl|rfl|rfl
  ·exact⟨val,v,p,rfl,rfl⟩
  ·exact⟨d,val,p,rfl,rfl⟩
  ·exact⟨d,v,val,rfl,rfl⟩
 refine⟨_,d',v',p',?_,t1.trans (jJ.put h1.o (by simp)),h1.e_o (Ext.put h1.o),g⟩;show cI (il.1 [.sh (.at j),.sh (.tup [.str "arrange",.str aZ,.str c6,.str cX,.str val]),.no,.no,.no,.no] A)=_;unfold il;have s1:vU (.ok (.tup [.str "arrange",.str aZ,.str c6,.str cX,.str val])) (.ok none) (Ji (.ok (.int 2)))=.ok (.tup [.str "arrange",.str aZ]):=rfl;have s2:vU (.ok (.tup [.str "arrange",.str aZ,.str c6,.str cX,.str val])) (Ji (.ok (.int 3))) (.ok none)=.ok (.tup [.str cX,.str val]):=rfl;have s3:Gg (.ok (.bW Mp)) (.ok (.str "arrange")) (.ok (.str "arrange"))=.ok (.str "set"):=rfl;have s4:xQ (.tup [.str "set"]) (.tup [.str cX,.str val])=.ok (.tup [.str "set",.str cX,.str val]):=rfl;have s5:∀A,r_ (.ok (.tup [.str "set",.str cX,.str val])) A=.ok (.tup [.str "set",.str cX,.str val]) A:=λ_=>rfl;have l:D4 (.str "arrange") (.tup [.str "out",.str "bar"])=.ok (.bl false):=rfl;simp only[ev,cW,gu,gR,IZ,s1,D3,gt2,nm1,nm2,cf,cg,s2,s3,s4,s5,w,sn,String.reduceBEq,bX,nP,h1.p_o b,l]
theorem YE(P:Pr A aN j D t)(q:cw A bg a9)(hM:fN A bw c8)(hi:a9.lookup c6=some aN)(hj:c8.lookup c6=some j)(hp:∀z,(bg.lookup z).isSome=bw.contains z)(h6:aZ∈six)(hw:cX="door"\/cX="voice"\/cX="past")(ht:t<=1000):Res A aN j D t [.str "arrange",.str aZ,.str c6,.str cX,.str val]:=by
 have tu:=P.g.fr.tu;have hs:=iq h6;have b1:=P.b.b1;have b2:=P.b.b2;have b3:=P.b.b3;have b4:=P.b.b4;have b5:=P.b.b5;have b6:=P.b.b6;have b7:=P.b.b7;have hR:=λ{A:Ab} (r:RA A aN D.rows D.aT D.ents (D7 D.d D.v D.p) D.cA D.inv)=>YB (aZ:=aZ) (cX:=cX) (val:=val) r tu P.g.rk hs (dU (by omega)) (by show 3<eM;decide);have L:=Mo (aZ:=aZ) (x3:=cX) (c9:=[.str val]) (wh:=false) hM P.m hj (.inl ⟨rfl,rfl⟩) (Uh P.m P.g.rk);have I:=λ{A:Ab} (q:cw A bg a9) r=>YC (c6:=c6) q hi r hs (hR r);simp only[hp]at I;simp only[eL,tq,Bool.and_true]at L;refine wA P L (I q P.r) (by simp) λall M=>?_
 obtain⟨A1,d',v',p',S,t1,m1,ec⟩:=YD (aZ:=aZ) (c6:=c6) (val:=val) P.m tu (dU (by omega)) hw;have g:=P.g.row (us:=[.int (D.rows.length+1),.str aZ,.str "set",.str cX,.str val]) rfl (by show 5<=10;decide);obtain⟨A2,q2,t2,m2⟩:=Pf m1 g.fr.tu P.g.rk P.g.op P.g.ow (by rw[uO];exact dU (by omega)) (dB (dU (by omega))) (dU (by omega));refine wB (D':={Dr D aZ "set" [.str cX,.str val]with d:=d',v:=v',p:=p'}) P q M (Mq (.inl rfl) hM hj S q2 rfl) (t1.trans (t2 _ _ _)) m2 Kept.refl (λUg l=>⟨_,(I Ug l).trans (Uc all),?_,?_⟩) g ⟨by show(D.rows++[_]).length<=_;rw[uO];omega,by show D.aT.length<=_;omega,by show D.ents.length<=_;omega,by show D.stays.length<=_;omega,by show D.asked.length<=_;omega,by show D.cA.length<=_;omega,by show D.inv.length<=_;omega⟩
 ·have n:=l.II (Ext.put (o:=Pd D.rows aZ "set" [.str cX,.str val]) l.lg);exact(jJ.put l.lg (by simp)).trans (jJ.put n.ch (by simp))
 ·have n:=l.II (Ext.put (o:=Pd D.rows aZ "set" [.str cX,.str val]) l.lg);rw[ec];exact n.aa5 (Ext.put n.ch)
end
noncomputable def Ui(a b c:Int):Bool:=decide (a<2)||((a==2)&&(decide (1<b)||decide (1<c)))
section
variable {A1:Ab}{j t ks kb ka:Nat}{D:Dat}{oh:List (Str×Str)}{iv cA asked:List Str}{ent:Str->Int}{d4 c6 role v p:Str}
theorem Ms(h:RA A aN rows aT ents oh aP iv)(tu:ij rows)(k:dr aT ents ent)(h4:role∈gK)(q:(aT.lookup aZ).isNone=false)(q2:(aT.lookup d4).isNone=false):oB [aY 5 A (.at aN),.str aZ,.str d4,.str role]=.ok (.bl (!Ui (zt aT aZ) (zt aT d4) (lvl role))):=by
 obtain⟨r,g⟩:=As q;obtain⟨s,hs⟩:=As q2;show dH (g_.1 [.sh (aY 5 A (.at aN)),.sh (.str aZ),.sh (.str d4),.sh (.str role)])=_;unfold g_;have l1:wt [.str "speaker"]=.ok (.int 1):=og (by decide+kernel);have e:=Ud (k.lk g);simp only[ev,cW,h.sA (lz tu),dS,g,hs,di,kS,e.1,e.2,og (k.lk g),og (k.lk hs),og h4,l1,Yx];rw[yY g,yY hs];have b:=Mm r;unfold Ui;by_cases l:lvl r=2
 ·simp only[l,decide_true,ev];congr 2;rw[sX];simp only[iy,oZ,Bool.or_eq_false_iff,Bool.and_eq_false_iff,wI];constructor
  ·intro q;refine⟨by decide,.inr ?_⟩;split at q<;>omega
  ·intro q;have:¬(1<lvl s)/\¬(1<lvl role):=q.2.resolve_left (by simp);split<;>omega
 ·simp only[l,decide_false,ev,cW,h.sA (lz tu),dS,g,di,kS,e.1];congr 2;rw[sX];simp only[iy,oZ,Bool.or_eq_false_iff,Bool.and_eq_false_iff,wI,jh];constructor
  ·intro q;exact⟨by omega,.inl l⟩
  ·intro q;omega
abbrev csR(aT:List (Str×Str))(aZ d4 role:Str):List (Bool×Str×Str):=[((aT.lookup aZ).isNone,"NotIn","not in"),((aT.lookup d4).isNone,"NotIn","not in"),(Ui (zt aT aZ) (zt aT d4) (lvl role),"NoRight","no right"),(aT.lookup d4==some role,"Known","known")]
theorem Pj(h:RA A aN rows aT ents oh aP iv)(tu:ij rows)(k:dr aT ents ent)(hw:aZ.length<=1000)(hv:d4.length<=1000)(h4:role∈gK):f_ [.at aN,.str aZ,.str d4,.str role] A=fX A (f_ [.at aN,.str aZ,.str d4,.str role] A) (csR aT aZ d4 role):=by
 have r:role.length<=1000:=(by decide+kernel:∀z∈gK,z.length<=1000) role h4;refine Jl (λq=>?_) λq=>Jl (λl=>?_) λl=>Jl (λI=>?_) λI=>Jl (λM=>?_) λ_=>rfl
 all_goals
  show cI (ik.1 [.sh (.at aN),.sh (.str aZ),.sh (.str d4),.sh (.str role)] A)=_;unfold ik;simp only[ev,cW,gu,gR,h.call (m:="need_in") rfl,yX h tu hw,q,cC,cR,cq]
 ·simp only[ev,cW,gu,gR,h.call (m:="need_in") rfl,yX h tu hv,l,cC]
 ·obtain⟨w,L⟩:=jC (z:=aZ) (acc:=Str.empty) (n:=0) (k:=λacc=>mX (.ok (.str " may not make ")) (λacc=>mX (.ok (.str d4)) (λacc=>mX (.ok (.str " a ")) (λacc=>mX (.ok (.str role)) (λacc=>Be acc) acc) acc) acc) acc) (bz 0) hw (by decide) λa g=>jC g (by decide+kernel) (by decide) λa g=>jC g hv (by decide) λa g=>jC g (by decide+kernel) (by decide) λa g=>jC g r (by decide) λa g=>jN (by omega);have tr:∀b,pM (.bl b)=.ok b:=λ_=>rfl;simp only[ev,cW,gu,gR,h.call (m:="need_in") rfl,yX h tu hv,l,cR,cq,h.dG (n:=4) (m:="may_give") rfl,Ms h tu k h4 q l,I,dA,eL,tr,L]
 ·obtain⟨s,hs⟩:=As l;have es:s=role:=by rw[hs]at M;simpa using M
  subst es;obtain⟨w,L⟩:=jC (z:=d4) (acc:=Str.empty) (n:=0) (k:=λacc=>mX (.ok (.str " is a ")) (λacc=>mX (.ok (.str s)) (λacc=>Be acc) acc) acc) (bz 0) hv (by decide) λa g=>jC g (by decide+kernel) (by decide) λa g=>jC g r (by decide) λa g=>jN (by omega);have tr:∀b,pM (.bl b)=.ok b:=λ_=>rfl;simp only[ev,cW,gu,gR,h.call (m:="need_in") rfl,yX h tu hv,l,cR,cq,h.dG (n:=4) (m:="may_give") rfl,Ms h tu k h4 q l,I,dA,eL,tr,h.sA (lz tu),dS,hs,wR,di,kS,bX,L]
def Uj(h:RA A aN rows aT ents oh aP iv)(tu:ij rows)(k:dr aT ents ent)(hw:aZ.length<=1000)(hv:d4.length<=1000)(h4:role∈gK)(hl:rows.length+1<eM)(hk:aT.length+1<eM)(all:∀c∈csR aT aZ d4 role,c.1=false):
  ∃A' cJ cQ,f_ [.at aN,.str aZ,.str d4,.str role] A=.ok .cx A'/\gU (rows++[iT rows aZ "role" [.str d4,.str role]]) (e_ aT d4 role) cJ cQ/\jJ A A' (iS aN)/\RA A' aN cJ cQ ents oh aP iv:=by
 have q:(aT.lookup aZ).isNone=false:=all ((aT.lookup aZ).isNone,"NotIn","not in") (by simp);have g:(aT.lookup d4).isNone=false:=all ((aT.lookup d4).isNone,"NotIn","not in") (by simp);have I:Ui (zt aT aZ) (zt aT d4) (lvl role)=false:=all (Ui (zt aT aZ) (zt aT d4) (lvl role),"NoRight","no right") (by simp);have r:(aT.lookup d4==some role)=false:=all (aT.lookup d4==some role,"Known","known") (by simp);obtain⟨s,hs⟩:=As g;have es:(s==role)=false:=by rw[hs]at r;simpa using r
 obtain⟨A1,g1,g2,g3⟩:=L_ (aZ:=aZ) (d4:=d4) (role:=role) h (lz tu) (by omega) (by rw[jQ];omega);rw[kZ]at g2 g3;have pl:=wz (l:=aT) (z:=d4) (a:=role);obtain⟨A2,cJ,cQ,s1,s2,s3,s4⟩:=L' g3 (lz (m4 tu)) (k.role (cE.mpr ⟨_,i_ hs,rfl⟩) h4) (by rw[uO];omega) (by omega);refine⟨A2,cJ,cQ,?_,s2,(jJ.of g2 (by simp)).trans (jJ.of s3 (by simp)),s4⟩;show cI (ik.1 [.sh (.at aN),.sh (.str aZ),.sh (.str d4),.sh (.str role)] A)=_;unfold ik;have tr:∀b,pM (.bl b)=.ok b:=λ_=>rfl;simp only[ev,cW,gu,gR,h.call (m:="need_in") rfl,yX h tu hw,yX h tu hv,q,g,cR,cq,h.dG (n:=4) (m:="may_give") rfl,Ms h tu k h4 q g,I,dA,eL,tr,h.sA (lz tu),dS,hs,wR,di,kS,es,h.call (m:="give_role") rfl,g1,g3.call (m:="see_to_owner") rfl,s1]
theorem bdY{q:Rz Tr}{Y:bT}:∀{cs:List (Bool×Str×Str)},cI (pV (fX A q cs) Y)=fX A (cI (pV q Y)) cs
 |[]=>rfl
 |(true,_,_)::cs=>rfl
 |(false,_,_)::cs=>bdY (cs:=cs)
theorem Uk(q:cw A bg a9)(hi:a9.lookup c6=some aN)(h:RA A aN rows aT ents oh aP iv)(hw:aZ.length<=1000)(hv:d4.length<=1000)(hR:f_ [.at aN,.str aZ,.str d4,.str role] A=fX A (f_ [.at aN,.str aZ,.str d4,.str role] A) cs):
  f' [.at 0,.tup [.str "role",.str aZ,.str c6,.str d4,.str role]] A=fX A (cI (pV (f_ [.at aN,.str aZ,.str d4,.str role] A) [.sh (.at 0),.sh (.str aZ),.sh (.str c6),.sh (.str d4),.sh (.str role)])) ((!((bg.lookup aZ).isSome&&(bg.lookup d4).isSome),"NoPerson","no person")::cs):=by
 show cI (gS.1 [.sh (.at 0),.sh (.tup [.str "role",.str aZ,.str c6,.str d4,.str role]),.no] A)=_;unfold gS;simp only[ev,cW,gu,gR,IZ,cf,cg,sn,String.reduceBEq,bX,q.call (m:="role") rfl,ZI];show cI (lU.1 [.sh (.at 0),.sh (.str aZ),.sh (.str c6),.sh (.str d4),.sh (.str role)] A)=_;unfold lU;simp only[ev,cW,gu,gR,q.call (m:="place_for") rfl,D3,DZ q hw hv hi];cases((bg.lookup aZ).isSome&&(bg.lookup d4).isSome)with
 |false=>rfl
 |true=>
  simp only[cC,ev,cW,gu,gR,h.call (m:="role") rfl];exact(cT (λσ=>cI (pV σ _)) hR).trans bdY
def Pk(h:bQ A j ks kb ka rows bq stays cA asked aO v p)(k:dr bq ents ent)(h4:role∈gK):gB [aY 3 A (.at j),.tup [.str "role",.str aZ,.str c6,.str d4,.str role]]=.ok (fW (csR bq aZ d4 role).tail):=by
 show dH (eB.1 [.sh (aY 3 A (.at j)),.sh (.tup [.str "role",.str aZ,.str c6,.str d4,.str role]),.no,.no,.no,.no])=_;unfold eB;have sl:vU (.ok (.tup [.str "role",.str aZ,.str c6,.str d4,.str role])) (.ok none) (Ji (.ok (.int 2)))=.ok (.tup [.str "role",.str aZ]):=rfl;have gt:∀a b Y c e,ND (gT [2,3]) (.ok (.tup [a,b])) (c::e:: .no:: .no::Y)=.ok (.nx (c::e:: .sh a:: .sh b::Y)):=λ_ _ _ _ _=>rfl;have l:D4 (.str "role") (.tup [.str "role",.str "out"])=.ok (.bl true):=rfl;have r:D4 (.str role) (.tup [.str "keeper",.str "owner"])=.ok (.bl (decide (1<lvl role))):=by
  have:role="guest"\/role="speaker"\/role="keeper"\/role="owner":=by simpa using h4
  rcases this with rfl|rfl|rfl|rfl<;>rfl
 have ob:∀a b,V7 (.ok a) (.ok b)=.ok (a||b):=λa b=>by cases a<;>rfl
 have ab:∀a b,HF (.ok a) (.ok b)=.ok (a&&b):=λa b=>by cases a<;>rfl
 simp only[ev,cW,IZ,Yx,sl,gt,G_ (h.Bw (n:=1)) k,l,Mn,cf,cg];refine ZJ (λq=>by simp only[q,ev]) λq=>?_
 simp only[q,ev,cW,IZ,Yx,r,ob,ab,bX];refine ZJ (λq=>by simp only[Ui]at q;simp only[q,ev]) λg=>?_
 simp only[Ui]at g;obtain⟨s,hs⟩:=As q;simp only[g,ev,cW,IZ,h.Bw (n:=1),dS,hs,di,kS,fW];rw[show(some s==some role)=(s==role)from rfl];cases(s==role)<;>rfl
theorem Ul(h:bQ A j ks kb ka rows bq stays cA asked aO v p)(f:ij rows)(q:rows.length<eM)(ha:bq.length<eM):
  ∃A',lX [.at j,.tup [.str "role",.str aZ,.str c6,.str d4,.str role]] A=.ok .cx A'/\jJ A A' (jS j ks kb ka)/\bQ A' j ks kb ka (rows++[iT rows aZ "role" [.str d4,.str role]]) (e_ bq d4 role) stays cA asked aO v p:=by
 have h0:=h.ext (Ext.push (o:=.bW Mp)) λ_ _=>rfl;have w:=yW (aZ:=aZ) (ps:=[.str "role",.str d4,.str role]) h0 f q (by show 2+3<=eM;decide) rfl;have h1:=h0.IK (Ext.put (o:=.lst (rows++[iT rows aZ "role" [.str d4,.str role]])) h0.rw);have t1:=(jJ.push (A:=A) (o:=.bW Mp) (S:=jS j ks kb ka)).trans (jJ.put (o:=.lst (rows++[iT rows aZ "role" [.str d4,.str role]])) h0.rw (by simp));refine⟨_,?_,t1.trans (jJ.put (o:=.bW (dP .str (e_ bq d4 role))) h1.rl (by simp)),h1.OR (Ext.put h1.rl)⟩;show cI (il.1 [.sh (.at j),.sh (.tup [.str "role",.str aZ,.str c6,.str d4,.str role]),.no,.no,.no,.no] A)=_;unfold il;have s1:vU (.ok (.tup [.str "role",.str aZ,.str c6,.str d4,.str role])) (.ok none) (Ji (.ok (.int 2)))=.ok (.tup [.str "role",.str aZ]):=rfl;have s2:vU (.ok (.tup [.str "role",.str aZ,.str c6,.str d4,.str role])) (Ji (.ok (.int 3))) (.ok none)=.ok (.tup [.str d4,.str role]):=rfl;have s3:Gg (.ok (.bW Mp)) (.ok (.str "role")) (.ok (.str "role"))=.ok (.str "role"):=rfl;have s4:xQ (.tup [.str "role"]) (.tup [.str d4,.str role])=.ok (.tup [.str "role",.str d4,.str role]):=rfl;have s5:∀A,r_ (.ok (.tup [.str "role",.str d4,.str role])) A=.ok (.tup [.str "role",.str d4,.str role]) A:=λ_=>rfl;have b:D4 (.str "role") (.tup [.str "out",.str "bar"])=.ok (.bl false):=rfl;have ep:=mh (z:=d4) (t:=.str role) (Y:=[.sh (.at j),.sh (.tup [.str "role",.str aZ,.str c6,.str d4,.str role]),.sh (.str "role"),.sh (.str aZ),.sh (.at A.length),.sh (.int (rows.length+1))]) h1.rl (by rw[jQ];exact ha);rw[kZ]at ep;simp only[ev,cW,gu,gR,IZ,s1,D3,gt2,nm1,nm2,cf,cg,s2,s3,s4,s5,w,sn,String.reduceBEq,bX,nP,kj,h1.OQ,ep,b]
theorem Um(P:Pr A aN j D t)(hH:cw A bg a9)(hM:fN A bw c8)(hi:a9.lookup c6=some aN)(hj:c8.lookup c6=some j)(hp:∀z,(bg.lookup z).isSome=bw.contains z)(h6:aZ∈six)(h7:d4∈six)(h4:role∈gK)(ht:t<=1000):Res A aN j D t [.str "role",.str aZ,.str c6,.str d4,.str role]:=by
 have tu:=P.g.fr.tu;have hs:=iq h6;have M:=iq h7;have b1:=P.b.b1;have b2:=P.b.b2;have b3:=P.b.b3;have b4:=P.b.b4;have b5:=P.b.b5;have b6:=P.b.b6;have b7:=P.b.b7;have hr:=Mo (aZ:=aZ) (x3:=d4) (c9:=[.str role]) (wh:=true) hM P.m hj (.inr ⟨.inr (.inl rfl),rfl⟩) (Pk P.m P.g.rk h4);have n:=λ{A:Ab} (hH:cw A bg a9) (r:RA A aN D.rows D.aT D.ents (D7 D.d D.v D.p) D.cA D.inv)=>Uk (c6:=c6) hH hi r hs M (Pj r tu P.g.rk hs M h4);simp only[hp]at n;simp only[dA,kL]at hr;refine wA P hr (n hH P.r) (by simp) λall OB=>?_
 have YF:=λc n=>all c (ck _ n);obtain⟨A1,q1,t1,m1⟩:=Ul (aZ:=aZ) (c6:=c6) (d4:=d4) (role:=role) P.m tu (dU (by omega)) (dU (by omega));obtain⟨s,S⟩:=As (YF ((D.aT.lookup d4).isNone,"NotIn","not in") (by simp));have lD:d4∈D.aT.map (·.1):=cE.mpr ⟨_,i_ S,rfl⟩;have Qy:=P.g.rk.role lD h4;have L:=yV (a:=role) lD;have pl:=wz (l:=D.aT) (z:=d4) (a:=role);have pl2:(e_ D.aT d4 role).length=D.aT.length:=by have:=cT List.length L;simpa using this
 obtain⟨A2,cJ,cQ,q2,I,x2,m2⟩:=uN m1 (m4 tu) Qy (P.g.op.trans L.symm) (by rw[uO];exact dU (by omega)) (dB (dU (by omega))) (dU (by omega));have ol:=I.len;rw[uO]at ol;refine wB (D':={D with rows:=cJ,aT:=cQ}) P hH OB (Mq (.inr (.inr (.inl rfl))) hM hj q1 q2 rfl) (t1.trans (jJ.of x2 (by simp))) m2 Kept.refl (λUg r2=>?_) ⟨I.jf (P.g.fr.add rfl (by show 5<=10;decide)),I.Fv Qy,(P.g.op.trans L.symm).trans I.names.symm,yZ I λq hq=>?_,I.ow,P.g.ia,λz hz=>P.g.ns z (by have hz:z∈cQ.map (·.1):=hz;rwa[I.names,L]at hz),P.g.bs,P.g.is,P.g.nd⟩ ⟨by show cJ.length<=_;omega,by show cQ.length<=_;omega,by show D.ents.length<=_;omega,by show D.stays.length<=_;omega,by show D.asked.length<=_;omega,by show D.cA.length<=_;omega,by show D.inv.length<=_;omega⟩
 ·obtain⟨A3,Qz,Mr,q3,o3,x3,r3⟩:=Uj (aZ:=aZ) (d4:=d4) (role:=role) r2 tu P.g.rk hs M h4 (dU (by omega)) (dU (by omega)) YF;obtain⟨rfl,rfl⟩:=I.one o3;have n:=(n Ug r2).trans (Uc all);rw[q3]at n;exact⟨A3,n,x3,r3⟩
 ·have Ql:q.1∈D.aT.map (·.1):=by rw[<-L];exact gf hq
  obtain⟨q',VA,e⟩:=cE.mp Ql;have:=P.g.lt q' VA;show D.ent q.1<((D.rows++[iT D.rows aZ "role" [.str d4,.str role]]).length:Int)+1;rw[uO,<-e];omega
end
section
def BS{n:Nat}{t:Tr}(h:xV t=true):fm (n+1) [t,t]=.ok (.bl true):=by
 cases t with
 |cx=>rfl
 |bl b=>cases b<;>rfl
 |int k=>show Rs.ok (Tr.bl (k==k))=_;rw[bX]
 |str z=>show Rs.ok (Tr.bl (z==z))=_;rw[bX]
 |_=>cases h
theorem Mt{F:bT->Rs Tr}:∀{ts:List Tr} {c d:Cell},(∀t∈ts,F [.sh t,.sh t]=.ok (.bl true))->Ex (gT [0,1]) (λ_=>.ok true) F (ts.map λt=>.tup [t,t]) [c,d]=.ok (ts.map λ_=>.bl true)
 |[],_,_,_=>rfl
 |t::ts,c,d,h=>by
  show(NG (F [.sh t,.sh t])).bind (λy=>(Ex (gT [0,1]) (λ_=>.ok true) F (ts.map λt=>.tup [t,t]) [.sh t,.sh t]).bind λys=>Rs.ok (y::ys))=_;rw[h t (cz ..),Mt λu b=>h u (ck _ b)]
  rfl
theorem lA{n:Nat}{ts:List Tr}(q:ts.length<=eM)(h:∀t∈ts,fm n [t,t]=.ok (.bl true)):fm (n+1) [.tup ts,.tup ts]=.ok (.bl true):=by
 show dH ((uK (fm n)).1 [.sh (.tup ts),.sh (.tup ts)])=_;unfold uK;have i1:R' [.tup ts,.ty "tuple"]=.ok (.bl true):=rfl;have i2:pM (.bl true)=.ok true:=rfl;have l:∀a b:Int,MX (.int a) (.int b)=.ok (.bl (!(a==b))):=λ_ _=>rfl;have r:zpW (.ok [.tup ts,.tup ts])=.ok (ts.map λt=>.tup [t,t]):=by
  show(if ts.length<=ts.length then Rs.ok (Qm ts ts)else .bad)=_;rw[aV (bz _),DB]
 have I:vq [none,none] (gT [0,1]) (λ_=>.ok true) (λY=>(dG (fm n) (xN (xJ Y 0) (xN (xJ Y 1) (.ok []))))) (.ok (ts.map λt=>.tup [t,t])) [.sh (.tup ts),.sh (.tup ts)]=.ok (.lst (ts.map λ_=>.bl true)):=by
  show(if(ts.map λt=>Tr.tup [t,t]).length<=eM then _ else _)=_;rw[aV (by rw[bt];exact q)];show(Ex (gT [0,1]) _ _ _ [.no,.no]).bind _=_;rw[Mt λt g=>h t g]
  rfl
 have L:N2 [.lst (ts.map λ_=>.bl true)]=.ok (.bl true):=LQ λt g=>by obtain⟨_,_,rfl⟩:=cE.mp g;rfl
 simp only[ev,cW,i1,i2,l,r,bX,dA,I,L]
variable {i j t:Nat}{D:Dat}{name:Str}
def qC(h:cw A bg a9)(hi:a9.lookup name=some i):oC [aY 5 A (.at 0),.str name]=.ok (aY 3 A (.at i)):=by
 show dH (hJ.1 [.sh (aY 5 A (.at 0)),.sh (.str name)])=_;unfold hJ;simp only[ev,cW,h.T2,eI,hi,di,nD,dA,dS,kS]
def Pl(h:cw A bg a9)(hi:a9.lookup name=some i)(P:Pr A i j D t):vL [aY 5 A (.at 0),.str name]=.ok (.tup D.rows):=by
 show dH (lW.1 [.sh (aY 5 A (.at 0)),.sh (.str name)])=_;unfold lW;have e:vK [aY 3 A (.at i)]=.ok (.tup D.rows):=by
  show dH (lV.1 [.sh (aY 3 A (.at i))])=_;unfold lV;simp only[ev,cW,P.r.abh (n:=1) P.g.fr.tu,OW]
 simp only[ev,cW,h.dG (n:=4) (m:="place") rfl,qC h hi,P.r.dG (n:=2) (m:="rows") rfl,e]
def Mu(h:cw A bg a9)(hi:a9.lookup name=some i)(P:Pr A i j D t):uE [aY 5 A (.at 0),.str name]=.ok (.tup ((cZ (D.aT.map (·.1))).map λz=>.tup [.str z,.str ((D.aT.lookup z).getD "")])):=by
 show dH (kA.1 [.sh (aY 5 A (.at 0)),.sh (.str name)])=_;unfold kA;have e:uC [aY 3 A (.at i)]=.ok (.tup ((cZ (D.aT.map (·.1))).map λz=>.tup [.str z,.str ((D.aT.lookup z).getD "")])):=by
  show dH (ky.1 [.sh (aY 3 A (.at i))])=_;unfold ky;simp only[ev,cW,P.r.abi (n:=1) U4,Fm P.g.rk.nd P.g.ns (iU P.g.rk.nd),OW]
 simp only[ev,cW,h.dG (n:=4) (m:="place") rfl,qC h hi,P.r.dG (n:=2) (m:="roles") rfl,e]
def Mv{l:List Str}:(l.map λz=>(z,true)).map (·.1)=l:=by rw[cL];exact kN l
def I0(h:cw A bg a9)(hi:a9.lookup name=some i)(P:Pr A i j D t)(hb:D.cA.length<64)(hs:∀z∈D.cA,z.length<=1000):rR [aY 5 A (.at 0),.str name]=.ok (.tup ((cZ D.cA).map .str)):=by
 show dH (jt.1 [.sh (aY 5 A (.at 0)),.sh (.str name)])=_;unfold jt;have e:rQ [aY 3 A (.at i)]=.ok (.tup ((cZ D.cA).map .str)):=by
  show dH (js.1 [.sh (aY 3 A (.at i))])=_;unfold js;have s:=qX (f:=Tr.bl) (l:=D.cA.map λz=>(z,true)) (λp hp=>by obtain⟨z,hz,rfl⟩:=cE.mp hp;exact hs z hz) (by rw[bt];exact hb);rw[Mv]at s;simp only[ev,cW,P.r.abk (n:=1) wo,show nM [.bW (nS D.cA)]=_ from s,OW]
 simp only[ev,cW,h.dG (n:=4) (m:="place") rfl,qC h hi,P.r.dG (n:=2) (m:="barred") rfl,e]
def Mw(h:cw A bg a9)(hi:a9.lookup name=some i)(P:Pr A i j D t)(hb:D.inv.length<64)(hs:∀z∈D.inv,z.length<=1000):uF [aY 5 A (.at 0),.str name]=.ok (.tup ((cZ D.inv).map .str)):=by
 show dH (kB.1 [.sh (aY 5 A (.at 0)),.sh (.str name)])=_;unfold kB;have e:uD [aY 3 A (.at i)]=.ok (.tup ((cZ D.inv).map .str)):=by
  show dH (kz.1 [.sh (aY 3 A (.at i))])=_;unfold kz;have s:=qX (f:=Tr.bl) (l:=D.inv.map λz=>(z,true)) (λp hp=>by obtain⟨z,hz,rfl⟩:=cE.mp hp;exact hs z hz) (by rw[bt];exact hb);rw[Mv]at s;simp only[ev,cW,P.r.abl (n:=1) wo,show nM [.bW (nS D.inv)]=_ from s,OW]
 simp only[ev,cW,h.dG (n:=4) (m:="place") rfl,qC h hi,P.r.dG (n:=2) (m:="asked") rfl,e]
def Fx{cX w:Str}(h:cw A bg a9)(hi:a9.lookup name=some i)(P:Pr A i j D t)(q:(D7 D.d D.v D.p).lookup cX=some w):qA [aY 5 A (.at 0),.str name,.str cX]=.ok (.str w):=by
 show dH (iR.1 [.sh (aY 5 A (.at 0)),.sh (.str name),.sh (.str cX)])=_;unfold iR;have e:qw [aY 3 A (.at i),.str cX]=.ok (.str w):=by
  show dH (iQ.1 [.sh (aY 3 A (.at i)),.sh (.str cX)])=_;unfold iQ;simp only[ev,cW,P.r.abj (n:=1) U4,dS,q,di,kS]
 simp only[ev,cW,h.dG (n:=4) (m:="place") rfl,qC h hi,P.r.dG (n:=2) (m:="setting") rfl,e]
end
section
variable {i i' j' t:Nat}{D D' D1 D2:Dat}{ts:List Tr}
def rS(D:Dat)(i aN:Nat):Prop:=∀k∈[D.ks,D.kb,D.ka],(k<i\/i+6<k)/\k≠aN/\k≠aN+1/\k≠aN+2
def Apart(D D':Dat):Prop:=∀k∈[D.ks,D.kb,D.ka],k∉[D'.ks,D'.kb,D'.ka]
def Apart.symm (h:Apart D D'):Apart D' D:=λk b q=>h k q b
def far(q:(i=7/\aN=16/\i'=27/\j'=36)\/(i=27/\aN=36/\i'=7/\j'=16)){k:Nat}(hk:(i<=k/\k<=i+6)\/k=aN\/k=aN+1\/k=aN+2):(k<i'\/i'+6<k)/\k≠j'/\k≠j'+1/\k≠j'+2:=by
 rcases q with⟨rfl,rfl,rfl,rfl⟩|⟨rfl,rfl,rfl,rfl⟩<;>refine⟨?_,?_,?_,?_⟩<;>omega
def rS.ne (c:rS D i aN){k q:Nat}(hk:(i<=k/\k<=i+6)\/k=aN\/k=aN+1\/k=aN+2)(hq:q∈[D.ks,D.kb,D.ka]):k≠q:=λe=>by
 subst e;have c:=c k hq;rcases hk with h|h|h|h
 ·rcases c.1 with z|z
  ·exact Nat.not_le_of_lt z h.1
  ·exact Nat.not_le_of_lt z h.2
 ·exact c.2.1 h
 ·exact c.2.2.1 h
 ·exact c.2.2.2 h
def Mx(AO:(i=7/\aN=16/\i'=27/\j'=36)\/(i=27/\aN=36/\i'=7/\j'=16))(hH:cw A bg a9)(hM:fN A bw c8)(R1:Pr A i aN D t)(R2:Pr A i' j' D' t)(c1:rS D i' j')(c2:rS D' i aN)(ap:Apart D D')(res:Res A i aN D t ts):
  ∃A' D1,jH [.at 0,.at 4,.tup ts] A=.ok (.bl true) A'/\cw A' bg a9/\fN A' bw c8/\Pr A' i aN D1 (t+1)/\Pr A' i' j' D' (t+1)/\rS D1 i' j'/\rS D' i aN/\Apart D1 D':=by
 obtain⟨A',D1,e,x,P1,kp⟩:=res;have hi:=R1.hi;have g:∀k∈touched i aN D,6<k:=λk b=>by
  rcases dI.mp b with b|b
  ·simp only[bE,cN,cO]at b;omega
  ·exact(R1.dj k b).1
 have l1:=iI R2.m.st;have l2:=iI R2.m.br;have I:=iI R2.m.as;have L:=iI R2.m.rl;have M:=iI R2.r.iv;refine⟨A',D1,e,cw.kp hH x g,fN.kp hM x g,P1,R2.kp x λk b=>?_,λk q=>?_,c2,λk q=>?_⟩
 ·have go:∀k,((i<=k/\k<=i+6)\/k=aN\/k=aN+1\/k=aN+2)->(k<i'\/i'+6<k)/\k∉jS j' D'.ks D'.kb D'.ka:=λk b=>by
   have f:=far AO b;have n:=λq (l:q∈[D'.ks,D'.kb,D'.ka])=>c2.ne b l;refine⟨f.1,λm=>?_⟩;simp only[bE,cN,cO]at m n;rcases m with m|m|m|m
   ·exact f.2.1 m
   ·exact f.2.2.1 m
   ·exact f.2.2.2 m
   ·exact n k m rfl
  rcases dI.mp b with b|b
  ·refine go k (.inl ?_)
   clear go AO
   simp only[bE,cN,cO]at b;rcases b with rfl|b<;>first|exact⟨bz _,mE _ 6⟩|omega
  ·have:k=aN\/k=aN+1\/k=aN+2\/k∈[D.ks,D.kb,D.ka]:=by simpa using b
   rcases this with h|h|h|h
   ·exact go k (.inr (.inl h))
   ·exact go k (.inr (.inr (.inl h)))
   ·exact go k (.inr (.inr (.inr h)))
   ·have f:=c1 k h;refine⟨f.1,λm=>?_⟩;have a:=ap k h;simp only[bE,cN,cO]at m a;rcases m with m|m|m|m
    ·exact f.2.1 m
    ·exact f.2.2.1 m
    ·exact f.2.2.2 m
    ·exact a m
 ·rcases kp k q with q|q
  ·exact c1 k q
  ·omega
 ·rcases kp k q with q|q
  ·exact ap k q
  ·simp only[bE,cN,cO,not_or];omega
structure Sta(A:Ab)(t:Nat)(bg:List (Str×Bool))(bw:List Str)(D1 D2:Dat):Prop where
 h:cw A bg [("hall",7),("yard",27)]
 m:fN A bw [("hall",16),("yard",36)]
 pp:bg.map (·.1)=bw
 pl:bw.length<=5+t
 p6:∀z∈bw,z∈six
 r1:Pr A 7 16 D1 t
 r2:Pr A 27 36 D2 t
 c1:rS D1 27 36
 c2:rS D2 7 16
 ap:Apart D1 D2
def St(A:Ab)(t:Nat):Prop:=∃bg bw D1 D2,Sta A t bg bw D1 D2
theorem y1{α:Type}{z:Str}:∀{l:List (Str×α)},(l.lookup z).isSome=(l.map (·.1)).contains z
 |[]=>rfl
 |q::l=>by
  rw[cK,bL,List.contains_cons];cases e:(z==q.1)with
  |true=>rfl
  |false=>rw[kL];exact y1
def St.go {f:Str->List Tr}(h:St A t)(S:∀{i aN D bg a9 bw c8 c6},Pr A i aN D t->cw A bg a9->fN A bw c8->a9.lookup c6=some i->c8.lookup c6=some aN->(∀z,(bg.lookup z).isSome=bw.contains z)->Res A i aN D t (f c6)){c6:Str}(q:c6="hall"\/c6="yard"):
  ∃A',jH [.at 0,.at 4,.tup (f c6)] A=.ok (.bl true) A'/\St A' (t+1):=by
 obtain⟨bg,bw,D1,D2,s⟩:=h;have hp:∀aZ,(bg.lookup aZ).isSome=bw.contains aZ:=λaZ=>by rw[y1,s.pp]
 have I:=s.pl;rcases q with rfl|rfl
 ·obtain⟨A',D',e,a1,a2,b,g,l,n,r⟩:=Mx (.inl ⟨rfl,rfl,rfl,rfl⟩) s.h s.m s.r1 s.r2 s.c1 s.c2 s.ap (S (c6:="hall") s.r1 s.h s.m (by decide+kernel) (by decide+kernel) hp);exact⟨A',e,bg,bw,D',D2,a1,a2,s.pp,by omega,s.p6,b,g,l,n,r⟩
 ·obtain⟨A',D',e,a1,a2,b,g,l,n,r⟩:=Mx (.inr ⟨rfl,rfl,rfl,rfl⟩) s.h s.m s.r2 s.r1 s.c2 s.c1 s.ap.symm (S (c6:="yard") s.r2 s.h s.m (by decide+kernel) (by decide+kernel) hp);exact⟨A',e,bg,bw,D1,D',a1,a2,s.pp,by omega,s.p6,g,b,n,l,r.symm⟩
end
theorem Av:∀{xs ss:List Str} {z:Str},z∈eN ss xs↔z∈ss\/z∈xs
 |[],ss,z=>by simp[eN]
 |x::xs,ss,z=>by
  show z∈eN (gG ss x) xs↔_;rw[Av,bE];unfold gG;split
  ·rename_i h;exact⟨λq=>q.elim .inl λq=>.inr (.inr q),λq=>q.elim .inl λq=>q.elim (λe=>.inl (e▸h)) .inr⟩
  ·rw[dI,de,or_assoc]
theorem Aw:∀{xs ss:List Str},ss.Nodup->(eN ss xs).Nodup
 |[],_,h=>h
 |x::xs,ss,h=>by
  show(eN (gG ss x) xs).Nodup;refine Aw ?_
  unfold gG;split
  ·exact h
  ·rename_i q;refine wW.mpr ⟨h,List.pairwise_singleton _ _,λa g b hb e=>q ?_⟩;rw[de.mp hb]at e;exact e▸g
section
variable {t:Nat}{D1 D2:Dat}
def ne_str:MX (.str aO) (.str aO)=.ok (.bl false):=by show Rs.ok (Tr.bl (!(aO==aO)))=_;rw[bX];rfl
def Uo(s:Sta A t bg bw D1 D2){G K:bT->Rs Out}
  (q:∀{i j:Nat} {D:Dat} {name:Str} {c3 c4:Cell},([("hall",7),("yard",27)]:List (Str×Nat)).lookup name=some i->([("hall",16),("yard",36)]:List (Str×Nat)).lookup name=some j->Pr A i j D t->∃a b,G [.sh (aY 5 A (.at 0)),.sh (aY 5 A (.at 4)),.sh (.str name),c3,c4,.no]=.ok (.nx [.sh (aY 5 A (.at 0)),.sh (aY 5 A (.at 4)),.sh (.str name),a,b,.no]))
  (hK:∀a b,dH (K [.sh (aY 5 A (.at 0)),.sh (aY 5 A (.at 4)),.sh (.str "yard"),a,b,.no])=.ok (.bl true)):
  dH (Cv (F3 (gN 2) G (Ks (HD jX (xJ [.sh (aY 5 A (.at 0)),.sh (aY 5 A (.at 4)),.no,.no,.no,.no] 1) (Rs.ok (.str "rooms")))) [.sh (aY 5 A (.at 0)),.sh (aY 5 A (.at 4)),.no,.no,.no,.no]) K)=.ok (.bl true):=by
 have g:=wk (f:=λj=>aY 3 A (.at j)) (l:=[("hall",16),("yard",36)]) (λp hp=>(by decide+kernel:∀p∈([("hall",16),("yard",36)]:List (Str×Nat)),p.1.length<=1000) p hp);have r:Ks (.ok (.bW (dP (λj=>aY 3 A (.at j)) [("hall",16),("yard",36)])))=.ok [.str "hall",.str "yard"]:=g;obtain⟨a1,b1,I⟩:=q (name:="hall") (c3:=.no) (c4:=.no) (by decide+kernel) (by decide+kernel) s.r1;obtain⟨a2,b2,L⟩:=q (name:="yard") (c3:=a1) (c4:=b1) (by decide+kernel) (by decide+kernel) s.r2;simp only[ev,cW,s.m.LP (n:=3),r,OW,GY,cf,cg,I,L,hK]
def rf{l:List Str}{n:Nat}(q:l.length<=1000):fm (n+2) [.tup ((cZ l).map .str),.tup ((cZ l).map .str)]=.ok (.bl true):=lA (by rw[bt,(eD _).length_eq];exact dB (dU (by omega))) λu b=>by
 obtain⟨z,_,rfl⟩:=cE.mp b;exact BS rfl
theorem YG(s:Sta A t bg bw D1 D2)(ht:t<=50):Ar [aY 5 A (.at 0),aY 5 A (.at 4)]=.ok (.bl true):=by
 show dH (vh.1 [.sh (aY 5 A (.at 0)),.sh (aY 5 A (.at 4)),.no,.no,.no,.no])=_;refine Uo s (λ{i j D name c3 c4} hi M P=>?_) λa b=>?_
 ·have b1:=P.b.b1;have b2:=P.b.b2;have b5:=P.b.b5;have b6:=P.b.b6;have b7:=P.b.b7;have hs:=qX (f:=Tr.str) (l:=D.aT) P.g.rk.sh (by omega);have tt:pM (.bl true)=.ok true:=rfl;simp only[ev,cW,s.m.LP (n:=3),dS,M,di,kS,cf,cg,P.m.Bw (n:=1),hs,GY];rw[lS (Bu:=[.sh (aY 3 A (.at j))]) (λ_=>true) Tr.str (λz=>.tup [.str z,.str ((D.aT.lookup z).getD "")]) (by rfl) (by rw[(eD _).length_eq,bt];exact dB (dU (by omega))) rfl (λ_ _=>rfl) ?hF]
  case hF=>
   intro z hz _;obtain⟨q,S,rfl⟩:=cE.mp ((eD _).mem_iff.mp hz);simp only[ev,cW,P.m.Bw (n:=1),dS,iU P.g.rk.nd q S,di,kS,o6]
  rw[show∀l:List Str,l.filter (λ_=>true)=l from λl=>oV.mpr λ_ _=>rfl];have I:fm 5 [.tup [.tup D.rows,.tup ((cZ (D.aT.map (·.1))).map λz=>.tup [.str z,.str ((D.aT.lookup z).getD "")])],.tup [.tup D.rows,.tup ((cZ (D.aT.map (·.1))).map λz=>.tup [.str z,.str ((D.aT.lookup z).getD "")])]]=.ok (.bl true):=by
   refine lA (by show 2<=eM;decide) λu r=>?_
   simp only[bE,cN,cO]at r;rcases r with rfl|rfl
   ·refine lA (dB (dU (by omega))) λu r=>?_
    obtain⟨us,rfl,hf,h10⟩:=P.g.fr u r;exact lA (dB (dU (by omega))) λw hw=>BS (dz.mp hf w hw)
   ·refine lA (by rw[bt,(eD _).length_eq,bt];exact dB (dU (by omega))) λu r=>?_
    obtain⟨z,_,rfl⟩:=cE.mp r;refine lA (by show 2<=eM;decide) λw hw=>?_
    simp only[bE,cN,cO]at hw;rcases hw with rfl|rfl<;>exact BS rfl
  have L:=I0 s.h hi P (by omega) λz hz=>iq (P.g.bs z hz);have has:=Mw s.h hi P (by omega) λz hz=>iq (P.g.is z hz);have so:=Al (ss:=D.cA) (by omega);have ss:pY (.lst (D.asked.map .str))=.ok (.lst ((cZ D.inv).map .str)):=by
   show(match oo (D.asked.map .str)with|some ss=>if ss.length<64 then Rs.ok (Tr.lst ((cZ (eN [] ss)).map .str))else .bad|none=>.bad)=_;rw[vc];show(if D.asked.length<64 then Rs.ok (Tr.lst ((cZ (eN [] D.asked)).map .str))else .bad)=_;rw[aV (by omega),C5 ((List.perm_ext_iff_of_nodup (Aw List.nodup_nil) P.g.nd).mpr λz=>?_)];rw[Av,<-fb (as:=D.inv),P.g.ia,fb];simp
  simp only[ev,cW,OW,cf,cg,s.h.dG (n:=4) (m:="rows") rfl,s.h.dG (n:=4) (m:="roles") rfl,s.h.dG (n:=4) (m:="barred") rfl,s.h.dG (n:=4) (m:="asked") rfl,Pl s.h hi P,Mu s.h hi P,P.m.T5 (n:=1) P.g.fr.tu,I,tt,dA,L,P.m.Yr (n:=1),so,rf (l:=D.cA) (n:=3) (by omega),has,P.m.T6 (n:=1),ss,rf (l:=D.inv) (n:=3) (by omega)];rw[lS (Bu:=[.sh (.str name),.sh (aY 3 A (.at j)),.sh (aY 5 A (.at 0))]) (λ_=>false) Tr.str (λ_=>.cx) (xs:=["door","voice","past"]) (by rfl) (by show 3<=eM;decide) rfl ?hC (λ_ _ e=>by cases e)]
  case hC=>
   intro z hz;have:z="door"\/z="voice"\/z="past":=by simpa using hz
   rcases this with rfl|rfl|rfl
   ·simp only[ev,cW,s.h.dG (n:=4) (m:="setting") rfl,Fx (cX:="door") (w:=D.d) s.h hi P rfl,P.m.a_d (n:=2),ne_str]
   ·simp only[ev,cW,s.h.dG (n:=4) (m:="setting") rfl,Fx (cX:="voice") (w:=D.v) s.h hi P rfl,P.m.a_v (n:=2),ne_str]
   ·simp only[ev,cW,s.h.dG (n:=4) (m:="setting") rfl,Fx (cX:="past") (w:=D.p) s.h hi P rfl,P.m.a_p (n:=2),ne_str]
  exact⟨_,_,rfl⟩
 ·have hp:bg.length<64:=by have:=s.pl;have h2:=cT List.length s.pp;rw[bt]at h2;omega
  have sh:∀p∈bg,p.1.length<=1000:=λp hp=>iq (s.p6 p.1 (by rw[<-s.pp];exact gf hp));have s1:=qX (f:=Tr.bl) sh hp;have s2:=Al (ss:=bw) (by have:=s.pl;omega);rw[s.pp]at s1;have s3:=qX (f:=λj=>aY 3 A (.at j)) (l:=[("hall",7),("yard",27)]) (λp hp=>(by decide+kernel:∀p∈([("hall",7),("yard",27)]:List (Str×Nat)),p.1.length<=1000) p hp) (by decide);have s4:nM [.bW (dP (λj=>aY 3 A (.at j)) [("hall",16),("yard",36)])]=.ok (.lst ((cZ ["hall","yard"]).map .str)):=qX (f:=λj=>aY 3 A (.at j)) (l:=[("hall",16),("yard",36)]) (λp hp=>(by decide+kernel:∀p∈([("hall",16),("yard",36)]:List (Str×Nat)),p.1.length<=1000) p hp) (by decide);have e1:rP [aY 5 A (.at 0)]=.ok (.tup ((cZ bw).map .str)):=by
   show dH (jr.1 [.sh (aY 5 A (.at 0))])=_;unfold jr;simp only[ev,cW,s.h.OP,s1,OW]
  have e2:uB [aY 5 A (.at 0)]=.ok (.tup ((cZ ["hall","yard"]).map .str)):=by
   show dH (kr.1 [.sh (aY 5 A (.at 0))])=_;unfold kr;simp only[ev,cW,s.h.T2,s3,OW]
   rfl
  have I:fm 5 [.tup [.tup ((cZ ["hall","yard"]).map .str),.tup ((cZ bw).map .str)],.tup [.tup ((cZ ["hall","yard"]).map .str),.tup ((cZ bw).map .str)]]=.ok (.bl true):=by
   refine lA (by show 2<=eM;decide) λu r=>?_
   simp only[bE,cN,cO]at r;rcases r with rfl|rfl
   ·exact rf (n:=2) (by decide)
   ·exact rf (n:=2) (by have:=s.pl;omega)
  simp only[ev,cW,OW,GY,cf,cg,s.m.LP (n:=3),s.m.T8 (n:=3),s4,s2,s.h.dG (n:=4) (m:="rooms") rfl,s.h.dG (n:=4) (m:="people") rfl,e1,e2,I]
end
def mix(c p m:Int):Int:=(c*48271 % p)*(c*48271 % p+7) % p % m
def BU{c p m:Int}(hm:0<m):0<=mix c p m/\mix c p m<m:=⟨xa _ (by omega),Int.emod_lt_of_pos _ hm⟩
def Up{i j:Int}(h:xR i j):HL (.int i) (.int j)=.ok (.int (i*j)):=aV h
def Uq{i j:Int}(h:0<j):HK (.int i) (.int j)=.ok (.int (i % j)):=aV h
def YH(c p m:Int)(hp:0<p)(q:p<=1048576)(hm:0<m):G5 [.int c,.int p,.int m]=.ok (.int (mix c p m)):=by
 have r:0<=c*48271 % p:=xa _ (by omega);have I:c*48271 % p<p:=Int.emod_lt_of_pos _ hp;show dH (wx.1 [.sh (.int c),.sh (.int p),.sh (.int m),.no])=_;unfold wx;have b:HL (.int c) (.int 48271)=.ok (.int (c*48271)):=aV (.inr ⟨by decide,by decide⟩);have g:∀a,HK (.int a) (.int p)=.ok (.int (a % p)):=λa=>aV hp;have l:HL (.int (c*48271 % p)) (.int (c*48271 % p+7))=.ok (.int ((c*48271 % p)*(c*48271 % p+7))):=aV (.inl ⟨by omega,by omega⟩);have n:∀a,HK (.int a) (.int m)=.ok (.int (a % m)):=λa=>aV hm;simp only[ev,cW,b,g,l,n,cf,cg,mix]
def Ur(ns:List Int)(k:Int)(h:0<=k):∃c,DP [.vn ns,.int k]=.ok (.int c):=by
 show∃c,dH (Cv (UO (.ok (decide (k<(ns.length:Int)))) (Ka ((kS (L2.uV ns k)).bind λn=>.ok (.int n))) (.ok (.nx [.sh (.vn ns),.sh (.int k)]))) λY=>Ka (Rs.ok (.int 0)))=_;by_cases b:k<(ns.length:Int)
 ·have g:k.toNat<ns.length:=by omega
  have e:L2.uV ns k=some (ns[k.toNat]):=by
   have q:=AJ (xs:=ns) (j:=k.toNat) (bV g);rw[Int.toNat_of_nonneg h]at q;exact q
  rw[jj b,e];exact⟨_,rfl⟩
 ·rw[fu b];exact⟨0,rfl⟩
def My{l:List Tr}{k:Int}(h0:0<=k)(h1:k<l.length):∃t∈l,jX (.tup l) (.int k)=.ok t/\jX (.lst l) (.int k)=.ok t:=by
 have b:k.toNat<l.length:=by omega
 have q:=AJ (xs:=l) (j:=k.toNat) (bV b);rw[Int.toNat_of_nonneg h0]at q;exact⟨l[k.toNat],kJ _,by show kS (L2.uV l k)=_;rw[q];rfl,by show kS (L2.uV l k)=_;rw[q];rfl⟩
def YI{l:List Str}{k:Int}(h0:0<=k)(q:k<l.length):∃z∈l,jX (.tup (l.map .str)) (.int k)=.ok (.str z):=by
 obtain⟨t,b,e,_⟩:=My (l:=l.map .str) h0 (by rw[bt];exact q);obtain⟨z,hz,rfl⟩:=cE.mp b;exact⟨z,hz,e⟩
noncomputable abbrev Pm:List Str:=["ann","bo","cy","dee","ed"]
noncomputable abbrev three:List Str:=["ann","bo","zed"]
noncomputable abbrev rms:List Str:=["hall","hall","hall","yard"]
noncomputable abbrev sets:List Tr:=[.tup [.str "door",.str "open"],.tup [.str "door",.str "asked"],.tup [.str "voice",.str "all"],.tup [.str "voice",.str "some"],.tup [.str "past",.str "shown"],.tup [.str "past",.str "hidden"]]
inductive jU(ws:List Str):List Tr->Prop
 |Pn {aZ:Str}:("come":Str)∈ws->aZ∈six->jU ws [.str "come",.str aZ]
 |one {c7 aZ c6:Str}:(c7="found"\/c7="enter"\/c7="leave")->c7∈ws->aZ∈six->(c6="hall"\/c6="yard")->jU ws [.str c7,.str aZ,.str c6]
 |arr {aZ c6 cX val:Str}:("arrange":Str)∈ws->aZ∈six->(c6="hall"\/c6="yard")->(cX="door"\/cX="voice"\/cX="past")->jU ws [.str "arrange",.str aZ,.str c6,.str cX,.str val]
 |role {aZ c6 d4 r:Str}:("role":Str)∈ws->aZ∈six->(c6="hall"\/c6="yard")->d4∈six->r∈gK->jU ws [.str "role",.str aZ,.str c6,.str d4,.str r]
 |two {c7 aZ c6 d4:Str}:(c7="ask"\/c7="out"\/c7="bar"\/c7="unbar")->c7∈ws->aZ∈six->(c6="hall"\/c6="yard")->d4∈six->jU ws [.str c7,.str aZ,.str c6,.str d4]
noncomputable abbrev ten:List Str:=["come","found","enter","leave","arrange","role","ask","out","bar","unbar"]
def Us{b:Bool}{x y:Rs Out}{K:bT->Rs Out}{P:Rs Tr->Prop}(h:∀r,r=x\/r=y->P (dH (Cv r K))):P (dH (Cv (UO (.ok b) x y) K)):=by
 cases b
 ·exact h y (.inr rfl)
 ·exact h x (.inl rfl)
theorem Ut{ws:List Str}(q:∀w∈ws,w∈ten)(hl:0<ws.length)(c:Int)(T:Tr):∃ts,DU [.int c,T,.tup (ws.map .str)]=.ok (.tup ts)/\jU ws ts:=by
 show∃ts,dH (uJ.1 [.sh (.int c),.sh T,.sh (.tup (ws.map .str)),.no,.no,.no,.no,.no,.no,.no,.no,.no])=.ok (.tup ts)/\_;unfold uJ;have g:=λp m (hp:0<p) (Nl:p<=1048576) (hm:0<m)=>YH c p m hp Nl hm;simp only[ev,cW,g 9931 20 (by decide) (by decide) (by decide),cf,cg];refine Us (P:=λr=>∃ts,r=.ok (.tup ts)/\jU ws ts) λr h=>?_
 obtain⟨l,h0,S,rfl⟩:∃l:List Str,(0:Int)<l.length/\(∀z∈l,z∈six)/\r=.ok (.nx [.sh (.int c),.sh T,.sh (.tup (ws.map .str)),.sh (.tup (l.map .str)),.no,.no,.no,.no,.no,.no,.no,.no]):=by
  rcases h with rfl|rfl
  ·exact⟨three,by decide,by decide+kernel,rfl⟩
  ·exact⟨Pm,by decide,by decide+kernel,rfl⟩
 have hm:(0:Int)<ws.length:=by omega
 have k4:∀l:List Str,((l.map Tr.str).length:Int)=l.length:=λl=>by rw[bt]
 have n:=λ{l:List Str} {p m:Int} (hm:0<m) (hl:m=l.length)=>YI (l:=l) (BU (c:=c) (p:=p) hm).1 (hl▸(BU hm).2);obtain⟨c6,hr,er⟩:=n (l:=rms) (p:=9907) (m:=4) (by decide) rfl;obtain⟨c7,hw,ew⟩:=n (l:=ws) (p:=9901) (m:=ws.length) hm rfl;obtain⟨aZ,g3,e3⟩:=n (l:=l) (p:=9929) (m:=l.length) h0 rfl;obtain⟨d4,g4,e4⟩:=n (l:=l) (p:=9923) (m:=l.length) h0 rfl;obtain⟨rl,M,e7⟩:=n (l:=gK) (p:=9883) (m:=4) (by decide) rfl;obtain⟨st,cD,_,e8⟩:=My (l:=sets) (BU (c:=c) (p:=9887) (m:=6) (by decide)).1 (by exact(BU (by decide)).2);have L:c6="hall"\/c6="yard":=by simpa using hr
 have I:=S aZ g3;have h4:=S d4 g4;have QC:=q c7 hw;simp only[bE,cN,cO]at QC cD;simp only[bL,mG]at er e7;have ni:D4 (.str "arrange") (.tup [.str "come",.str "found",.str "enter",.str "leave"])=.ok (.bl false)/\D4 (.str "role") (.tup [.str "come",.str "found",.str "enter",.str "leave"])=.ok (.bl false):=⟨rfl,rfl⟩;have l3:∀a b c,zb (.ok [a,b,c])=.ok (.lst [a,b,c]):=λ_ _ _=>rfl;have a3:xQ (.lst [.tup [.str "door",.str "open"],.tup [.str "door",.str "asked"],.tup [.str "voice",.str "all"]]) (.lst [.tup [.str "voice",.str "some"],.tup [.str "past",.str "shown"],.tup [.str "past",.str "hidden"]])=.ok (.lst sets):=rfl;simp only[ev,cW,k4,g 9929 l.length (by decide) (by decide) h0,g 9923 l.length (by decide) (by decide) h0,g 9907 4 (by decide) (by decide) (by decide),g 9901 ws.length (by decide) (by decide) hm,e3,e4,er,ew,cf,cg];rcases QC with rfl|rfl|rfl|rfl|rfl|rfl|rfl|rfl|rfl|rfl
 all_goals first
  |exact⟨_,rfl,.Pn hw I⟩
  |exact⟨_,rfl,.one (by simp) hw I L⟩
  |exact⟨_,rfl,.two (by simp) hw I L h4⟩
  |skip
 all_goals simp only[ev,cW,sn,String.reduceBEq,bX,ni,g 9887 6 (by decide) (by decide) (by decide),g 9883 4 (by decide) (by decide) (by decide),e7,l3,a3,e8,cf,cg]
 all_goals first
  |exact⟨_,rfl,.role hw I L h4 M⟩
  |(rcases cD with rfl|rfl|rfl|rfl|rfl|rfl<;>exact⟨_,rfl,.arr hw I L (by simp)⟩)
noncomputable abbrev Fy:List (Str×Str):=[("ann","owner"),("bo","guest"),("cy","guest")]
noncomputable abbrev Mz:List (Str×Int):=[("ann",1),("bo",2),("cy",3)]
noncomputable abbrev MA:List nQ:=[("ann",1,1,none),("bo",1,2,none),("cy",1,3,none)]
noncomputable abbrev MB:List Tr:=[.tup [.int 1,.str "ann",.str "found"],.tup [.int 2,.str "bo",.str "enter"],.tup [.int 3,.str "cy",.str "enter"]]
abbrev Fz:List (Str×Str):=[("dee","owner")]
abbrev MC:List (Str×Int):=[("dee",1)]
abbrev MD:List nQ:=[("dee",1,1,none)]
noncomputable abbrev ME:List Tr:=[.tup [.int 1,.str "dee",.str "found"]]
noncomputable abbrev D0:List (Str×Bool):=[("ann",true),("bo",true),("cy",true),("dee",true),("ed",true)]
def D10:Dat:=⟨MB,Fy,Mz,λz=>(Mz.lookup z).getD 0,MA,[],[],[],"open","all","shown",19,20,26⟩
def D20:Dat:=⟨ME,Fz,MC,λz=>(MC.lookup z).getD 0,MD,[],[],[],"open","all","shown",39,40,42⟩
noncomputable def B0:Ab:=[.ins "Hall" [("persons",.at 1),("places",.at 2),("hands",.at 3)],.bW [],.bW [],.lst []]
def B1:Ab:=B0++[.bW (dP id [("people",.at 5),("rooms",.at 6)]),.lst (Pm.map .str),.bW []]
def A0:Ab:=[.ins "Hall" [("persons",.at 1),("places",.at 2),("hands",.at 3)],.bW (dP .bl D0),.bW (dP .at [("hall",7),("yard",27)]),.lst [],.bW (dP id [("people",.at 5),("rooms",.at 6)]),.lst (Pm.map .str),.bW (dP .at [("hall",16),("yard",36)]),
 .ins "Room" (roomF 7),.lst MB,.bW (dP .str Fy),.bW (dP .int Mz),.bW (dP .str (D7 "open" "all" "shown")),.bW [],.bW [],.bW [],.bW [],
 .bW (dP id (zl 16 19 20 26 "open" "all" "shown")),.lst MB,.bW (dP .str Fy),.lst (MA.map vW),.lst [],.lst [],.lst [],.lst [.str "ann"],.lst [],.lst [.str "ann"],.lst [],
 .ins "Room" (roomF 27),.lst ME,.bW (dP .str Fz),.bW (dP .int MC),.bW (dP .str (D7 "open" "all" "shown")),.bW [],.bW [],.bW [],.bW [],
 .bW (dP id (zl 36 39 40 42 "open" "all" "shown")),.lst ME,.bW (dP .str Fz),.lst (MD.map vW),.lst [],.lst [],.lst []]
def Uu:yk "Hall" oA (.ok [] [])=.ok (.at 0) B0:=by kernel_rfl
def Po:Ap [.tup [.str "ann",.str "bo",.str "cy",.str "dee",.str "ed"]] B0=.ok (.at 4) B1:=by kernel_rfl
def Uv:DY [.at 0,.at 4] B1=.ok .cx A0:=by kernel_rfl
def rk0(h:(aT.all λp=>gK.contains p.2&&(decide (p.1.length<=1000)&&(ents.lookup p.1==some ((ents.lookup p.1).getD 0))))=true)(n:(aT.map (·.1)).Nodup)(u:(aT.map λp=>(ents.lookup p.1).getD 0).Pairwise (· <·)):dr aT ents λz=>(ents.lookup z).getD 0:=by
 have q:=λp hp=>dz.mp h p hp;simp only[bU,iy,ff]at q;exact⟨λp hp=>fb.mp (q p hp).1,n,λp hp=>(q p hp).2.1,λp hp=>(q p hp).2.2,u⟩
theorem rows0(h:(rows.all λt=>match t with|.tup us=>us.all xV&&decide (us.length<=10)|_=>false)=true):jf rows:=λt b=>by
 have q:=dz.mp h t b;cases t with
 |tup us=>
  have q:(us.all xV&&decide (us.length<=10))=true:=q;rw[bU,iy]at q;exact⟨us,rfl,q⟩
 |_=>cases q
def st0:St A0 0:=⟨D0,Pm,D10,D20,⟨rfl,rfl,rfl⟩,⟨rfl,rfl,rfl⟩,rfl,by decide,by decide+kernel,
 ⟨⟨rfl,rfl,rfl,rfl,rfl,rfl,rfl⟩,⟨rfl,rfl,rfl,rfl,rfl,rfl,by decide⟩,⟨rows0 rfl,rk0 (by decide+kernel) (by decide+kernel) (by decide+kernel),rfl,by decide+kernel,.inr (by decide+kernel),λ_=>rfl,by decide+kernel,by decide+kernel,by decide+kernel,by decide+kernel⟩,⟨by decide,by decide,by decide,by decide,by decide,by decide,by decide⟩,by decide,by decide⟩,
 ⟨⟨rfl,rfl,rfl,rfl,rfl,rfl,rfl⟩,⟨rfl,rfl,rfl,rfl,rfl,rfl,by decide⟩,⟨rows0 rfl,rk0 (by decide+kernel) (by decide+kernel) (by decide+kernel),rfl,by decide+kernel,.inr (by decide+kernel),λ_=>rfl,by decide+kernel,by decide+kernel,by decide+kernel,by decide+kernel⟩,⟨by decide,by decide,by decide,by decide,by decide,by decide,by decide⟩,by decide,by decide⟩,by unfold rS;decide,by unfold rS;decide,by unfold Apart;decide⟩
def I_(h:jU bw rows):mT rows=true:=by cases h<;>rfl
theorem Ha{T:oH}{G:bT->Ab->Rz Out}{n:Nat}(I:Nat->bT->Ab->Prop)(h:∀k Y A,k<n->I k Y A->∃rA,T (.int (0+(k:Nat))) Y=.ok rA/\∃q A2,G rA A=.ok (.nx q) A2/\I (k+1) q A2):∀(m k:Nat) (Y:bT) (A:Ab),k+m=n->I k Y A->∃iu A',sf T G ((List.range' k m).map λk=>Tr.int (0+(k:Nat))) Y A=.ok (.nx iu) A'/\I n iu A'
 |0,k,Y,A,e,hi=>⟨Y,A,rfl,by rw[<-e];exact hi⟩
 |m+1,k,Y,A,e,hi=>by
  obtain⟨rA,b,q,A2,g,h2⟩:=h k Y A (by omega) hi;obtain⟨iu,A',l,r⟩:=Ha I h m (k+1) q A2 (by omega) h2;refine⟨iu,A',?_,r⟩;rw[List.range'_succ,bL];simp only[GY,b,gu,cW,g];exact l
def MF{n:Nat}{T:oH}{G K:bT->Ab->Rz Out}{NH:bT}{A0:Ab}(I:Nat->bT->Ab->Prop)(h0:I 0 NH A0)(h:∀k Y A,k<n->I k Y A->∃rA,T (.int (0+(k:Nat))) Y=.ok rA/\∃iw A2,G rA A=.ok (.nx iw) A2/\I (k+1) iw A2)(hK:∀Y A,I n Y A->x6 (K Y A)=.ok (.bl true)):
  x6 (EH (sf T G ((List.range' 0 n).map λk=>Tr.int (0+(k:Nat))) NH A0) K)=.ok (.bl true):=by
 obtain⟨b,A',e,q⟩:=Ha I h n 0 NH A0 (by omega) h0;rw[show sf T G ((List.range' 0 n).map λk=>Tr.int (0+(k:Nat))) NH A0=_ from e];exact hK b A' q
def Pp(j:Int):F4 (.ok [.int j])=if-4611686018427387904<=j/\j<4611686018427387904 then .ok (Cw 0 j.toNat)else .bad:=rfl
def YJ:F4 (.ok [.int 24])=.ok ((List.range' 0 24).map λk=>Tr.int (0+(k:Nat))):=by rw[Pp,aV (by decide)];show Rs.ok (Cw 0 24)=_;unfold Cw;rw[List.range_eq_range']
theorem St.push {A:Ab}{t:Nat}{o:Ao}(h:St A t):St (A++[o]) (t+1):=by
 obtain⟨bg,bw,D1,D2,s⟩:=h;have b:=s.pl;have e:∀k∈([]:List Nat),6<k:=λ_ h=>(nomatch h);exact⟨bg,bw,D1,D2,cw.kp s.h (jJ.push (S:=[])) e,fN.kp s.m (jJ.push (S:=[])) e,s.pp,by omega,s.p6,s.r1.kp (jJ.push (S:=[])) λ_ h=>(nomatch h),s.r2.kp (jJ.push (S:=[])) λ_ h=>(nomatch h),s.c1,s.c2,s.ap⟩
def jU.mono {ws vs:List Str}{ts:List Tr}(h:jU ws ts)(q:∀w∈ws,w∈vs):jU vs ts:=by
 cases h with
 |Pn a b=>exact .Pn (q _ a) b
 |one a b c d=>exact .one a (q _ b) c d
 |arr a b c d=>exact .arr (q _ a) b c d
 |role a b c d e=>exact .role (q _ a) b c d e
 |two a b c d e=>exact .two a (q _ b) c d e
noncomputable abbrev ws:List Str:=["arrange","arrange","arrange","enter","leave"]
noncomputable abbrev wr:List Str:=["role","enter","arrange","arrange","arrange","enter","leave"]
theorem step{ts:List Tr}(h:St A aN)(hd:jU wr ts)(ht:aN<=1000):∃A',jH [.at 0,.at 4,.tup ts] A=.ok (.bl true) A'/\St A' (aN+1):=by
 cases hd with
 |Pn q _=>exact absurd q (by decide+kernel)
 |@one c7 aZ c6 hw q b g=>
  rcases hw with rfl|rfl|rfl
  ·exact absurd q (by decide+kernel)
  ·exact h.go (f:=λc6=>[.str "enter",.str aZ,.str c6]) (λP l n hi I hp=>Pg P l n hi I hp b ht) g
  ·exact h.go (f:=λc6=>[.str "leave",.str aZ,.str c6]) (λP l n hi I hp=>Ph P l n hi I hp b ht) g
 |@arr aZ c6 cX val q b g hw=>exact h.go (f:=λc6=>[.str "arrange",.str aZ,.str c6,.str cX,.str val]) (λP l n hi I hp=>YE P l n hi I hp b hw ht) g
 |@role aZ c6 d4 r q b g L M=>exact h.go (f:=λc6=>[.str "role",.str aZ,.str c6,.str d4,.str r]) (λP l n hi I hp=>Um P l n hi I hp b L M ht) g
 |@two c7 aZ c6 d4 hw q b g L=>
  rcases hw with rfl|rfl|rfl|rfl
  ·exact absurd q (by decide+kernel)
  ·exact absurd q (by decide+kernel)
  ·exact absurd q (by decide+kernel)
  ·exact absurd q (by decide+kernel)
def LI(ns:List Int)(k:Nat)(Y:bT)(A:Ab):Prop:=St A (k+4)/\∃a b c,Y=[.sh (.vn ns),.sh (.at 0),.sh (.at 4),.sh c,.sh a,.sh (.tup (ws.map .str)),b]
theorem MG(ns:List Int):yS [.vn ns]=.ok (.bl true):=by
 unfold yS CM;rw[aV ⟨rfl,rfl⟩];show x6 (G6.1 [.sh (.vn ns),.no,.no,.no,.no,.no,.no] [])=_;unfold G6;have S:∀A,r_ (.ok (.tup [.str "ann",.str "bo",.str "cy",.str "dee",.str "ed"])) A=.ok (.tup [.str "ann",.str "bo",.str "cy",.str "dee",.str "ed"]) A:=λA=>rfl;have n:AS (.ok (ws.map .str))=.ok (.tup (ws.map .str)):=rfl;have r:∀A,r_ (.ok (.tup (ws.map .str))) A=.ok (.tup (ws.map .str)) A:=λA=>rfl;have I:∀A,S_ (S8 (.ok (.bl true) A))=.ok false A:=λ_=>rfl;have l2:∀a b,zb (.ok [a,b])=.ok (.lst [a,b]):=λ_ _=>rfl;have l1:∀a,zb (.ok [a])=.ok (.lst [a]):=λ_=>rfl;simp only[bL,mG]at n r;have q:∀A,uZ (.ok (.lst [.tup [.str "role",.str "ann",.str "hall",.str "bo",.str "keeper"],.tup [.str "enter",.str "ed",.str "hall"]])) A=.ok (.at A.length) (A++[.lst [.tup [.str "role",.str "ann",.str "hall",.str "bo",.str "keeper"],.tup [.str "enter",.str "ed",.str "hall"]]]):=λ_=>rfl;have t5:aY 5 (A0++[.lst [.tup [.str "role",.str "ann",.str "hall",.str "bo",.str "keeper"],.tup [.str "enter",.str "ed",.str "hall"]]]) (.at A0.length)=.lst [.tup [.str "role",.str "ann",.str "hall",.str "bo",.str "keeper"],.tup [.str "enter",.str "ed",.str "hall"]]:=by rw[kX lR];rfl
 have al:∀a b c,GP (.lst [a,b]) (.lst [c])=.ok (.lst [a,b,c]):=λ_ _ _=>rfl;have lw:LF (.ok (.lst [.tup [.str "role",.str "ann",.str "hall",.str "bo",.str "keeper"],.tup [.str "enter",.str "ed",.str "hall"],.tup [.str "role",.str "bo",.str "hall",.str "cy",.str "speaker"]]))=.ok [.tup [.str "role",.str "ann",.str "hall",.str "bo",.str "keeper"],.tup [.str "enter",.str "ed",.str "hall"],.tup [.str "role",.str "bo",.str "hall",.str "cy",.str "speaker"]]:=rfl;obtain⟨A1,b1,s1⟩:=step (ts:=[.str "role",.str "ann",.str "hall",.str "bo",.str "keeper"]) (st0.push (o:=.lst [.tup [.str "role",.str "ann",.str "hall",.str "bo",.str "keeper"],.tup [.str "enter",.str "ed",.str "hall"]])) (.role (by decide+kernel) (by decide+kernel) (.inl rfl) (by decide+kernel) (by decide+kernel)) (by decide);obtain⟨A2,b2,s2⟩:=step (ts:=[.str "enter",.str "ed",.str "hall"]) s1 (.one (.inr (.inl rfl)) (by decide+kernel) (by decide+kernel) (.inl rfl)) (by decide);obtain⟨A3,b3,s3⟩:=step (ts:=[.str "role",.str "bo",.str "hall",.str "cy",.str "speaker"]) s2 (.role (by decide+kernel) (by decide+kernel) (.inl rfl) (by decide+kernel) (by decide+kernel)) (by decide);simp only[ev,cW,gu,gR,Uu,S,Po,Uv,l1,l2,q,t5,al,lw,I,b1,b2,b3,n,r,cf,cg,YJ,GY];refine MF (LI ns) ⟨s3,_,.no,_,rfl⟩ (λk Y A hk g=>?_) λY A g=>?_
 ·obtain⟨hs,a,b,L,rfl⟩:=g;obtain⟨c,ec⟩:=Ur ns ((0+(k:Nat):Int) % 11) (xa _ (by decide));obtain⟨ts,M,hd⟩:=Ut (ws:=ws) (by decide+kernel) (by decide) (c+41*(0+(k:Nat))) (aY 5 A (.at 4));obtain⟨A',eb,l⟩:=step hs (hd.mono (by decide+kernel)) (by omega);have m1:HK (.int (0+(k:Nat))) (.int 11)=.ok (.int ((0+(k:Nat):Int) % 11)):=Uq (by decide);have m2:HL (.int 41) (.int (0+(k:Nat)))=.ok (.int (41*(0+(k:Nat)))):=Up (.inl ⟨by decide,by decide⟩);have fz:∀A,r_ (.ok (.tup ts)) A=.ok (.tup ts) A:=λA=>aV (I_ hd);simp only[bL,mG]at M⊢;refine⟨_,rfl,[.sh (.vn ns),.sh (.at 0),.sh (.at 4),.sh L,.sh (.tup ts),.sh (.tup (ws.map .str)),.sh (.int (0+(k:Nat)))],A',?_,l,_,_,_,rfl⟩;simp only[ev,cW,gu,gR,m1,ec,m2,M,fz,cf,cg,eb,I]
  rfl
 ·obtain⟨⟨bg,bw,D1,D2,s⟩,a,b,L,rfl⟩:=g;simp only[ev,cW,gu,YG s (by decide)]
  rfl
def O:U2:=⟨["ValueError","all","bool","dict","int","isinstance","len","list","max","min","range","set","sorted","str","tuple","zip"],["Barred","Hall","Known","NoHand","NoLine","NoPerson","NoRight","NoRoom","NoRow","NotAsked","NotIn","Room","TalkError"],["Hall","Room"],[("Room",["banned","chosen","entries","invited","log","ranks","read_marks","said_by_key"]),("Hall",["hands","persons","places"])],[iJ],["Known","NoPerson","NoRoom","NotIn","NotAsked","Barred","NoRight","NoRow","NoHand","NoLine"],[.inl "Barred",.inl "Known",.inl "NoHand",.inl "NoLine",.inl "NoPerson",.inl "NoRight",.inl "NoRoom",.inl "NoRow",.inl "NotAsked",.inl "NotIn",.inr "ValueError"],["TalkError"],["Barred","Known","NoPerson","NoRight","NoRoom","NotAsked","NotIn"]⟩
set_option maxHeartbeats 8000000 in
theorem all_mk{l:PySem.W.OpenLaw}{w:World}{K:Frag}{h:Heap}{mg:Str->Option Value}{fa:Addr}(X:K.In h)(G:h.Ns mainGlobals mg)(hfa:mg "law"=some (.ref fa))
  (c1:DS.map (Df.fd K)=DS.map (λd=>d.re (d.fd K))) (c2:DS.all (Df.Qv K)=true) (c3:O.Qv K=true)
  {y2:Addr} {MH:Nat} {MI:Array (Option Value)} {Ja Jb Jc Jd:Tok} (Hb:PySem.W.nsIn K mainGlobals "ROLES"=some (some (.ref y2))) (Hc:K.lookup y2=some ⟨.type "tuple",none,.seq #[.str "guest" Ja,.str "speaker" Jb,.str "keeper" Jc,.str "owner" Jd] MH,MI⟩)
  {q:Addr} {dn1:Nat} {abo abp abq:Tok} {YK YL YM:Addr} (e1:PySem.W.nsIn K mainGlobals "SETTINGS"=some (some (.ref q))) (d1:K.lookup q=some ⟨.type "dict",none,.dict #[⟨PyData.keyHash w.params "door",.str "door" abo,.ref YK⟩,⟨PyData.keyHash w.params "voice",.str "voice" abp,.ref YL⟩,⟨PyData.keyHash w.params "past",.str "past" abq,.ref YM⟩] dn1,#[]⟩) (s1:(q==sysModules)=false)
  {YN:Option Addr} {YO:Nat} {YQ:Array (Option Value)} {Uw Ux:Tok} (YR:K.lookup YK=some ⟨.type "tuple",YN,.seq #[.str "open" Uw,.str "asked" Ux] YO,YQ⟩)
  {YS:Option Addr} {YT:Nat} {YU:Array (Option Value)} {Uy Uz:Tok} (YV:K.lookup YL=some ⟨.type "tuple",YS,.seq #[.str "all" Uy,.str "some" Uz] YT,YU⟩)
  {YW:Option Addr} {YX:Array (Option Value)} {UA UB:Tok} (YY:K.lookup YM=some ⟨.type "tuple",YW,.seq #[.str "shown" UA,.str "hidden" UB] aN,YX⟩)
  :∃fd:FuncData,(∀(s:Shared) (v:Value),BindsTo s fd ⟨[v],[]⟩ [("_law_script",v)])/\∀base:Heap,K.In base->base.Ns mainGlobals mg->d_ l.prog w K mg base mq 10 fa fd ["_law_script"] (spT K yS):=by
 have o:=O.ok X G c3;have T:Qw K w mg:=⟨λi d e=>LB X G c1 c2 d (dZ e),o.bl rfl,o.bl rfl,o.bl rfl,o.bl rfl,o.bl rfl,o.bl rfl,o.bl rfl,o.bl rfl,o.bl rfl,o.bl rfl,o.bl rfl,o.bl rfl,o.bl rfl,o.bl rfl,o.bl rfl,o.bl rfl,o.bn 0 rfl,o.mk_ rfl,o.mk_ rfl,⟨⟨.ref y2,_,W.mg_of X G Hb,rfl,λH=>.tup (vs:=[.str "guest",.str "speaker",.str "keeper",.str "owner"]) (.inr ⟨_,_,_,Hc,rfl,rfl,by show 4<=sizeLine;decide,(.cons ⟨_,rfl⟩ (.cons ⟨_,rfl⟩ (.cons ⟨_,rfl⟩ (.cons ⟨_,rfl⟩ .nil))))⟩) (.cons (.str _ (by decide)) (.cons (.str _ (by decide)) (.cons (.str _ (by decide)) (.cons (.str _ (by decide)) .nil))))⟩,⟨_,_,W.mg_of X G Hb,Hc,rfl,rfl⟩⟩,o.fl (c:="Room") rfl rfl,o.fl (c:="Room") rfl rfl,o.fl (c:="Room") rfl rfl,o.fl (c:="Hall") rfl rfl,o.fl (c:="Room") rfl rfl,o.fl (c:="Room") rfl rfl,o.fl (c:="Hall") rfl rfl,o.fl (c:="Hall") rfl rfl,o.fl (c:="Room") rfl rfl,o.fl (c:="Room") rfl rfl,o.fl (c:="Room") rfl rfl,EG.gd (bB:=[("door",.tup [.str "open",.str "asked"]),("voice",.tup [.str "all",.str "some"]),("past",.tup [.str "shown",.str "hidden"])]) (.cons (v:=.ref _) rfl (λH=>.tup (vs:=[.str "open",.str "asked"]) (.inr ⟨_,_,_,YR,rfl,rfl,by show 2<=sizeLine;decide,(.cons ⟨_,rfl⟩ (.cons ⟨_,rfl⟩ .nil))⟩) (.cons (.str _ (by decide)) (.cons (.str _ (by decide)) .nil))) (.cons (v:=.ref _) rfl (λH=>.tup (vs:=[.str "all",.str "some"]) (.inr ⟨_,_,_,YV,rfl,rfl,by show 2<=sizeLine;decide,(.cons ⟨_,rfl⟩ (.cons ⟨_,rfl⟩ .nil))⟩) (.cons (.str _ (by decide)) (.cons (.str _ (by decide)) .nil))) (.cons (v:=.ref _) rfl (λH=>.tup (vs:=[.str "shown",.str "hidden"]) (.inr ⟨_,_,_,YY,rfl,rfl,by show 2<=sizeLine;decide,(.cons ⟨_,rfl⟩ (.cons ⟨_,rfl⟩ .nil))⟩) (.cons (.str _ (by decide)) (.cons (.str _ (by decide)) .nil))) .nil))) (W.mg_of X G e1) d1 s1 (show List.Nodup (["door","voice","past"]:List Str) by decide),EG.gk (bB:=[("door",.tup [.str "open",.str "asked"]),("voice",.tup [.str "all",.str "some"]),("past",.tup [.str "shown",.str "hidden"])]) (.cons (v:=.ref _) rfl (λH=>.tup (vs:=[.str "open",.str "asked"]) (.inr ⟨_,_,_,YR,rfl,rfl,by show 2<=sizeLine;decide,(.cons ⟨_,rfl⟩ (.cons ⟨_,rfl⟩ .nil))⟩) (.cons (.str _ (by decide)) (.cons (.str _ (by decide)) .nil))) (.cons (v:=.ref _) rfl (λH=>.tup (vs:=[.str "all",.str "some"]) (.inr ⟨_,_,_,YV,rfl,rfl,by show 2<=sizeLine;decide,(.cons ⟨_,rfl⟩ (.cons ⟨_,rfl⟩ .nil))⟩) (.cons (.str _ (by decide)) (.cons (.str _ (by decide)) .nil))) (.cons (v:=.ref _) rfl (λH=>.tup (vs:=[.str "shown",.str "hidden"]) (.inr ⟨_,_,_,YY,rfl,rfl,by show 2<=sizeLine;decide,(.cons ⟨_,rfl⟩ (.cons ⟨_,rfl⟩ .nil))⟩) (.cons (.str _ (by decide)) (.cons (.str _ (by decide)) .nil))) .nil))) (W.mg_of X G e1) d1 s1 (show List.Nodup (["door","voice","past"]:List Str) by decide) (show∀z∈(["door","voice","past"]:List Str),z.length<=cY by decide),o.xc 0 rfl,o.xc 1 rfl,o.xc 2 rfl,o.xc 3 rfl,o.xc 4 rfl,o.xc 5 rfl,o.xc 6 rfl,o.xc 7 rfl,o.xc 8 rfl,o.xc 9 rfl,o.xc 10 rfl,o.G1 rfl,o.G1 rfl,o.G1 rfl,o.G1 rfl,o.G1 rfl,o.G1 rfl,o.G1 rfl,o.G1 rfl,o.G1 rfl,o.G1 rfl,o.ca rfl rfl,o.er rfl rfl,o.er rfl rfl,o.er rfl rfl,o.er rfl rfl,o.er rfl rfl,o.er rfl rfl,o.er rfl rfl⟩;cases hfa.symm.trans ((T.d 56 rfl:DC.Ok K mg).m0 rfl);obtain⟨g,od,kV,doc,pm,an,fO,ct,JL,b,_,_⟩:=(T.d 56 rfl:DC.Ok K mg).fn.ex;exact⟨_,λs v=>by rw[b];exact .of_eq rfl,λbase _ _=>(Yt T).ok⟩
def UC{K:Frag}{H:Hp}{Q:VK}{E:XK}{a:Addr}{ns:List Int}(q:lL K H a (ns.map V.int))(hQ:∀H',Q (.bl true) H'):spT K yS [.ref a] H Q E:=
 ⟨⟨λ_=>false,λ_=>none⟩,[.vn ns],λb e=>(nomatch e),.cons (.vn q) .nil,.bl true,MG ns,λv H' _ r=>by rw[r.xK];exact hQ H'⟩
def walk{l:PySem.W.OpenLaw}{q:Program}{XP:(Str->Option Value)->Heap->Prop}{YP:World->Heap->Prop}{d:DefRec}{K:Params->Frag}(hn:l.most=some 63)(U7:d.params.defaults=[])
  (hY:∀(w:World) (h:Heap),YP w h->(K w.params).In h)
  (F:∀(w:World) (mg:Str->Option Value) (fa:Addr) (h:Heap),(K w.params).In h->h.Ns mainGlobals mg->mg d.name=some (.ref fa)->
   ∃fd:FuncData,(∀(s:Shared) (u:Value),BindsTo s fd ⟨[u],[]⟩ [("_law_script",u)])/\∀base:Heap,(K w.params).In base->base.Ns mainGlobals mg->d_ l.prog w (K w.params) mg base mq 10 fa fd ["_law_script"] (spT (K w.params) yS)):
  PySem.W.WalkO q bw XP YP l.row.toRowW d [] (λf vs=>PySem.call f vs):=
 L2.Nt (n:=63) (k:=10) (x:="_law_script") (CX:=λ_=>mq) (sp:=λw=>spT (K w.params) yS) hn (by decide) U7 ⟨rfl,by decide,by decide⟩ hY F (λ_ _ a ns g _ b=>UC b λ_=>rfl) λ_ _ _ _ _ z=>z
end M07
structure PySem.W.Fast:Prop where(tw6715614704022569968 tw2549464056048777057 tw12500187606910524211 tw1271543139140659452 tw10678942423375376176 tw14720944324117757916 tw11567393869591008557 tw7842110902846839836 tw346429486874022037 tw11720451903635497581 tw12554657860165768808 tw17761051571383886420 tw1989225255138114565 tw9488338044508190812 tw16303378065291044509 tw11230582068422245455 tw8644597445049659717 tw10180316740315827426 tw8367036128009900492 tw7931873764929970209 tw5873170942333653757 tw14152525864659361813 tw11570213930650740463 tw13591218381518069811 tw6215383875700755699 tw1434448059656783400 tw3077400436996289461 tw877730603259048204 tw10649303777743479889 tw3412368840577258289 tw11821738962828920248 tw9954187886633161865 tw14347736930347005088 tw14890194220077665340 tw13541609710742186871 tw13632760313683526458 tw9366724226204197440 tw6588630809447838222 tw5082797362981442324 tw12992651472383796639 tw15567262756657655574 tw2808676742649845582 tw3781646446094862822 tw10951066814457466839 tw8203538750131409540 tw7123373621877226085 tw15912840155139451704 tw15410509198631366745 tw9552741079756796230 tw13711823877773659145 tw4774066249597788283 tw16016116072792829112 tw15638144041579732555 tw12572648701441447104 tw17036028322906299435 tw6219457069737819554 tw7540625908611458804 tw3363025054293973815 tw13561339956398753581 tw13290656595881436578 tw12089936472282251000 tw7047997804444587229 tw11071128044975634922 tw10686578211890248436 tw8181693581777112445 tw17724741500533374993 tw10030904781047105073 tw15488156208068813940 tw17003295537779630654 tw8397975166610488765 tw18315116258883612251 tw1197178973687298486 tw5179729204424649144 tw7412037254844243989 tw15729667332451751913 tw3434402321759205446 tw7726561544979240413 tw6186208066545564100 tw10134132693168777175 tw3334772826008548556 tw11147879358502425714 tw3910182548799304225 tw9374844928259025898 tw1080956868376182771 tw14481391810879574325 tw165066404211923141 tw4400601796402202083 tw14749347163339501166 tw16722994484057047199 tw6680763627189921734 tw4901855481086994305 tw13010474738404906720 tw12716860742806644559 tw13043884608254161015 tw624714793437047912 tw8285425970566191872 tw4284215928741959205 tw11018064168619806062 tw7892254025006813723 tw16425441761397985792 tw5244054975464776508 tw5451136771631953723 tw14256750020905331871 tw5676019072571287897 tw7446477594539981736 tw18193107754960317069 tw905163283518951971 tw2707336991397188910 tw15326882122192177837 tw16180294340070820108 tw17730595151398942826 tw15418690393837200321 tw7603579476257673148 tw7023352814934391757 tw6490767807429399902 tw4877932167312836827 tw12510628751400679046 tw15158349726049313016 tw5446224387093546209 tw2009217498517374540 tw1531432467393928209 tw11707019196169182884 tw428427740417188513 tw6272026167464402995 tw7371451423870843295 tw5321981161147368143 tw5284705291315883114 tw10630710719870617194 tw16882509216649791131 tw7781897158032153258 tw8727616796944701262 tw2836922619033249340 tw869541814719054800 tw17680950172575880726 tw3029369851865536444 tw18323567475530542541 tw15650861844117483910 tw14554258756654041127 tw15336360586803687248 tw3280145200681684011 tw5013410248270648636 tw13120855434626657925 tw12347178593400860066 tw4157374678482488524 tw15837238859763209314 tw1555817468810560707 tw5954342017710500719 tw5424734071600112362 tw12224712830970832173 tw10791283243884840017 tw8061880825184083019 tw13776480468928882212 tw3305432729517027175 tw4748138346118161186 tw14392521553257855995 tw3272097055418928920 tw14642790743912620787 tw9632901783008626575 tw10660270413664412559 tw18141149442995395645 tw17897117952547731884 tw1466118414301828273 tw13978350553232060406 tw6935546327444709256 tw3983121472688044349 tw11730272640796819381 tw9265406830134201363 tw2622680492214938848 tw14521838778706830939 tw8503761468262880910 tw8493217364274525664 tw5716602591140310343 tw529158028712902947 tw17788325574040475082 tw15055416398392299528 tw10661487551039940783 tw16469139247199231852 tw17160257690706395361 tw15674600000912632574 tw17602210205123293643 tw14056062667332062955 tw8112582418454079693 tw8367525316516681597 tw8749211300345419634 tw11962321014456882684 tw9436499058474125619 tw9657539368917867469 tw17455855128427511602 tw10175768724373378591 tw13836520778038655177 tw15160815772979996925 tw6596878502173911818 tw7666111564557003082 tw10869905043798756720 tw11477951244779597315 tw13473439889911766784 tw17653142503904499347 tw10340512826180629074 tw7347332530192877279 tw12987920739004873804 tw2378106192484041267 tw13997394823275962540 tw4056043448093208109 tw4557788172093476817 tw8030233412446096596 tw13299672168154961840 tw11650434089252654843 tw9276728972954646977 tw10912011724314327957 tw15466948507275216402 tw7217140060999201334 tw8405094567447692695 tw1729299773556193281 tw15484463270891840109 tw463049062961037821 tw5950200562884743392 tw12124959964520796449 tw6355994463325656402 tw1842932046328367765 tw4069211044181162039 tw8495251823218222946 tw9764068894850523357 tw12911605187796832406 tw13447009651931831433 tw10718231297499996076 tw3315870707739537461 tw13287523066393079435 tw16558132664637611993 tw6258937452265640446 tw709467862938921282 tw5227081585646757309 tw15376159792759835241 tw18264833317718613613 tw9898598567103169333 tw16014719776102424735 tw8682876594841450591 tw4322981736864627020 tw9084356298603535140 tw2473206063747644314 tw10126628709749545961 tw8594590268677652672 tw166873540587035067 tw13915329498869519321 tw8912030098711585100 tw15051310562492908184 tw1143636340292203909 tw11521532519081623238 tw953077255993937314 tw9849002612799144430 tw2761965943345214133 tw15740672716914798276 tw15727038787566130532 tw17491309146663952729 tw14908571203078045506 tw7592230062468600388 tw11695671127208267577 tw10150177198151779294 tw11158420608782525663 tw17816931274868442022 tw373020990312508990 tw2048938701972735618 tw942922554427358651 tw17009348478533100180 tw7444125493407520129 tw16237617734899066293 tw7571481448508828396 tw1264844033281912463 tw9714305183403422687 tw5399100868908367037 tw18127400585820450914 tw2112161702040057870 tw5540153094006785339 tw8589419591341534521 tw12179949431585892774 tw10858633777354238126 tw10928211338626353973 tw16282700756841905636 tw9148812848752657366 tw15774155898031400517 tw366304296607394584 tw739764087334359422 tw17106668338863068999 tw17145022099522514839 tw10412418783418424043 tw17261032485617524395 tw15725096506642380396 tw2014236106388217822 tw16084783038311748417 tw10977237126472740269 tw9501445095468694803 tw15846522122559203308 tw14944505095950630722 tw9039589734376340082 tw14658023155911873742 tw14164711693905066623 tw15213991208808593983 tw1376434768482327082 tw15383705539445984656 tw18080791299583251620 tw11469870667842157710 tw8152966750137795981 tw17805037755463208121 tw9220627641873424771 tw16741636989262791424 tw4036084175618047626 tw12655348712707777667 tw2939384056489403515 tw9203320242860097053 tw8408618154925904564 tw4933481220325976618 tw9751871954044567160 tw6770428974377675385 tw1242008546519750110 tw6696004402259052258 tw700837303661696251 tw18375663451250588043 tw5847780361798684764 tw1931122975830071821 tw16296194563624362545 tw11019853151797042210:True)
open PySem PySem.W PyProof.Rows
set_option maxRecDepth 100000 in
set_option maxHeartbeats 0 in
theorem PySem.Challenge.cw_talkhall_k07_settings_holds : PySem.Challenge.rw_talkhall_k07_settings.Holds := by
 w_on;o_law;k_head;(case hw=>w_witness2)
 k_fill
 refine M07.walk (l:=PySem.Challenge.rw_talkhall_k07_settings) rfl rfl (fun w h ρ=>PySem.W.kIn_of ρ) ?F
 case F=>
  intro w mg fa h KX G U8
  refine' M07.all_mk KX G U8 ?_ ?_ ?_ ?_ ?_ ?_ ?_ ?_ ?_ ?_ ?_
  all_goals first|k_is|kernel_rfl|skip
