import PyProof.Rows.All
import Wide.All
import OpenK.AllK
import Wide.FinOn
import Lean
import PyProof.EqAt
import PyProof.EqKinds
import PyProof.TupleCall
import PyProof.ExcArgsOwn
import PyProof.AttrMissSeq
import KE.KMinKey
import KE.KBoundM
import KE.KSortTup
import KE.KItemsList
import PyProof.SeqI3
import PySem.Challenge.RW_talkhall_k05_doors
set_option Elab.async false
set_option linter.all false
set_option maxRecDepth 100000
set_option bootstrap.genMatcherCode false
set_option genSizeOf false
set_option genInjectivity false
set_option compiler.extract_closed false
noncomputable section
set_option maxHeartbeats 4000000
def aS:=@PySem.wpAny_bind
def bt:=@List.length_map
def b_:=@List.getElem?_eq_getElem
def bS:=@PySem.Heap.get?_push_of_some
def bg:=@PySem.wpAny_pure
def cx:=@List.mem_cons_of_mem
def bI:=@List.mem_cons
def ck:=@List.getElem?_map
def cz:=@List.set_cons_succ
def cA:=@List.set_cons_zero
def bB:=@List.map_cons
def bu:=@Nat.le_refl
def bR:=@beq_self_eq_true
def bA:=@PySem.Heap.lt_size
def bW:=@Bool.and_eq_true
def aX:=@if_pos
def cy:=@PySem.Heap.get?_push_size
def cB:=@List.mem_cons_self
def cE:=@Bool.false_eq_true
def de:=@List.contains_iff_mem
def cQ:=@List.mem_singleton
def cJ:=@List.not_mem_nil
def ba:=@if_neg
def cc:=@Nat.ne_of_lt
def cU:=@List.size_toArray
def cP:=@List.lookup_cons
def dg:=@Nat.lt_of_lt_of_le
def eM:=@List.getD_eq_getElem?_getD
def dC:=@List.mem_append_right
def cC:=@Nat.le_trans
def cI:=@List.mem_map
def dm:=@List.mem_append
def d6:=@List.mem_of_getElem?
def cN:=@List.map_map
def dw:=@List.length_cons
def dD:=@List.all_eq_true
def gx:=@List.getElem?_eq_some_iff
def dE:=@Option.map_some
def bZ:=@if_false
def eZ:=@List.length_append
def eN:=@of_decide_eq_true
def dv:=@Bool.not_true
def dq:=@Nat.le_of_lt
def fI:=@Bool.false_ne_true
def fZ:=@List.map_congr_left
def bX:=@if_true
def e_:=@List.mem_filter
def jg:=@List.getElem?_eq_none_iff
def gy:=@Array.length_toList
def eO:=@Bool.not_false
def gz:=@List.mem_map_of_mem
def dN:=@Nat.ne_of_gt
def cK:=@or_false
def g0:=@PySem.Around.under_plainId
def fm:=@PySem.W.kia_one
def fJ:=@decide_eq_false
def fb:=@Nat.lt_irrefl
def jY:=@List.filter_cons_of_neg
def dW:=@PySem.sizeLine_eq
def f9:=@PySem.codeAny_builtin
def dh:=@congrArg
def gA:=@List.nodup_cons
def eP:=@Nat.zero_le
def fK:=@PySem.wpAny_holding
def g6:=@PySem.wpAny_call_entry
def lI:=@List.filter_cons_of_pos
def jZ:=@List.mem_append_left
def gB:=@decide_eq_true
def g7:=@List.map_append
def d7:=@PySem.wpAny_mono
def jh:=@PySem.wpAny_setField_rec
def j6:=@beq_eq_false_iff_ne
def ji:=@Option.isSome_map
def j7:=@Option.isSome_some
def lJ:=@PySem.W.hideAll_none
def nD:=@PySem.F.slot_list_append
def g8:=@PySem.wpAny_seqItems
def fo:=@beq_iff_eq
def j8:=@decide_eq_true_eq
def nE:=@PySem.F.plain_min_loop
def lK:=@PySem.mem_of_lookup
def g9:=@PySem.plainId_quiet
def nF:=@PySem.Calls.callWith_builtin
def nG:=@PySem.Heap.get?_update_other
def nH:=@List.length_filter_le
def nJ:=@Array.getElem?_toList
def lL:=@List.mem_filterMap
def iD:=@List.all_cons
def qK:=@PySem.F.type_list_append
def qL:=@PySem.F.plainAttrs_dict
def lM:=@Nat.lt_succ_of_lt
def lN:=@Int.toNat_natCast
def j9:=@List.append_nil
def j_:=@List.find?_cons
def kc:=@beq_false_of_ne
def nK:=@PySem.Calls.evalArgs_plain
def nL:=@List.replicate_succ
def gC:=@PySem.wpAny_field
def jj:=@List.any_cons
def jk:=@Bool.false_or
def my:=@PySem.wpAny_callSpecial?_slot
def mz:=@PySem.F.slot_dict_get
def o7:=@List.getElem?_append_left
def mB:=@List.getElem?_set_ne
def kI:=@PySem.Calls.spliced_cons
def mC:=@PySem.W.hideAll_get
def mD:=@List.filter_eq_self
def kJ:=@PySem.wpAny_newObj_type
def o8:=@PySem.Str.length_append
def kK:=@PySem.wpAny_setState_of
def kL:=@List.getElem_mem
def fQ:=@PySem.wpAny_rule
def mE:=@PySem.W.of_hideAll
def o9:=@List.getElem?_set_self
def o_:=@PySem.W.funFrames_hide
def jw:=@PySem.Heap.size_push
def kM:=@List.length_set
def jx:=@Bool.or_false
def mF:=@List.flatten_cons
def mG:=@List.getElem?_set
def iE:=@PySem.codeAny_mono
def mH:=@PySem.wpAny_Call_Name_kw
def mI:=@PySem.tupleKind_room_in1
def mJ:=@Nat.succ_ne_self
def mK:=@Nat.le_add_right
def mL:=@PySem.wpAny_pyIter_list
def sT:=@List.drop_eq_getElem_cons
def pb:=@List.filterMap_cons
def pd:=@PySem.W.plainGet_of
def sU:=@Option.isSome_iff_exists
def sV:=@PySem.F.slot_tuple_iterator_next
def kN:=@PySem.wpAny_tryCatch
def jy:=@PySem.call_meetsIn
def jz:=@PySem.F.called_set
def pf:=@Option.isSome_none
def sW:=@List.getElem?_replicate
def sX:=@PySem.F.plainAttrs_list
def jA:=@List.map_id
def sY:=@PySem.F.plain_list_iadd
def ph:=@PySem.Heap.SameBut.update
def sZ:=@PySem.F.entry_dict_get
def pj:=@List.ext_getElem?
def mM:=@PySem.wpAny_ite_split
def s_:=@PySem.F.slot_dict_pop
def pq:=@Nat.lt_succ_self
noncomputable def pv:=@List.filter_cons
def pw:=@Option.getD_some
def px:=@PySem.wpAny_truthy_bool
def pz:=@PySem.Calls.spliced_nil
def tm:=@Array.toArray_toList
def pA:=@List.forIn_cons
def pB:=@List.filter_map
def pC:=@Option.map_none
def tq:=@PySem.Heap.get?_update_self
def tB:=@List.length_pos_iff
def w6:=@PyProof.Rows.callWith_type1
def mO:=@List.map_nil
def mP:=@Bool.or_true
def pD:=@PySem.wpAny_isInstance
def w8:=@List.getElem?_append_right
def tD:=@Nat.lt_of_le_of_lt
def pE:=@PySem.wpAny_passesOwn
def pF:=@PySem.wpAny_updateSeq
def tH:=@PySem.W.kitx_dict
def w_:=@PyProof.Rows.slot_tuple_getitem
def tK:=@bne_self_eq_false
def tL:=@List.nodup_append
def tM:=@List.length_range
def tN:=@List.filter_congr
def xa:=@PySem.F.slot_tuple_index
def pG:=@Bool.true_and
def xf:=@PySem.Calls.Name_function_global
def kO:=@PySem.call_meets
def tR:=@List.drop_length
def xg:=@List.pairwise_singleton
def pH:=@List.all_map
def xh:=@Nat.le_of_succ_le_succ
def xi:=@PySem.F.entry_min_loop
def tT:=@List.of_mem_zip
def tU:=@PySem.wpAny_Call_method
def tV:=@PySem.W.kia_tup
def tW:=@Bool.eq_iff_iff
def mQ:=@PySem.wpAny_letGo
def xj:=@List.length_replicate
def pI:=@PySem.wpAny_newList
def xk:=@PySem.F.slot_list_getattribute
def tX:=@List.mem_range
def pJ:=@Nat.le_succ
def tY:=@PySem.wpAny_execs_nil
def t5:=@PySem.PassesOwn.never
def t7:=@PySem.F.slot_zip_next
def xl:=@PySem.W.callWith_K
def xm:=@PySem.builtinLookup_eq_fast
def xn:=@PySem.F.typeOf_object_class
def Cn:=@List.findIdx?_eq_some_iff_getElem
def t8:=@PySem.W.looks_findIn
def xo:=@PySem.W.kitx_list
def xp:=@List.append_assoc
def t9:=@Bool.true_or
def xq:=@PySem.codeAny_call_builtin
def xr:=@Bool.not_eq_true'
def mR:=@PySem.W.Looks.ld
def xt:=@Nat.le_of_lt_succ
def xu:=@PyProof.Rows.F.plain_set_update_loop
def xw:=@decide_eq_decide
def xx:=@List.any_eq_true
def t_:=@PySem.wpAny_attempt
def pK:=@PySem.wpAny_load
def pL:=@PySem.wpAny_call
def xy:=@List.length_nil
def xA:=@Nat.not_lt_zero
def xB:=@List.filter_nil
def xC:=@Int.emod_nonneg
def Co:=@PySem.F.plain_proto_collect
def xD:=@Bool.false_and
def xE:=@Bool.and_false
def Cp:=@List.length_eraseIdx_of_lt
def xF:=@PySem.fits_of_scanBound
def kP:=@not_or
def xG:=@List.nodup_nil
def ua:=@PySem.wpAny_typeOf
def xH:=@List.forIn_nil
def Cq:=@PySem.F.excBase_ValueError
namespace HT
open PySem PyProof.Rows
section
open PySem.SeqAt
open PySem.AutoSeq1 (wpAny_loadPart')
open PySem.MeetsSeq PySem.MeetsSeq2 PySem.MeetsSeq3
end
section
variable {prog:Program}{w:World}{A:Around}{E:Value->Shared->Prop}{s:Shared}
theorem Nd{t b:Addr}{vs ws:List Value}{Q:Value->Shared->Prop}(ht:IsTup s.heap t vs.toArray)(hb:IsTup s.heap b ws.toArray)(q:vs≠[])
  (h1:ws=[]->Q (.ref t) s) (h2:ws≠[]->Q (.ref s.heap.objs.size) {s with heap:=s.heap.push {cls:=.type "tuple",data:=.seq (vs++ws).toArray}})
  (hsz:vs.length+ws.length<=sizeLine):wpAny (model prog w) A (binaryOp .Add (.ref t) (.ref b)) Q E s:=by
 obtain⟨⟨cls,dd,data,sl⟩,l,I,n,hd⟩:=id ht;obtain⟨⟨abQ,L,data2,M⟩,r,g,S,hd2⟩:=id hb;simp only at I hd g hd2;subst I hd g hd2;have e:vs.toArray++ws.toArray=(vs++ws).toArray:=by simp
 by_cases hw:ws=[]
 ·exact concat_meets ⟨_,l,rfl⟩ ⟨_,r,rfl⟩ noFill_tuple_add seq_tuple_add PySem.F.slot_tuple_add PySem.F.entry_tuple_add (PySem.F.args_tuple_add_2 _ _)
   (tuple_addW1 t b vs.toArray ws.toArray n S dd L sl M (by simpa using q) (by simp[hw])) ⟨l,r,h1 hw⟩
 ·refine concat_meets ⟨_,l,rfl⟩ ⟨_,r,rfl⟩ noFill_tuple_add seq_tuple_add PySem.F.slot_tuple_add PySem.F.entry_tuple_add (PySem.F.args_tuple_add_2 _ _)
   (tuple_addW2 t b vs.toArray ws.toArray n S dd L sl M (by simpa using q) (by simpa using hw) (by rw[List.size_toArray,List.size_toArray];exact hsz)) ⟨l,r,?_⟩
  rw[e];exact h2 hw
noncomputable def iB(n d:Nat):Option Int->Nat
 |none=>d
 |some v=>if v<0 then(v+(n:Int)).toNat else min v.toNat n
def Q0(n d:Nat)(hd:d<=n)(o:Option Int):iB n d o<=n:=by
 cases o with
 |none=>exact hd
 |some v=>
  show(if v<0 then(v+(n:Int)).toNat else min v.toNat n)<=n;by_cases b:v<0
  ·rw[if_pos b];omega
  ·rw[if_neg b];exact Nat.min_le_right _ _
def AO(v:Int)(n d:Nat):(if v<0 then max (v+(n:Int)) 0 else min v (n:Int))=((iB n d (some v):Nat):Int):=by
 show(if v<0 then max (v+(n:Int)) 0 else min v (n:Int))=(((if v<0 then(v+(n:Int)).toNat else min v.toNat n):Nat):Int);by_cases b:v<0
 ·simp only[if_pos b];omega
 ·simp only[if_neg b];omega
def Er(lo hi:Option Int)(n:Nat):Builtin.Slice.sliceAdjust lo hi 1 (n:Int)=(((iB n 0 lo:Nat):Int),((iB n n hi:Nat):Int)):=by
 have b:¬((1:Int)<0):=by omega
 unfold Builtin.Slice.sliceAdjust;simp only[b,if_false];refine Prod.ext ?_ ?_
 ·cases lo with
  |none=>rfl
  |some v=>exact AO v n 0
 ·cases hi with
  |none=>rfl
  |some v=>exact AO v n n
def Es(i j:Nat):Builtin.Slice.slicePlaces (i:Int) (j:Int) 1=j - i:=by
 unfold Builtin.Slice.slicePlaces;have b:(1:Int)>0:=by omega
 simp only[b,if_true,Int.ediv_one];split<;>omega
def xI{v:Value}{o:Option Int}{Q:Option Int->Shared->Prop}(p:IsPart v o)(h:Q o s):wpAny (model prog w) A (Builtin.Slice.slicePartIndex v) Q E s:=by
 cases p with
 |none=>exact slicePart_none h
 |int i t=>exact slicePart_int h
theorem mS{sl:Addr}{q vu:Value}{lo hi:Option Int}{n:Nat}{Q:Int×Int×Nat->Shared->Prop}(hs:s.heap.IsSliceOf sl q vu .none)(pl:IsPart q lo)(pu:IsPart vu hi)
  (h:Q (((iB n 0 lo:Nat):Int),1,iB n n hi - iB n 0 lo) s):wpAny (model prog w) A (Builtin.Slice.sliceApplied (.ref sl) (pure (n:Int))) Q E s:=by
 obtain⟨os,b,l,g⟩:=id hs;unfold Builtin.Slice.sliceApplied Builtin.Slice.sliceFields;refine wpAny_bind (wpAny_bind (wpAny_field b g (x:=q) rfl (wpAny_bind (wpAny_field b g (x:=vu) rfl (wpAny_bind (wpAny_field b g (x:=.none) rfl (wpAny_pure ?_)))))));refine wpAny_bind (slicePart_none ?_);show wpAny _ _ (if((1:Int)==0)=true then _ else _) _ _ s;rw[if_neg (by decide)];refine wpAny_bind (xI pl (wpAny_bind (xI pu (wpAny_bind (wpAny_pure ?_)))));show wpAny _ _ (match Builtin.Slice.sliceAdjust lo hi 1 (n:Int)with|(lo,hi)=>pure (lo,(1:Int),Builtin.Slice.slicePlaces lo hi 1)) _ _ s;rw[Er lo hi n];show wpAny _ _ (pure (((iB n 0 lo:Nat):Int),(1:Int),Builtin.Slice.slicePlaces ((iB n 0 lo:Nat):Int) ((iB n n hi:Nat):Int) 1)) _ _ s;rw[Es];exact wpAny_pure h
def JK(xs:Array Value)(i k:Nat):((List.range k).filterMap λ(m:Nat)=>xs[((i:Int)+(m:Int)*1).toNat]?).toArray=((xs.toList.drop i).take k).toArray:=by
 have e:(λ(m:Nat)=>xs[((i:Int)+(m:Int)*1).toNat]?)=λm=>xs[i+m]? :=by
  funext m;have:((i:Int)+(m:Int)*1).toNat=i+m:=by omega
  rw[this]
 rw[e];have:=pick_run xs i k;rw[List.filterMap_map]at this;have b:((λx=>xs[x]?)∘λx=>i+x)=λm=>xs[i+m]? :=rfl
 rw[b]at this;rw[this]
theorem ub{t sl:Addr}{a8:Array Value}{vl vu:Value}{lo hi:Option Int}{Q:Value->Shared->Prop}(ht:IsTup s.heap t a8)(hs:s.heap.IsSliceOf sl vl vu .none)(pl:IsPart vl lo)(pu:IsPart vu hi)
  (hw:¬(iB a8.size 0 lo=0/\iB a8.size a8.size hi=a8.size))
  (h:Q (.ref s.heap.objs.size) {s with heap:=s.heap.push {cls:=.type "tuple",data:=.seq ((a8.toList.drop (iB a8.size 0 lo)).take (iB a8.size a8.size hi - iB a8.size 0 lo)).toArray}})
  (hsz:a8.size<=sizeLine):wpAny (model prog w) A (getItem (.ref t) (.ref sl)) Q E s:=by
 have b:sizeOk (.seq ((a8.toList.drop (iB a8.size 0 lo)).take (iB a8.size a8.size hi - iB a8.size 0 lo)).toArray):=by
  show((a8.toList.drop (iB a8.size 0 lo)).take (iB a8.size a8.size hi - iB a8.size 0 lo)).toArray.size<=sizeLine;rw[List.size_toArray,List.length_take,List.length_drop,Array.length_toList];omega
 have I:iB a8.size a8.size hi<=a8.size:=Q0 _ _ (Nat.le_refl _) hi;obtain⟨os,l,n,L⟩:=id hs;have g:s.TypeIs (.ref sl) "slice":=⟨os,l,n⟩;unfold getItem
 try with_reducible refine wpAny_holding ?_
 first|refine wpAny_bind (wpAny_pure ?_)|skip
 refine wpAny_bind (wpAny_sequenceKey ht.typeIs (by decide) ?_);refine wpAny_bind (wpAny_callSpecial?_slot (name:=Str.ofString "__getitem__") ht.typeIs PyProof.Rows.slot_tuple_getitem
  (wpAny_call_entry PyProof.Rows.slot_tuple_getitem ht.typeIs entry_tuple_getitem ?_ (args_tuple_getitem _ _)))
 show wpAny _ _ (Builtin.Tuple.tupleItemsOf (.ref t)>>=_) _ _ s;refine wpAny_bind (tupleItemsOf_ ht ?_);refine wpAny_bind (wpAny_typeOf g ?_);rw[if_pos (by decide)];refine wpAny_bind (mS hs pl pu ?_);have r:¬((((iB a8.size 0 lo:Nat):Int)==0&&(1:Int)==1&&(iB a8.size a8.size hi - iB a8.size 0 lo)==a8.size)=true):=by
  intro q;rw[Bool.and_eq_true,Bool.and_eq_true]at q;have M:((iB a8.size 0 lo:Nat):Int)=0:=eq_of_beq q.1.1;have S:iB a8.size a8.size hi - iB a8.size 0 lo=a8.size:=eq_of_beq q.2;exact hw ⟨by omega,by omega⟩
 show wpAny _ _ (if(((iB a8.size 0 lo:Nat):Int)==0&&(1:Int)==1&&(iB a8.size a8.size hi - iB a8.size 0 lo)==a8.size)=true then _ else _) _ _ s;rw[if_neg r,JK]
 first
  |exact wpAny_bind (m:=Builtin.Tuple.tupleExact _) (wpAny_newObj_type (wpAny_pure ⟨_,rfl,wpAny_pure h⟩) b)
  |exact wpAny_bind (m:=Builtin.Tuple.tupleExact _) (wpAny_newObj_type (wpAny_bind (wpAny_pure (wpAny_pure ⟨_,rfl,wpAny_pure h⟩))) b)
  |exact wpAny_bind (wpAny_bind (m:=Builtin.Tuple.tupleExact _) (wpAny_newObj_type (wpAny_pure (wpAny_pure ⟨_,rfl,wpAny_pure h⟩)) b))
  |exact wpAny_bind (wpAny_bind (m:=Builtin.Tuple.tupleExact _) (wpAny_newObj_type (wpAny_pure ⟨_,rfl,wpAny_pure h⟩) b))
end
end HT
namespace Att
open PySem PySem.W PySem.Calls PyProof.Rows
def wk{P:Params}{h:Heap}:∀(ns:List Int) (vs:List Value),WellAll P h vs (ns.map WData.int)->IntsAre vs ns:=by
 intro ns
 induction ns with
 |nil=>
  intro vs w;rw[List.map_nil]at w;cases w;exact .nil
 |cons n ns g=>
  intro vs w;rw[List.map_cons]at w;cases w with
  |cons a b=>
   cases a;exact .cons _ _ (g _ b)
theorem HH{l:OpenLaw}{n:Nat}(hn:l.most=some n){P:Params}{h:Heap}{args:List WData}{vals:List Value}
  (Nf:l.row.toRowW.claim.pre args=true) (Vl:WellAll P h vals args):
  ∃a vs ns,vals=[Value.ref a]/\args=[WData.list (ns.map WData.int)]/\h.get? a=some {cls:=.type "list",data:=.seq vs.toArray}/\IntsAre vs ns/\ns.length<=n:=by
 have I:WShape.hasAll [] args [.list .int]=true:=(pre_splitW Nf).1;have L:l.pre.holds [] {args:=args}=true:=(pre_splitW Nf).2;obtain⟨d,r,rfl,h1,h2⟩:=hasAllW_cons I;obtain rfl:=hasAllW_nil h2;obtain⟨xs,rfl,M⟩:=hasW_list h1;obtain⟨ns,rfl⟩:=items_int M;have S:ns.length<=n:=by
  unfold OpenLaw.pre at L;have b:(WTm.not (.lt (.lit (.int (n:Int))) (.len (.arg 0)))).holds [] {args:=[.list (ns.map .int)]}=true:=by
   have b:=(holds_andW L).1;rw[hn]at b;exact b
  have g:=condW_of b (w_not (w_lt w_lit (w_len_list (w_arg rfl))));rw[List.length_map]at g;refine Nat.le_of_not_lt λq=>?_
  have q':(n:Int)<((ns.length:Nat):Int):=by omega
  first
   |(rw[decide_eq_true q']at g;exact absurd g (by decide))
   |(simp at g;omega)
 cases Vl with
 |cons w1 w2=>
  cases w2;cases w1 with
  |list ho ve=>exact⟨_,_,ns,rfl,rfl,ho,wk ns _ ve,S⟩
theorem HI(l:OpenLaw)(args:List WData):l.row.toRowW.claim.post args (.bool true) args=true:=
 postW_of (r:=l.row.toRowW) (X:=(true==true))
  (show WShape.has [] (.bool true) .bool=true by first|rfl|decide|simp[WShape.has,WShape.arms,WShape.armsAll])
  (show(WTm.eq .res (.lit (.bool true))).value [] {args:=args,res:=some (.bool true),after:=args}=some (.bool (true==true))from w_eq_bool (w_res rfl) w_lit) rfl
def Cr{l:OpenLaw}{n:Nat}{q:Program}{loose:List Str}{XP:(Str->Option Value)->Heap->Prop}{YP:World->Heap->Prop}{d:DefRec}
  (hn:l.most=some n) (Vm:d.params.defaults=[])
  (call:∀(w:World) (gD dr:Shared) (mg mb:Str->Option Value) (fa:Addr) (o:Obj) (pm cd doc:Value) (a:Addr) (vs:List Value) (ns:List Int),
   Ground q loose [] XP w gD mg mb dr.heap->YP w dr.heap->
   dr.heap.get? fa=some o->o.data=.func (docDef d.name d.params d.body d.scope pm cd doc)->dr.heap.CodeRec cd d.name->mg d.name=some (.ref fa)->
   dr.heap.get? a=some {cls:=.type "list",data:=.seq vs.toArray}->IntsAre vs ns->ns.length<=n->dr.gens=#[]->
   codeAny (model l.prog w) callerA (.call (.ref fa) ⟨[.ref a],[]⟩) (λr s'=>r=.ok (.ret (.bool true))/\OldK dr.heap s'.heap/\s'.os=dr.os/\AllBare s'.gens) dr):
  WalkO q loose XP YP l.row.toRowW d [] (λf vs=>PySem.call f vs):=by
 intro w gD dr mg mb G g fa o pm cd doc I kV L hd M b S hg args vals as Nf abR hrd Vl hlo;obtain rfl:I=.none:=Dflts.none b Vm;obtain rfl:kV=.none:=Dflts.noKw b;obtain⟨a,vs,ns,rfl,rfl,Q2,hints,b9⟩:=HH hn Nf Vl;refine enter_call (codeAny_mono (call w gD dr mg mb fa o pm cd doc a vs ns G g L (fd_plain hd) M S Q2 hints b9 hg) λr s' hq=>?_);obtain⟨rfl,h2,h3,h4⟩:=hq;exact⟨.inl ⟨.bool true,.bool true,[],rfl,λ_=>rfl,.bool true,HI l _,λ_=>⟨List.Pairwise.nil,λ_ hm=>(nomatch hm)⟩⟩,h2,h3,h4⟩
end Att
namespace PySem
noncomputable abbrev Zt(h:Heap)(l1:Addr):Heap:=h.push {cls:=.type "tuple_iterator",data:=.fields #[.ref l1,.int 0 0]}
abbrev Zu(h:Heap)(l1 l2:Addr):Heap:=(Zt h l1).push {cls:=.type "tuple_iterator",data:=.fields #[.ref l2,.int 0 0]}
abbrev Zv(h:Heap)(l1 l2:Addr):Heap:=(Zu h l1 l2).push {cls:=.type "tuple",data:=.seq #[.ref h.objs.size,.ref (Zt h l1).objs.size]}
abbrev Zw(h:Heap)(l1 l2:Addr):Heap:=(Zv h l1 l2).push {cls:=.type "tuple",data:=.seq #[.none,.none]}
abbrev US(h:Heap)(l1 l2:Addr):Heap:=(Zw h l1 l2).push {cls:=.type "zip",data:=.fields #[.none,.bool false,.bool false,.ref (Zu h l1 l2).objs.size,.ref (Zv h l1 l2).objs.size]}
theorem Eu(l1 l2:Addr)(xs ys:Array Value):Meets (Builtin.«zip.__new__» ⟨[.type "zip",.ref l1,.ref l2],[]⟩)
  (λ_ R s=>s.heap.IsTuple l1 xs/\s.heap.IsTuple l2 ys/\R (.ok (.ret (.ref (Zw s.heap l1 l2).objs.size))) {s with heap:=US s.heap l1 l2}):=
 .of_wp λprog w A R s h=>by
  obtain⟨hp,g,d,tk,os⟩:=s;obtain⟨l,n,h⟩:=h;have I:=sub_zip;have r:Heap.IsTuple (Shared.heap ⟨hp,g,d,tk,os⟩) l1 xs:=l;have b:Heap.IsTuple (Shared.heap ⟨hp.push {cls:=.type "tuple_iterator",data:=.fields #[.ref l1,.int 0 0]},g,d,tk,os⟩) l2 ys:=n.at λo e=>Heap.get?_push_of_some _ e
  wp_walk using wpAny_pyIter_tuple r,wpAny_pyIter_tuple b
  exact⟨_,rfl,h⟩
section
variable {prog:Program}{w:World}{A:Around}{E:Value->Shared->Prop}{s:Shared}
theorem HJ{l1 l2:Addr}{xs ys:Array Value}{Q:Value->Shared->Prop}(q:s.heap.IsTuple l1 xs)(Ng:s.heap.IsTuple l2 ys)
  (h:∀h',IsZip h' (s.heap.objs.size+4) (s.heap.objs.size+2) (s.heap.objs.size+3) .none->IsPair h' (s.heap.objs.size+2) (.ref s.heap.objs.size) (.ref (s.heap.objs.size+1))->
   IsPair h' (s.heap.objs.size+3) .none .none->h'.IsTupleIter s.heap.objs.size l1 0->h'.IsTupleIter (s.heap.objs.size+1) l2 0->(∀c o,s.heap.get? c=some o->h'.get? c=some o)->Q (.ref (s.heap.objs.size+4)) {s with heap:=h'}):
  wpAny (model prog w) A (call (.type "zip") [.ref l1,.ref l2]) Q E s:=by
 refine callType_new F.called_zip (by decide) (F.typeCall_zip_2 _ _) (F.newCall_zip_2 _ _) (λobj=>F.args_object_init_3 obj _ _) F.entry_zip_new (Eu l1 l2 xs ys) ⟨q,Ng,?_⟩;have b:(Zt s.heap l1).objs.size=s.heap.objs.size+1:=Heap.size_push ..;have g:(Zu s.heap l1 l2).objs.size=s.heap.objs.size+2:=by rw[Heap.size_push,b]
 have l:(Zv s.heap l1 l2).objs.size=s.heap.objs.size+3:=by rw[Heap.size_push,g]
 have r:(Zw s.heap l1 l2).objs.size=s.heap.objs.size+4:=by rw[Heap.size_push,l]
 have up:∀{h:Heap} {c:Addr} {o o':Obj},h.get? c=some o->(h.push o').get? c=some o:=λe=>Heap.get?_push_of_some _ e;have n:(US s.heap l1 l2).get? (Zw s.heap l1 l2).objs.size=some _:=Heap.get?_push_size _ rfl;have I:(US s.heap l1 l2).get? (Zv s.heap l1 l2).objs.size=some _:=up (Heap.get?_push_size _ rfl);have g3:(US s.heap l1 l2).get? (Zu s.heap l1 l2).objs.size=some _:=up (up (Heap.get?_push_size _ rfl));have g2:(US s.heap l1 l2).get? (Zt s.heap l1).objs.size=some _:=up (up (up (Heap.get?_push_size _ rfl)));have g1:(US s.heap l1 l2).get? s.heap.objs.size=some _:=up (up (up (up (Heap.get?_push_size _ rfl))));show _/\_;rw[g,l,r]at n;rw[b,g]at g3;rw[l]at I;rw[b]at g2;rw[r];exact⟨⟨_,n,rfl⟩,h _ n g3 I ⟨_,g1,rfl,rfl⟩ ⟨_,g2,rfl,rfl⟩ λc o x=>up (up (up (up (up x))))⟩
end
end PySem
namespace PySem.SeqAt
open PySem PySem.Spec PySem.Calls PyProof.Rows PySem.MeetsSeq
def HK{M:Model}{A:Around}{E:Value->Shared->Prop}{s:Shared}{β:Type}(f:Nat->β->Sem (ForInStep β))(I:List Nat->β->Shared->Prop)(Q:β->Shared->Prop)
  (turn:∀x c8 b s,I (x::c8) b s->wpAny M A (f x b) (λr s'=>match r with|.yield q=>I c8 q s'|.done q=>Q q s') E s)
  (fin:∀b s,I [] b s->Q b s) (n:Nat) (b:β) (h:I (List.range' 0 n) b s):wpAny M A (forIn [:n] b f) Q E s:=by
 rw[Std.Legacy.Range.forIn_eq_forIn_range'];simp only[Std.Legacy.Range.size,Nat.sub_zero,Nat.add_sub_cancel,Nat.div_one];exact wpAny_forIn_list f I Q turn fin _ b h
theorem zp(l:Addr)(q:Array Value)(n:Nat)(dd:Option Addr)(sl:Array (Option Value))(x:Value)(e:Value->Bool)(j:Nat)(hj:j<q.size)(hit:e q[j]=true)(JL:∀m (hm:m<q.size),m<j->e q[m]=false):
  Meets (Builtin.«tuple.index» ⟨[.ref l,x],[]⟩)
   (λA R s=>s.heap.get? l=some {cls:=.type "tuple",dict:=dd,data:=.seq q n,slots:=sl}/\(∀y,y∈q->EqAt A.in1 s y x (e y))/\R (.ok (.ret (.int j s.toks))) {s with toks:=s.toks+1}):=
 .of_wp λprog w A R s h=>by
  obtain⟨hp,g,d,tk,os⟩:=s;obtain⟨L,he,h⟩:=h
  wp_walk using wpAny_loadPart' L,HK _ (λc8 (b:Option _×Unit) s'=>b.1=none/\s'=⟨hp,g,d,tk,os⟩/\∃i,c8=List.range' i (q.size - i)/\i<=j) _
  case turn=>
   rintro y c8 b s' ⟨hb,rfl,i,r,hi⟩
   have I:i<q.size:=Nat.lt_of_le_of_lt hi hj;obtain⟨rfl,M⟩:y=i/\c8=List.range' (i+1) (q.size - (i+1)):=by
    have e:q.size - i=(q.size - (i+1))+1:=by omega
    rw[e,List.range'_succ]at r;injection r with h1 h2
    exact⟨h1,h2⟩
   rw[Array.getElem?_eq_getElem I];refine wpAny_bind (he _ (Array.getElem_mem I) prog w _ _ ?_);by_cases z:y=j
   ·subst z;rw[hit]
    wp_walk
    exact⟨_,rfl,h⟩
   ·rw[JL y I (by omega)]
    wp_walk
    exact⟨rfl,rfl,y+1,M,by omega⟩
  case fin=>
   rintro b s' ⟨hb,rfl,i,r,hi⟩
   have e:q.size - i=(q.size - (i+1))+1:=by omega
   rw[e,List.range'_succ]at r;exact nomatch r
  case h=>exact⟨rfl,rfl,0,by rw[Nat.min_self,Nat.sub_zero],Nat.zero_le _⟩
end PySem.SeqAt
namespace HT
open PySem PyProof.Rows
section
variable {prog:Program}{w:World}{A:Around}{E:Value->Shared->Prop}{s:Shared}
theorem rn{t sl:Addr}{q:Array Value}{vl vu:Value}{lo hi:Option Int}{Q:Value->Shared->Prop}(ht:IsTup s.heap t q)(hs:s.heap.IsSliceOf sl vl vu .none)(pl:IsPart vl lo)(pu:IsPart vu hi)
  (hw:iB q.size 0 lo=0/\iB q.size q.size hi=q.size) (h:Q (.ref t) s):wpAny (model prog w) A (getItem (.ref t) (.ref sl)) Q E s:=by
 obtain⟨os,l,n,r⟩:=id hs;have b:s.TypeIs (.ref sl) "slice":=⟨os,l,n⟩;unfold getItem
 try with_reducible refine wpAny_holding ?_
 first|refine wpAny_bind (wpAny_pure ?_)|skip
 refine wpAny_bind (wpAny_sequenceKey ht.typeIs (by decide) ?_);refine wpAny_bind (wpAny_callSpecial?_slot (name:=Str.ofString "__getitem__") ht.typeIs PyProof.Rows.slot_tuple_getitem
  (wpAny_call_entry PyProof.Rows.slot_tuple_getitem ht.typeIs entry_tuple_getitem ?_ (args_tuple_getitem _ _)))
 show wpAny _ _ (Builtin.Tuple.tupleItemsOf (.ref t)>>=_) _ _ s;refine wpAny_bind (tupleItemsOf_ ht ?_);refine wpAny_bind (wpAny_typeOf b ?_);rw[if_pos (by decide)];refine wpAny_bind (mS hs pl pu ?_);have g:((((iB q.size 0 lo:Nat):Int)==0&&(1:Int)==1&&(iB q.size q.size hi - iB q.size 0 lo)==q.size)=true):=by
  rw[hw.1,hw.2];simp
 show wpAny _ _ (if(((iB q.size 0 lo:Nat):Int)==0&&(1:Int)==1&&(iB q.size q.size hi - iB q.size 0 lo)==q.size)=true then _ else _) _ _ s;rw[if_pos g];refine wpAny_bind (m:=Builtin.Tuple.tupleIsExact (.ref t)) ?_
 show wpAny _ _ (typeOf (.ref t)>>=_) _ _ s;refine wpAny_bind (wpAny_typeOf ht.typeIs (wpAny_pure ?_));rw[if_pos (by decide)];exact wpAny_bind (wpAny_rule (wpAny_pure ⟨_,rfl,wpAny_pure h⟩))
end
end HT
namespace L2
open PySem.W (Frag)
open PySem PySem.Spec PyProof.Rows
variable {aa:Heap}{ae:Unit->Shared->Prop}{af:Value}{ag:Type}{ah aj:List Stmt}{ai:Stmt}{ak:Array Value}{al:Expr}{am:List Value}{ar:Addr}{au:Str}{av:Result->Shared->Prop}{aw:Scope}{ax:String}{ay:Nat}{az:List Expr}{aK:Option Value->Shared->Prop}
variable {K:Frag}{U:List (Addr×Obj)}{pos p b8:Pos}{E Q:Value->Shared->Prop}{es:List Expr}{e tg o:Expr}{s:Shared}{a:Addr}{x:Str}{w:World}{A:Around}{mg:Str->Option Value}{i:Nat}{P:Program}{ps:List Str}
def fe{p:Prop}(h:False):p:=h.elim
abbrev Db(x:Str):Prop:=(x==("__debug__":Str))=false
abbrev uc(pos b8:Pos)(o:Expr)(m:Str)(es:List Expr)(env:Env)(pl:Sem Bool):Sem Value:=do
 let ov<-eval o env
 standAt b8.atName
 let(f,first)<-holding [ov] (getMethod ov m pl)
 callWith pos f first (backTo pos (starEach es env)) (backToKw pos (keywordEach [] env))
abbrev Key:=Sum Int Str
noncomputable def mT:Key->Value->Bool
 |.inl k,v=>Value.isInt k v
 |.inr x,v=>Value.isStrOf x v
def aac(w:World):Key->Int
 |.inl k=>hashInt k
 |.inr x=>hashStr w x
theorem dQ:∀{k:Key} {v:Value},mT k v=true->(∃i t,k=Sum.inl i/\v=Value.int i t)\/(∃x t,k=Sum.inr x/\v=Value.str x t)
 |.inl i,v,h=>by
  obtain⟨t,e⟩:=Value.isInt_shape (k:=i) (v:=v) h;exact .inl ⟨i,t,rfl,e⟩
 |.inr x,v,h=>by
  obtain⟨t,e⟩:=Value.isStrOf_shape (x:=x) (v:=v) h;exact .inr ⟨x,t,rfl,e⟩
theorem HL(i:Int)(t:Tok):mT (.inl i) (.int i t)=true:=by simp[mT,Value.isInt]
theorem HM(x:Str)(t:Tok):mT (.inr x) (.str x t)=true:=by simp[mT,Value.isStrOf]
def Q4(a b:Int):decide ((Sum.inl a:Key)=Sum.inl b)=(a==b):=by
 by_cases e:a=b
 ·subst e;simp
 ·have h:¬(Sum.inl a:Key)=Sum.inl b:=λq=>e (Sum.inl.inj q);rw[fJ h];exact(j6.mpr e).symm
def Q5(a b:Str):decide ((Sum.inr a:Key)=Sum.inr b)=decide (a=b):=by
 by_cases e:a=b
 ·subst e;simp
 ·have h:¬(Sum.inr a:Key)=Sum.inr b:=λq=>e (Sum.inr.inj q);rw[fJ h,fJ e]
def Q6(a:Int)(b:Str):decide ((Sum.inl a:Key)=Sum.inr b)=false:=fJ (λq=>nomatch q)
def Q7(a:Str)(b:Int):decide ((Sum.inr a:Key)=Sum.inl b)=false:=fJ (λq=>nomatch q)
def cp(prog:Program)(w:World):PySem.KeyKind prog w Key where
 is:=mT
 hash:=aac w
 inj:=λv a b n hb=>by
  rcases dQ n with⟨i,t,rfl,rfl⟩|⟨x,t,rfl,rfl⟩
  ·rcases dQ hb with⟨j,u,rfl,e⟩|⟨y,u,rfl,e⟩
   ·injection e with g _;rw[g]
   ·exact nomatch e
  ·rcases dQ hb with⟨j,u,rfl,e⟩|⟨y,u,rfl,e⟩
   ·exact nomatch e
   ·injection e with g _;rw[g]
 byValue:=λk v h=>by
  rcases dQ h with⟨i,t,rfl,rfl⟩|⟨x,t,rfl,rfl⟩<;>rfl
 pyHash:=λl h=>by
  rcases dQ l with⟨i,t,rfl,rfl⟩|⟨x,t,rfl,rfl⟩
  ·exact wpAny_pyHash_int h
  ·exact wpAny_pyHash_str h
 eqBool:=λr l h=>by
  rcases dQ r with⟨i,t,rfl,rfl⟩|⟨x,t,rfl,rfl⟩
  ·rcases dQ l with⟨j,u,rfl,rfl⟩|⟨y,u,rfl,rfl⟩
   ·rw[Q4]at h;exact wpAny_eqBool_int h
   ·rw[Q6]at h;exact SeqAt.EqAt.int_str i t y u _ _ _ _ h
  ·rcases dQ l with⟨j,u,rfl,rfl⟩|⟨y,u,rfl,rfl⟩
   ·rw[Q7]at h;exact SeqAt.EqAt.str_int x t j u _ _ _ _ h
   ·rw[Q5]at h;exact wpAny_eqBool_str h
 «strs»:=λk x t v h=>by
  rcases dQ h with⟨i,u,rfl,e⟩|⟨y,u,rfl,e⟩
  ·exact nomatch e
  ·injection e with g _
   subst g;cases v<;>rfl
def Cs(prog:Program)(w:World)(i:Int)(t:Tok):(cp prog w).is (.inl i) (.int i t)=true:=HL i t
def Ct(prog:Program)(w:World)(x:Str)(t:Tok):(cp prog w).is (.inr x) (.str x t)=true:=HM x t
set_option genInjectivity true in
inductive V where
 |cu|bl (b:Bool)|int (i:Int)|str (x:Str)|PN (b:Array UInt8)|xJ (b:UInt64)|ref (a:Addr)|ty (n:String)
 deriving DecidableEq
variable {aq:List V}
variable {kvs:List (Key×V)}
def RelV:V->Value->Prop
 |.cu,u=>u=Value.none
 |.bl b,u=>u=Value.bool b
 |.int i,u=>∃t,u=Value.int i t
 |.str x,u=>∃t,u=Value.str x t
 |.PN b,u=>∃t,u=Value.bytes b t
 |.xJ b,u=>∃t,u=Value.float b t
 |.ref a,u=>u=Value.ref a
 |.ty n,u=>u=Value.type n
abbrev Vals:List V->List Value->Prop:=Paired RelV
theorem Vals.length {xs:List V}{us:List Value}(r:Vals xs us):xs.length=us.length:=Paired.length r
theorem Vals.get:∀{xs:List V} {us:List Value} {i:Nat} {x:V},Vals xs us->xs[i]?=some x->∃u,us[i]?=some u/\RelV x u
 |_,_,_,_,.nil,e=>by simp at e
 |_,_,0,_,.cons r _,e=>by simp at e;subst e;exact⟨_,rfl,r⟩
 |_,_,i+1,x,.cons _ t,e=>by
  obtain⟨u,h1,h2⟩:=Vals.get (i:=i) (x:=x) t (by simpa using e);exact⟨u,by simpa using h1,h2⟩
theorem Vals.set {x:V}{u:Value}(r:RelV x u):∀{xs:List V} {us:List Value} (i:Nat),Vals xs us->Vals (xs.set i x) (us.set i u)
 |_,_,_,.nil=>.nil
 |_,_,0,.cons _ t=>.cons r t
 |_,_,i+1,.cons q t=>.cons q (Vals.set r i t)
theorem Vals.append:∀{xs ys:List V} {us ws:List Value},Vals xs us->Vals ys ws->Vals (xs++ys) (us++ws)
 |_,_,_,_,.nil,s=>s
 |_,_,_,_,.cons r t,s=>.cons r (Vals.append t s)
theorem Vals.take:∀{xs:List V} {us:List Value} (n:Nat),Vals xs us->Vals (xs.take n) (us.take n)
 |_,_,0,_=>.nil
 |_,_,_+1,.nil=>.nil
 |_,_,n+1,.cons r t=>.cons r (Vals.take n t)
theorem Vals.drop:∀{xs:List V} {us:List Value} (n:Nat),Vals xs us->Vals (xs.drop n) (us.drop n)
 |_,_,0,r=>r
 |_,_,_+1,.nil=>.nil
 |_,_,n+1,.cons _ t=>Vals.drop n t
def lY:Option V->Option Value->Prop
 |some v,some u=>RelV v u
 |none,none=>True
 |_,_=>False
def KV{κ:Type}:List (κ×V)->List (κ×Value)->Prop:=Paired λ(p:κ×V) (q:κ×Value)=>p.1=q.1/\RelV p.2 q.2
noncomputable def kV:Key->V
 |.inl i=>.int i
 |.inr x=>.str x
inductive HO where
 |lst (xs:List V)
 |tup (xs:List V)
 |dK (kvs:List (Key×V))|dT (kvs:List (List Key×V))
 |set (S:Int->Bool) (n:Nat)
 |ins (C dx:Addr) (fs:List (Str×V))
 |own (x:Addr)
 |xd (fs:List (Str×V))
 |met (f x:Addr)
 |Zx (lo hi:Int)
 |lD (o:Obj) (u:HO)
 |PQ (ps:Array Value)
 |ext (φ:Heap->Prop)
abbrev Hp:=Addr->Option HO
variable {ac:Hp}
variable {H:Hp}
noncomputable def upd(H:Hp)(a:Addr)(o:HO):Hp:=λb=>if b=a then some o else H b
def bO{o:HO}:upd H a o a=some o:=by unfold upd;rw[aX rfl]
def bo{b:Addr}{o:HO}(h:b≠a):upd H a o b=H b:=by unfold upd;rw[ba h]
theorem Vq{b:Addr}{o u:HO}(h:H a=some o)(h':H b=some u)(d:o≠u):a≠b:=by
 intro e;subst e;rw[h]at h';exact d (Option.some.inj h')
def bT{b:Addr}{o:HO}(h:H a=some o)(h':H b=none):a≠b:=by
 intro e;subst e;rw[h]at h';cases h'
section
variable (P:Program)(w:World)
def cY(H:Hp)(h:Heap)(a:Addr):HO->Prop
 |.lst xs=>xs.length<=sizeLine/\∃(cw:List Value) (n:Nat),Vals xs cw/\h.get? a=some {cls:=.type "list",data:=.seq cw.toArray n}
 |.tup xs=>xs.length<=sizeLine/\∃cw:List Value,Vals xs cw/\IsTup h a cw.toArray
 |.dK kvs=>kvs.length<=sizeLine/\(a==sysModules)=false/\∃vs,KV kvs vs/\h.DictOf (cp P w) a vs
 |.dT kvs=>kvs.length<=sizeLine/\(a==sysModules)=false/\∃xs:List (List Key×Addr×Value),
   Paired (λ(p:List Key×V) (q:List Key×Addr×Value)=>p.1=q.1/\H q.2.1=some (.tup (p.1.map kV))/\RelV p.2 q.2.2) kvs xs/\
   ∃o es ep,h.get? a=some o/\o.ExactDict/\o.data=.dict es ep/\es.toList=xs.map (entryOfKey (tupleKind (cp P w)))/\(xs.map (·.1)).Nodup
 |.set S n=>h.SetOf (intKind P w) a S n
 |.ins C dx fs=>H dx=some (.own a)/\fs.length<=1000/\dx≠a/\h.get? a=some (PySem.W.instObj C dx)/\
   ∃mA,h.Ns1 dx mA/\(∀f,lY (fs.lookup f) (mA f))/\PySem.Within mA (fs.map (·.1))
 |.own _=>∃o,h.get? a=some o
 |.xd fs=>∃mA,h.Ns1 a mA/\∀f,lY (fs.lookup f) (mA f)
 |.Zx lo hi=>∃t u v,h.get? a=some {cls:=.type "range",data:=.fields #[.int lo t,.int hi u,.int 1 v]}
 |.lD o u=>h.get? a=some o/\cY H h a u
 |.PQ ps=>h.get? a=some {cls:=.none,data:=.fields ps}
 |.met f x=>h.get? a=some (PySem.W.methodObj (.ref f) (.ref x))
 |.ext φ=>φ h/\(∃o,h.get? a=some o)/\∀h1 h2:Heap,φ h1->(∀o,h1.get? a=some o->h2.get? a=some o)->φ h2
def r8(H:Hp)(h:Heap):Prop:=∀a o,H a=some o->cY P w H h a o
end
section
variable {h':Heap}{o:HO}
theorem cY.lt (x:cY P w H aa a o):a<aa.objs.size:=by
 cases o with
 |lst xs=>obtain⟨_,_,_,_,e⟩:=x;exact bA e
 |tup xs=>obtain⟨_,_,_,p⟩:=x;exact p.lt
 |dK kvs=>obtain⟨_,_,_,_,o,_,_,e,_⟩:=x;exact bA e
 |dT kvs=>obtain⟨_,_,_,_,o,_,_,e,_⟩:=x;exact bA e
 |set S n=>obtain⟨o,_,_,_,e,_⟩:=x;exact bA e
 |ins C dx fs=>obtain⟨_,_,_,e,_⟩:=x;exact bA e
 |own y=>obtain⟨_,e⟩:=x;exact bA e
 |xd fs=>obtain⟨_,⟨_,_,_,e,_⟩,_⟩:=x;exact bA e
 |Zx lo hi=>obtain⟨_,_,_,e⟩:=x;exact bA e
 |lD b u=>obtain⟨e,_⟩:=x;exact bA e
 |PQ ps=>exact bA (show aa.get? a=some _ from x)
 |met f y=>exact bA (show aa.get? a=some _ from x)
 |ext g=>obtain⟨_,⟨_,e⟩,_⟩:=x;exact bA e
theorem Paired.Q8 {α β:Type}{F G:α->β->Prop}:∀{q:List α} {AQ:List β},Paired F q AQ->(∀a b,F a b->G a b)->Paired G q AQ
 |_,_,.nil,_=>.nil
 |_,_,.cons r t,f=>.cons (f _ _ r) (Paired.Q8 t f)
theorem cY.pM (x:cY P w H aa a o)(k:∀b u,(b=a\/H b=some (.own a))->aa.get? b=some u->h'.get? b=some u)
  (ho:∀b,H b=some (.own a)->ac b=some (.own a)) (ht:∀b xs,H b=some (.tup xs)->ac b=some (.tup xs)):cY P w ac h' a o:=by
 induction o with
 |lst xs=>obtain⟨z,cw,n,r,e⟩:=x;exact⟨z,cw,n,r,k _ _ (.inl rfl) e⟩
 |tup xs=>obtain⟨z,cw,r,ob,e,c⟩:=x;exact⟨z,cw,r,ob,k _ _ (.inl rfl) e,c⟩
 |dK kvs=>obtain⟨z,y,vs,r,ob,es,ep,e,c⟩:=x;exact⟨z,y,vs,r,ob,es,ep,k _ _ (.inl rfl) e,c⟩
 |dT kvs=>
  obtain⟨z,y,xs,r,ob,es,ep,e,c⟩:=x;exact⟨z,y,xs,Paired.Q8 r λp q z=>⟨z.1,ht _ _ z.2.1,z.2.2⟩,ob,es,ep,k _ _ (.inl rfl) e,c⟩
 |set S n=>obtain⟨ob,es,ep,t,e,c⟩:=x;exact⟨ob,es,ep,t,k _ _ (.inl rfl) e,c⟩
 |ins C dx fs=>
  obtain⟨d,z,ne,e,mA,⟨g,es,ep,l,c⟩,r⟩:=x;exact⟨ho _ d,z,ne,k _ _ (.inl rfl) e,mA,⟨g,es,ep,k _ _ (.inr d) l,c⟩,r⟩
 |own y=>obtain⟨ob,e⟩:=x;exact⟨ob,k _ _ (.inl rfl) e⟩
 |xd fs=>obtain⟨mA,⟨g,es,ep,e,c⟩,r⟩:=x;exact⟨mA,⟨g,es,ep,k _ _ (.inl rfl) e,c⟩,r⟩
 |Zx lo hi=>obtain⟨t,u,v,e⟩:=x;exact⟨t,u,v,k _ _ (.inl rfl) e⟩
 |lD ob u I=>obtain⟨e,q⟩:=x;exact⟨k _ _ (.inl rfl) e,I q⟩
 |PQ ps=>
  have e:aa.get? a=some {cls:=.none,data:=.fields ps}:=x;show h'.get? a=some {cls:=.none,data:=.fields ps};exact k a _ (.inl rfl) e
 |met f y=>
  have e:aa.get? a=some (PySem.W.methodObj (.ref f) (.ref y)):=x;show h'.get? a=some (PySem.W.methodObj (.ref f) (.ref y));exact k a _ (.inl rfl) e
 |ext L=>obtain⟨p,⟨o,e⟩,st⟩:=x;exact⟨st _ _ p λo q=>k _ _ (.inl rfl) q,⟨o,k _ _ (.inl rfl) e⟩,st⟩
theorem r8.lt (x:r8 P w H aa)(e:H a=some o):a<aa.objs.size:=(x a o e).lt
def r8.fresh (x:r8 P w H aa)(e:aa.objs.size<=a):H a=none:=by
 cases q:H a with
 |none=>rfl
 |some u=>exact absurd (dg (x.lt q) e) (fb _)
def r8.kept (x:r8 P w H aa)(k:∀b u,aa.get? b=some u->h'.get? b=some u):r8 P w H h':=λa o e=>
 (x a o e).pM (λb u _ q=>k b u q) (λ_ q=>q) λ_ _ q=>q
def r8.laid (x:r8 P w H aa)(k:∀b u,aa.get? b=some u->h'.get? b=some u)(hp:aa.objs.size<=a)(new:cY P w (upd H a o) h' a o):r8 P w (upd H a o) h':=λb u e=>by
 have g:=x.fresh hp;by_cases hb:b=a
 ·subst hb;rw[bO]at e;cases e;exact new
 ·rw[bo hb]at e;exact(x b u e).pM (λc v _ q=>k c v q) (λc q=>by rw[bo (bT q g)];exact q) λc xs q=>by rw[bo (bT q g)];exact q
end
def Rd(H:Hp)(a:Addr)(u:HO):Prop:=H a=some u\/∃o,H a=some (.lD o u)
def Rd.ok {h:Heap}{a:Addr}{u:HO}(r:Rd H a u)(x:r8 P w H h):cY P w H h a u:=by
 rcases r with r|⟨o,r⟩
 ·exact x a u r
 ·obtain⟨_,q⟩:=x a _ r;exact q
def Vs:Option HO->Prop
 |some (.lst _)=>True
 |some (.dK _)=>True
 |some (.dT _)=>True
 |some (.set _ _)=>True
 |some (.ins _ _ _)=>True
 |some (.ext _)=>True
 |_=>False
section
variable {h':Heap}{x e:Addr}{o':HO}
def r8.write (ok:r8 P w H aa)(mu:Vs (H x))(he:e=x\/H e=some (.own x))(k:∀b u,b≠e->aa.get? b=some u->h'.get? b=some u)(UT:∃u,h'.get? e=some u)
  (new:cY P w (upd H x o') h' x o'):r8 P w (upd H x o') h':=λb u q=>by
 have I:∀c y,H c=some (.own y)->c≠x:=λc y r z=>by subst z;rw[r]at mu;exact mu
 have n:∀c xs,H c=some (.tup xs)->c≠x:=λc xs r z=>by subst z;rw[r]at mu;exact mu
 by_cases hb:b=x
 ·subst hb;rw[bO]at q;cases q;exact new
 ·rw[bo hb]at q;by_cases g:b=e
  ·have L:H b=some (.own x):=by
    rcases he with z|z
    ·exact absurd (g.trans z) hb
    ·rw[g];exact z
   rw[q]at L;cases L;obtain⟨v,M⟩:=UT;exact⟨v,by rw[g];exact M⟩
  ·refine(ok b u q).pM (λc v l r=>k c v ?_ r) (λc r=>by rw[bo (I c b r)];exact r) λc xs r=>by rw[bo (n c xs r)];exact r
   rcases l with rfl|l
   ·exact g
   ·rintro rfl
    rcases he with z|z
    ·exact I c b l z
    ·rw[l]at z;cases z;exact hb rfl
end
structure Un(fs ex:List Addr)(H H':Hp)(h h':Heap):Prop where
 keep:∀b o,h.get? b=some o->H b=none->b∉fs->b∉ex->h'.get? b=some o
 slot:∀b o,h.get? b=some o->H b=none->b∈fs->b∉ex->∃sl,h'.get? b=some {o with slots:=sl}
 free:∀b o,h.get? b=some o->H b=none->b∉ex->H' b=none
 there:∀b o,h.get? b=some o->b∉ex->∃o',h'.get? b=some o'
 mU:∀b xs,H b=some (.tup xs)->H' b=some (.tup xs)
 lE:∀b o u,H b=some (.lD o u)->H' b=some (.lD o u)
 nM:∀b ps,H b=some (.PQ ps)->∃more,H' b=some (.PQ (ps++more))
section
variable {fs fs' ex ex':List Addr}{H2:Hp}{h h2 h':Heap}{x e:Addr}{o:HO}
def Un.any (u:Un fs ex H ac h aa){b:Addr}{ob:Obj}(q:h.get? b=some ob)(n:H b=none)(hx:b∉ex):∃sl,aa.get? b=some {ob with slots:=sl}:=by
 by_cases hb:b∈fs
 ·exact u.slot b ob q n hb hx
 ·exact⟨ob.slots,u.keep b ob q n hb hx⟩
theorem Un.trans (a:Un fs ex H ac h aa)(b:Un fs ex ac H2 aa h2):Un fs ex H H2 h h2 where
 keep:=λc g q n I l=>b.keep c g (a.keep c g q n I l) (a.free c g q n l) I l
 slot:=λc g q n I l=>by
  obtain⟨sl,r⟩:=a.slot c g q n I l;obtain⟨M,L⟩:=b.slot c _ r (a.free c g q n l) I l;exact⟨M,L⟩
 free:=λc g q n l=>by
  obtain⟨o',r⟩:=a.there c g q l;exact b.free c o' r (a.free c g q n l) l
 there:=λc g q l=>by
  obtain⟨o',r⟩:=a.there c g q l;exact b.there c o' r l
 mU:=λc xs q=>b.mU c xs (a.mU c xs q)
 lE:=λc g xs q=>b.lE c g xs (a.lE c g xs q)
 nM:=λc ps q=>by
  obtain⟨S,r⟩:=a.nM c ps q;obtain⟨m2,L⟩:=b.nM c _ r;exact⟨S++m2,by rw[L,Array.append_assoc]⟩
def Un.kept (k:∀b u,h.get? b=some u->h'.get? b=some u):Un fs ex H H h h':=
 ⟨λb g q _ _ _=>k b g q,λb g q _ _ _=>⟨g.slots,k b g q⟩,λ_ _ _ n _=>n,λb g q _=>⟨g,k b g q⟩,λ_ _ q=>q,λ_ _ _ q=>q,λ_ ps q=>⟨#[],by rw[q];simp⟩⟩
def Un.refl:Un fs ex H H h h:=Un.kept λ_ _ q=>q
def Un.laid (k:∀b u,h.get? b=some u->h'.get? b=some u)(hp:h.objs.size<=a)(hn:H a=none):Un fs ex H (upd H a o) h h' where
 keep:=λb u q _ _ _=>k b u q
 slot:=λb u q _ _ _=>⟨u.slots,k b u q⟩
 free:=λb u q n _=>by rw[bo (cc (dg (bA q) hp))];exact n
 there:=λb u q _=>⟨u,k b u q⟩
 mU:=λb xs q=>by rw[bo (bT q hn)];exact q
 lE:=λb u xs q=>by rw[bo (bT q hn)];exact q
 nM:=λb ps q=>⟨#[],by rw[bo (bT q hn),q];simp⟩
def Un.write (mu:Vs (H x))(he:e=x\/H e=some (.own x))(k:∀b u,b≠e->h.get? b=some u->h'.get? b=some u)(UT:∃u,h'.get? e=some u):Un fs ex H (upd H x o) h h':=by
 have g:∀b,H b=none->b≠x:=λb n z=>by subst z;rw[n]at mu;exact mu
 have hb:∀b,H b=none->b≠e:=λb n z=>by
  subst z;rcases he with r|r
  ·exact g b n r
  ·rw[n]at r;cases r
 have hm:∀b u,H b=some u->¬Vs (some u)->b≠x:=λb u q nm z=>by subst z;rw[q]at mu;exact nm mu
 refine⟨λb u q n _ _=>k b u (hb b n) q,λb u q n _ _=>⟨u.slots,k b u (hb b n) q⟩,λb u q n _=>by rw[bo (g b n)];exact n,λb u q _=>?_,
  λb xs q=>by rw[bo (hm b _ q λz=>z)];exact q,λb u xs q=>by rw[bo (hm b _ q λz=>z)];exact q,λb ps q=>⟨#[],by rw[bo (hm b _ q λz=>z),q];simp⟩⟩
 by_cases l:b=e
 ·subst l;exact UT
 ·exact⟨u,k b u l q⟩
end
noncomputable def Zy(h:Heap)(H:Hp):List Addr:=(List.range h.objs.size).filter λa=>(H a).isSome
def AR(h:Heap)(H:Hp):Heap:=PySem.W.hideAll h (Zy h H)
def HN(h:Heap)(H:Hp):(AR h H).objs.size=h.objs.size:=PySem.W.hideAll_size _ _
def JM{o:Obj}(e:aa.get? a=some o)(n:H a=none):(AR aa H).get? a=some o:=
 mC _ e λhm=>by
  have q:(H a).isSome=true:=(e_.mp hm).2;rw[n]at q;simp at q
def Nh{h:Heap}{o:Obj}(e:(AR h H).get? a=some o):h.get? a=some o/\H a=none:=by
 have b:h.get? a=some o:=mE (Zy h H) e;refine⟨b,?_⟩;cases q:H a with
 |none=>rfl
 |some x=>
  have hm:a∈Zy h H:=e_.mpr ⟨tX.mpr (bA b),by simp[q]⟩;have z:(AR h H).get? a=none:=lJ (Zy h H) hm;rw[z]at e;cases e
structure Mod(K:Frag)(mg:Str->Option Value)(base:Heap):Prop where
 PR:K.In base
 glob:base.Ns mainGlobals mg
 blt:∃mb,base.Ns builtinsNs mb/\∀x:Str,x≠"__name__"->mb x=bootBuiltins x
 nolimit:base.NoLimit
structure Cx where
 prog:Program
 w:World
 K:Frag
 mg:Str->Option Value
 base:Heap
 A:Around
 N:List Str
 gD:Shared
 Cu:Hp
 env:Env
 outer:List Env
 stack:List Env
 ex:List Addr
 fn:Str->Bool
 calm:Bool
 pn:List (Addr×Obj)
 xe:Value->Shared->Prop
variable {X:Cx}
abbrev zl(X:Cx)(x:Str):Prop:=X.fn x=true\/X.env.scope.names.lookup x=some .local
noncomputable def jU(l:List Env):List Addr:=l.filterMap (·.frame)
abbrev Cx.fs (X:Cx):List Addr:=jU X.outer
def Zz(sc:Scope)(x:Str):Prop:=sc.names.lookup x=some .local\/sc.names.lookup x=some .cell\/sc.names.lookup x=some .free
def Loc(sc:Scope)(x:Str):Prop:=sc.names.lookup x=some .local\/sc.names.lookup x=some .cell
def Look(env:Env)(h:Heap)(m:Str->Option Value)(x:Str)(u:Value):Prop:=
 (env.kindOf x=some .local/\m x=some u)\/((env.kindOf x=some .cell\/env.kindOf x=some .free)/\∃c,env.cells.lookup x=some c/\h.IsCell c (some u))
structure Cx.Ok (X:Cx):Prop where
 mod:Mod X.K X.mg X.base
 kind:X.env.scope.kind=.function
 glob:X.env.globals=mainGlobals
 blt:X.env.builtins=builtinsNs
 above:X.gD.heap.objs.size<=X.env.locals
 inj:∀x y c,X.env.cells.lookup x=some c->X.env.cells.lookup y=some c->x=y
 has:∀x,(X.env.kindOf x=some .cell\/X.env.kindOf x=some .free)->∃c,X.env.cells.lookup x=some c
 PU:∀x c,X.fn x=true->X.env.cells.lookup x=some c->X.gD.heap.objs.size<=c
 hd:X.calm=true->X.A.handled=none
 frames:X.A.frames=some X.stack
 M7:X.stack=X.outer\/(X.stack=X.env::X.outer/\X.env.frame=some X.env.locals)
 UU:∀b∈X.ex,b≠X.env.locals/\∀x c,X.env.cells.lookup x=some c->c≠b
 bs:∀b o,X.base.get? b=some o->X.gD.heap.get? b=some o/\X.Cu b=none
 HP:X.base.objs.size<=X.gD.heap.objs.size
 AS:∀b o,X.base.get? b=some o->b∉X.ex
 Cv:∀b∈X.ex,b∉X.fs
 rq:X.gD.heap.FunFrames X.base X.outer
 JN:∀b∈X.fs,X.Cu b=none
structure Inv(X:Cx)(U:List (Addr×Obj))(Z:List (Option V))(H:Hp)(s:Shared):Prop where
 ok:X.Ok
 os:s.os=X.gD.os
 bare:AllBare s.gens
 base:Un X.fs X.ex X.Cu H X.gD.heap s.heap
 loc:∃m,s.heap.Ns X.env.locals m/\∀(i:Nat) (x:Str) (v:V),X.N[i]?=some x->Z[i]?=some (some v)->Zz X.env.scope x->∃u,RelV v u/\Look X.env s.heap m x u
 cell:∀x c,X.env.cells.lookup x=some c->∃v,s.heap.IsCell c v
 free:H X.env.locals=none
 gg:∀x c,X.env.cells.lookup x=some c->H c=none
 pin:∀p∈X.pn++U,s.heap.get? p.1=some p.2/\H p.1=none/\p.1≠X.env.locals/\p.1∉X.fs/\∀v,p.2.data≠ .cell v
 cX:r8 X.prog X.w H s.heap
 len:Z.length=X.N.length
section
variable {Z:List (Option V)}{H':Hp}{h':Heap}
def Cx.Ok.aae (ok:X.Ok){b:Addr}{o:Obj}(e:X.base.get? b=some o):b∉X.fs:=λhb=>by
 have:=(ok.rq.mem hb).1;rw[e]at this;cases this
theorem Inv.bs (I:Inv X U Z H s):∀b o,X.base.get? b=some o->s.heap.get? b=some o/\H b=none:=λb o e=>
 ⟨I.base.keep b o (I.ok.bs b o e).1 (I.ok.bs b o e).2 (I.ok.aae e) (I.ok.AS b o e),I.base.free b o (I.ok.bs b o e).1 (I.ok.bs b o e).2 (I.ok.AS b o e)⟩
def Inv.bk (I:Inv X U Z H s):∀b o,X.base.get? b=some o->s.heap.get? b=some o:=λb o e=>(I.bs b o e).1
theorem Inv.mod (I:Inv X U Z H s):Mod X.K X.mg X.base:=I.ok.mod
def Inv.lZ (I:Inv X U Z H s):X.K.In s.heap:=I.ok.mod.PR.keeps I.bk
def Inv.fr (I:Inv X U Z H s):∃m,Fr X.base X.env.locals s.heap m:=
 let⟨m,hn,_⟩:=I.loc
 ⟨m,hn,I.bk,cC I.ok.HP I.ok.above⟩
theorem Inv.lt (I:Inv X U Z H s):X.env.locals<s.heap.objs.size:=let⟨_,hn,_⟩:=I.loc;hn.lt
def Inv.sz (I:Inv X U Z H s):X.gD.heap.objs.size<=s.heap.objs.size:=cC I.ok.above (dq I.lt)
def Inv.Vv (I:Inv X U Z H s)(h:s.heap.objs.size<=a):a∉X.fs:=λhb=>by
 obtain⟨_,o,b,_⟩:=I.ok.rq.mem hb;exact absurd (dg (bA b) (cC I.sz h)) (fb _)
def Inv.HQ (I:Inv X U Z H s):∀x c,X.env.cells.lookup x=some c->c≠X.env.locals:=λx c e z=>by
 obtain⟨v,o,b,hd⟩:=I.cell x c e;obtain⟨m,⟨o',es,ep,g,l,_⟩,_⟩:=I.loc;rw[z,g]at b;cases b;rw[l]at hd;cases hd
theorem Inv.rq (I:Inv X U Z H s):s.heap.FunFrames X.base X.outer:=by
 have all:∀(l:List Env),(∀b∈jU l,b∈X.fs)->X.gD.heap.FunFrames X.base l->s.heap.FunFrames X.base l:=by
  intro l
  induction l with
  |nil=>intro _ _;trivial
  |cons env r n=>
   intro hs M;obtain⟨S,⟨L,o,hf,hn,q,hd⟩,hr⟩:=M;have g:L∈X.fs:=hs L (by unfold jU;rw[pb,hf];exact cB);obtain⟨sl,e⟩:=I.base.slot L o q (I.ok.JN L g) g λz=>I.ok.Cv L z g;exact⟨S,⟨L,_,hf,hn,e,hd⟩,n (λb hb=>hs b (by unfold jU;rw[pb,hf];exact cx _ hb)) hr⟩
 exact all X.outer (λ_ hb=>hb) I.ok.rq
theorem Inv.stack (I:Inv X U Z H s):s.heap.FunFrames X.base X.stack:=by
 rcases I.ok.M7 with e|⟨e,hf⟩
 ·rw[e];exact I.rq
 ·rw[e];obtain⟨m,hn,_⟩:=I.loc;refine .cons (by rw[I.ok.kind];decide) hf hn ?_ I.rq
  exact Heap.get?_none_of_le (cC I.ok.HP I.ok.above)
def Inv.xK (I:Inv X U Z H s):∀b∈jU X.stack,b∈X.env.locals::X.fs:=λb hb=>by
 rcases I.ok.M7 with e|⟨e,hf⟩
 ·rw[e]at hb;exact cx _ hb
 ·rw[e]at hb;unfold jU at hb;rw[pb,hf]at hb;exact hb
def Inv.wG (I:Inv X U Z H s):∀b∈jU X.stack,H b=none:=λb hb=>by
 rcases bI.mp (I.xK b hb)with e|hb
 ·rw[e];exact I.free
 ·obtain⟨_,o,g,_⟩:=I.ok.rq.mem hb;exact I.base.free b o g (I.ok.JN b hb) λz=>I.ok.Cv b z hb
def Inv.step {g':Array GenState}{t':Nat}{d':Drawn}{ch:List Addr}(I:Inv X U Z H s)
  (zJ:∀b∈ch,(b∈X.ex\/X.gD.heap.objs.size<=b)/\b≠X.env.locals/\(∀x c,X.env.cells.lookup x=some c->c≠b)/\∀p∈X.pn++U,p.1≠b)
  (keep:∀b o,b≠X.env.locals->b∉X.fs->b∉ch->s.heap.get? b=some o->H b=none->h'.get? b=some o)
  (slot:∀b o,b≠X.env.locals->b∈X.fs->b∉ch->s.heap.get? b=some o->H b=none->∃sl,h'.get? b=some {o with slots:=sl}) (free:∀b o,b∉ch->s.heap.get? b=some o->H b=none->H' b=none)
  (there:∀b o,b∉ch->s.heap.get? b=some o->∃o',h'.get? b=some o')
  (mU:∀b xs,H b=some (.tup xs)->H' b=some (.tup xs)) (lE:∀b o u,H b=some (.lD o u)->H' b=some (.lD o u)) (nM:∀b ps,H b=some (.PQ ps)->∃more,H' b=some (.PQ (ps++more)))
  (ns:∀m,s.heap.Ns X.env.locals m->h'.Ns X.env.locals m) (cX:r8 X.prog X.w H' h') (hg:AllBare g'):
  Inv X U Z H' {s with heap:=h',gens:=g',drawn:=d',toks:=t'}:=by
 have S:∀b o,X.gD.heap.get? b=some o->b≠X.env.locals:=λb o e=>cc (dg (bA e) I.ok.above);have Nk:∀b o,X.gD.heap.get? b=some o->b∉X.ex->b∉ch:=λb o e g hb=>by
  rcases(zJ b hb).1 with z|z
  ·exact g z
  ·exact absurd (dg (bA e) z) (fb _)
 have cellK:∀x c,X.env.cells.lookup x=some c->∀v,s.heap.IsCell c v->h'.IsCell c v:=λx c e v ⟨o,M,hd⟩=>by
  have JO:c∉ch:=λz=>(zJ c z).2.2.1 x c e rfl;by_cases hc:c∈X.fs
  ·obtain⟨sl,q⟩:=slot c o (I.HQ x c e) hc JO M (I.gg x c e);exact⟨_,q,hd⟩
  ·exact⟨o,keep c o (I.HQ x c e) hc JO M (I.gg x c e),hd⟩
 refine⟨I.ok,I.os,hg,⟨λb o e n hb g=>?_,λb o e n hb g=>?_,λb o e n g=>?_,λb o e g=>?_,λb xs e=>mU b xs (I.base.mU b xs e),λb o xs e=>lE b o xs (I.base.lE b o xs e),λb ps e=>?_⟩,?_,λx c e=>?_,?_,λx c e=>?_,λp hp=>?_,cX,I.len⟩
 ·exact keep b o (S b o e) hb (Nk b o e g) (I.base.keep b o e n hb g) (I.base.free b o e n g)
 ·obtain⟨sl,L⟩:=I.base.slot b o e n hb g;obtain⟨Vu,e2⟩:=slot b _ (S b o e) hb (Nk b o e g) L (I.base.free b o e n g);exact⟨Vu,e2⟩
 ·obtain⟨o',L⟩:=I.base.there b o e g;exact free b o' (Nk b o e g) L (I.base.free b o e n g)
 ·obtain⟨o',L⟩:=I.base.there b o e g;exact there b o' (Nk b o e g) L
 ·obtain⟨m1,L⟩:=I.base.nM b ps e;obtain⟨m2,e2⟩:=nM b _ L;exact⟨m1++m2,by rw[e2,Array.append_assoc]⟩
 ·obtain⟨m,hn,hl⟩:=I.loc;refine⟨m,ns m hn,λi x v L e2 e3=>?_⟩;obtain⟨u,r,l⟩:=hl i x v L e2 e3;refine⟨u,r,?_⟩;rcases l with l|⟨k,c,e,z⟩
  ·exact .inl l
  ·exact .inr ⟨k,c,e,cellK x c e _ z⟩
 ·obtain⟨v,z⟩:=I.cell x c e;exact⟨v,cellK x c e v z⟩
 ·obtain⟨m,⟨o,_,_,M,_⟩,_⟩:=I.loc;exact free _ o (λz=>(zJ _ z).2.1 rfl) M I.free
 ·obtain⟨v,o,M,hd⟩:=I.cell x c e;exact free c o (λz=>(zJ c z).2.2.1 x c e rfl) M (I.gg x c e)
 ·obtain⟨e,n,ne,nf,d⟩:=I.pin p hp;have JO:p.1∉ch:=λz=>(zJ p.1 z).2.2.2 p hp rfl;exact⟨keep p.1 p.2 ne nf JO e n,free p.1 p.2 JO e n,ne,nf,d⟩
theorem Inv.un {t':Nat}(I:Inv X U Z H s)(u:Un X.fs [] H H' s.heap h')(q:r8 X.prog X.w H' h'):Inv X U Z H' {s with heap:=h',toks:=t'}:=by
 obtain⟨m,⟨o,es,ep,g,r⟩,_⟩:=id I.loc;obtain⟨sl,L⟩:=u.any g I.free (by simp);exact I.step (g':=s.gens) (d':=s.drawn) (ch:=[]) (λ_ z=>nomatch z) (λb o _ hb _ e n=>u.keep b o e n hb (by simp)) (λb o _ hb _ e n=>u.slot b o e n hb (by simp)) (λb o _ e n=>u.free b o e n (by simp)) (λb o _ e=>u.there b o e (by simp)) u.mU u.lE u.nM (λm' hm=>by
  obtain⟨o',M,S,l,r'⟩:=hm;rw[g]at l;cases l;exact⟨_,M,S,L,r'⟩) q I.bare
theorem Inv.call {g':Array GenState}{t':Nat}{d':Drawn}{ch:List Addr}(I:Inv X U Z H s)(u:Un (jU X.stack) ch H H' s.heap h')(cX:r8 X.prog X.w H' h')(hg:AllBare g')
  (q:∀b∈ch,(b∈X.ex\/X.gD.heap.objs.size<=b)/\b≠X.env.locals/\(∀x c,X.env.cells.lookup x=some c->c≠b)/\∀p∈X.pn++U,p.1≠b):
  Inv X U Z H' {s with heap:=h',gens:=g',drawn:=d',toks:=t'}:=by
 obtain⟨m,⟨o,es,ep,L,r⟩,_⟩:=id I.loc;obtain⟨sl,l⟩:=u.any L I.free λz=>(q _ z).2.1 rfl;exact I.step (ch:=ch) q (λb o l hb g e n=>u.keep b o e n (λz=>(bI.mp (I.xK b z)).elim l hb) g) (λb o _ _ g e n=>u.any e n g) (λb o g e n=>u.free b o e n g) (λb o g e=>u.there b o e g) u.mU u.lE u.nM (λm' hm=>by
  obtain⟨o',S,JP,M,r'⟩:=hm;rw[L]at M;cases M;exact⟨_,S,JP,l,r'⟩) cX hg
def Inv.turned {t':Nat}{it:Addr}(I:Inv X U Z H s)(k:∀b o,b≠it->s.heap.get? b=some o->h'.get? b=some o)(hn:H it=none)(hL:it≠X.env.locals)
  (h1:it∈X.ex\/X.gD.heap.objs.size<=it) (h2:∀x c,X.env.cells.lookup x=some c->c≠it) (h3:∀p∈X.pn++U,p.1≠it):Inv X U Z H {s with heap:=h',toks:=t'}:=by
 have l:∀b u,H b=some u->b≠it:=λb u e z=>by rw[z,hn]at e;cases e
 refine I.step (g':=s.gens) (d':=s.drawn) (ch:=[it]) (λb hb=>?_) (λb o _ _ g e _=>k b o (λz=>g (by simp[z])) e) (λb o _ _ g e _=>⟨o.slots,k b o (λz=>g (by simp[z])) e⟩) (λ_ _ _ _ n=>n)
  (λb o g e=>⟨o,k b o (λz=>g (by simp[z])) e⟩) (λ_ _ e=>e) (λ_ _ _ e=>e) (λb ps e=>⟨#[],by rw[e];simp⟩) (λm hm=>?_) (λb u e=>?_) I.bare
 ·have e:b=it:=by simpa using hb
  subst e;exact⟨h1,hL,h2,h3⟩
 ·obtain⟨o,es,ep,L,r⟩:=hm;exact⟨o,es,ep,k _ o (Ne.symm hL) L,r⟩
 ·refine(I.cX b u e).pM (λc v g q=>k c v ?_ q) (λ_ q=>q) λ_ _ q=>q;rcases g with z|z
  ·rw[z];exact l b u e
  ·exact l c _ z
def Inv.tok (I:Inv X U Z H s)(t:Nat):Inv X U Z H {s with toks:=t}:=I.un (h':=s.heap) (t':=t) Un.refl I.cX
theorem Inv.kept {t':Nat}(I:Inv X U Z H s)(k:∀b u,s.heap.get? b=some u->h'.get? b=some u):Inv X U Z H {s with heap:=h',toks:=t'}:=I.un (Un.kept k) (I.cX.kept k)
theorem Inv.laid {a:Addr}{o:HO}{t':Nat}(I:Inv X U Z H s)(k:∀b u,s.heap.get? b=some u->h'.get? b=some u)(hp:s.heap.objs.size<=a)(new:cY X.prog X.w (upd H a o) h' a o):
  Inv X U Z (upd H a o) {s with heap:=h',toks:=t'}:=I.un (Un.laid k hp (I.cX.fresh hp)) (I.cX.laid k hp new)
theorem Inv.write {x e:Addr}{o:HO}{t':Nat}(I:Inv X U Z H s)(q:Vs (H x))(he:e=x\/H e=some (.own x))(k:∀b u,b≠e->s.heap.get? b=some u->h'.get? b=some u)(UT:∃u,h'.get? e=some u)
  (new:cY X.prog X.w (upd H x o) h' x o):Inv X U Z (upd H x o) {s with heap:=h',toks:=t'}:=I.un (Un.write q he k UT) (I.cX.write q he k UT new)
def Inv.ke {JR:List (Addr×Obj)}(I:Inv X U Z H s)(h:∀p∈JR,s.heap.get? p.1=some p.2/\H p.1=none/\p.1≠X.env.locals/\p.1∉X.fs/\∀v,p.2.data≠ .cell v):Inv X JR Z H s:=
 ⟨I.ok,I.os,I.bare,I.base,I.loc,I.cell,I.free,I.gg,λp hp=>(dm.mp hp).elim (λz=>I.pin p (jZ _ z)) (h p),I.cX,I.len⟩
theorem ud(q:ps.Nodup){j:Nat}(a:ps[i]?=some x)(b:ps[j]?=some x):i=j:=by
 obtain⟨n,g⟩:=gx.mp a;obtain⟨h2,l⟩:=gx.mp b;exact(List.getElem_inj q).mp (g.trans l.symm)
theorem zK{M:Model}{v:V}(I:Inv X U Z H s)(hN:X.N.Nodup)(hi:X.N[i]?=some x)(hx:Loc X.env.scope x)(r:RelV v af)
  (h:∀s',Inv X U (Z.set i (some v)) H s'->(∃a,Heap.SameBut a s.heap s'.heap/\(a=X.env.locals\/X.env.cells.lookup x=some a))->ae () s') (hf:zl X x:=by first|exact .inl rfl|exact .inr rfl|assumption):wpAny M A (storeName X.env x af) ae E s:=by
 obtain⟨m,hn,hl⟩:=id I.loc;have AV:(X.env.scope.kind== .class||(X.env.scope.kind== .module&&X.env.locals !=X.env.globals))=false:=by rw[I.ok.kind];rfl
 have Vx:i<Z.length:=by rw[I.len];exact(gx.mp hi).1
 have HQ:=I.HQ;have tracked:∀{a:Addr} {h':Heap},(∃o,s.heap.get? a=some o/\H a=none)->Heap.SameBut a s.heap h'->r8 X.prog X.w H h':=λ{a h'} ha hs b ob e=>by
  obtain⟨_,_,F3⟩:=ha;refine(I.cX b ob e).pM (λc w' l q=>(hs.2 c ?_).trans q) (λ_ q=>q) λ_ _ q=>q
  rintro rfl
  rcases l with rfl|l
  ·rw[F3]at e;cases e
  ·rw[F3]at l;cases l
 rcases hx with S|S
 ·refine wpAny_storeName_local S hn (λh' PV hs=>?_) AV;obtain⟨oL,_,_,F4,_⟩:=id hn;refine h _ ⟨I.ok,I.os,I.bare,⟨λb o e n hb hx=>?_,λb o e n hb hx=>?_,I.base.free,λb o e hx=>?_,I.base.mU,I.base.lE,I.base.nM⟩,⟨_,PV,λj y v' g L e3=>?_⟩,λy c e=>?_,I.free,I.gg,λp hp=>?_,tracked ⟨oL,F4,I.free⟩ hs,by simpa using I.len⟩ ⟨_,hs,.inl rfl⟩
  ·exact(hs.2 b (cc (dg (bA e) I.ok.above))).trans (I.base.keep b o e n hb hx)
  ·obtain⟨sl,g⟩:=I.base.slot b o e n hb hx;exact⟨sl,(hs.2 b (cc (dg (bA e) I.ok.above))).trans g⟩
  ·obtain⟨o',g⟩:=I.base.there b o e hx;exact⟨o',(hs.2 b (cc (dg (bA e) I.ok.above))).trans g⟩
  ·by_cases hj:j=i
   ·subst hj;rw[hi]at g;cases g;rw[o9 Vx]at L;cases L;exact⟨af,r,.inl ⟨S,by simp⟩⟩
   ·rw[mB (Ne.symm hj)]at L;obtain⟨u',r',q⟩:=hl j y v' g L e3;refine⟨u',r',?_⟩;rcases q with⟨k,e⟩|⟨k,c,e,z⟩
    ·refine .inl ⟨k,?_⟩;have:y≠x:=λe=>hj (ud hN g (e▸hi));simp[this,e]
    ·exact .inr ⟨k,c,e,z.sameBut hs (HQ y c e)⟩
  ·obtain⟨w',z⟩:=I.cell y c e;exact⟨w',z.sameBut hs (HQ y c e)⟩
  ·obtain⟨e,n,ne,nf,d⟩:=I.pin p hp;exact⟨(hs.2 p.1 ne).trans e,n,ne,nf,d⟩
 ·have Nl:X.fn x=true:=by
   rcases hf with z|z
   ·exact z
   ·rw[z]at S;cases S
  obtain⟨c,l⟩:=I.ok.has x (.inl S);obtain⟨w',z⟩:=I.cell x c l;refine wpAny_storeName_cell I.ok.kind S l z (λh' Vy hs=>?_);obtain⟨oc,Q_,aaf⟩:=id z;refine h {s with heap:=h'} ⟨I.ok,I.os,I.bare,⟨λb o e n hb hx=>?_,λb o e n hb hx=>?_,I.base.free,λb o e hx=>?_,I.base.mU,I.base.lE,I.base.nM⟩,⟨m,hn.sameBut hs (Ne.symm (HQ x c l)),λj y v' g L e3=>?_⟩,λy c' e=>?_,I.free,I.gg,λp hp=>?_,tracked ⟨oc,Q_,I.gg x c l⟩ hs,by simpa using I.len⟩ ⟨c,hs,.inr l⟩
  ·exact(hs.2 b (cc (dg (bA e) (I.ok.PU x c Nl l)))).trans (I.base.keep b o e n hb hx)
  ·obtain⟨sl,g⟩:=I.base.slot b o e n hb hx;exact⟨sl,(hs.2 b (cc (dg (bA e) (I.ok.PU x c Nl l)))).trans g⟩
  ·obtain⟨o',g⟩:=I.base.there b o e hx;exact⟨o',(hs.2 b (cc (dg (bA e) (I.ok.PU x c Nl l)))).trans g⟩
  ·by_cases hj:j=i
   ·subst hj;rw[hi]at g;cases g;rw[o9 Vx]at L;cases L;exact⟨af,r,.inr ⟨.inl S,c,l,Vy⟩⟩
   ·rw[mB (Ne.symm hj)]at L;obtain⟨u',r',q⟩:=hl j y v' g L e3;refine⟨u',r',?_⟩;rcases q with q|⟨k,c',e,z'⟩
    ·exact .inl q
    ·refine .inr ⟨k,c',e,z'.sameBut hs ?_⟩
     rintro rfl
     exact hj (ud hN g (I.ok.inj _ _ _ e l▸hi))
  ·by_cases hcc:c'=c
   ·subst hcc;exact⟨_,Vy⟩
   ·obtain⟨w2,z2⟩:=I.cell y c' e;exact⟨w2,z2.sameBut hs hcc⟩
  ·obtain⟨e,n,ne,nf,d⟩:=I.pin p hp;refine⟨(hs.2 p.1 ?_).trans e,n,ne,nf,d⟩;intro q;rw[q,Q_]at e;have q':oc=p.2:=Option.some.inj e;exact d w' (by rw[<-q'];exact aaf)
def xM{M:Model}{v:V}(I:Inv X U Z H s)(q:X.N.Nodup)(hi:X.N[i]?=some x)(hx:Loc X.env.scope x)(r:RelV v af)
  (h:∀s',Inv X U (Z.set i (some v)) H s'->ae () s') (hf:zl X x:=by first|exact .inl rfl|exact .inr rfl|assumption):wpAny M A (storeName X.env x af) ae E s:=
 zK I q hi hx r (λs' b _=>h s' b) hf
def Inv.Vz {s':Shared}{ch:List Addr}(I:Inv X U Z H s)(q:s'.os=s.os)(u:Un (jU X.stack) ch H H' s.heap s'.heap)(cX:r8 X.prog X.w H' s'.heap)(hg:AllBare s'.gens)
  (zJ:∀b∈ch,(b∈X.ex\/X.gD.heap.objs.size<=b)/\b≠X.env.locals/\(∀x c,X.env.cells.lookup x=some c->c≠b)/\∀p∈X.pn++U,p.1≠b):Inv X U Z H' s':=by
 obtain⟨h',g',d',t',o'⟩:=s';have e:o'=s.os:=q;subst e;exact I.call (g':=g') (t':=t') (d':=d') u cX hg zJ
end
abbrev XK:=Value->Option Addr->Hp->Prop
abbrev St:=List (Option V)
variable {Z:St}
abbrev VK:=V->Hp->Prop
abbrev TE:=St->Hp->VK->Prop
abbrev TT:=St->Hp->(Bool->Hp->Prop)->Prop
abbrev TA:=St->Hp->(List V->Hp->Prop)->Prop
structure Ends where
 nx:St->Hp->Prop
 rt:VK
 bk:St->Hp->Prop:=fun _ _=>False
 ct:St->Hp->Prop:=fun _ _=>False
abbrev TS:=Ends->St->Hp->Prop
def EP(X:Cx)(U:List (Addr×Obj))(Z:St)(Q:VK)(u:Value)(s':Shared):Prop:=∃v H',Inv X U Z H' s'/\RelV v u/\Q v H'
def TP(X:Cx)(U:List (Addr×Obj))(Z:St)(Q:Bool->Hp->Prop)(b:Bool)(s':Shared):Prop:=∃H',Inv X U Z H' s'/\Q b H'
def AP(X:Cx)(U:List (Addr×Obj))(Z:St)(Q:List V->Hp->Prop)(us:List Value)(s':Shared):Prop:=∃vs H',Inv X U Z H' s'/\Vals vs us/\Q vs H'
def SP(X:Cx)(U:List (Addr×Obj))(D:Ends)(f:Flow)(s':Shared):Prop:=
 match f with
 |.next=>∃b H',Inv X U b H' s'/\D.nx b H'
 |.brk=>∃b H',Inv X U b H' s'/\D.bk b H'
 |.cont=>∃b H',Inv X U b H' s'/\D.ct b H'
 |.ret u=>∃v b H',Inv X U b H' s'/\RelV v u/\D.rt v H'
def PE(X:Cx)(e:Expr)(t:TE):Prop:=
 ∀(U:List (Addr×Obj)) (s:Shared) (Z:St) (H:Hp) (Q:VK),Inv X U Z H s->t Z H Q->wpAny (model X.prog X.w) X.A (eval e X.env) (EP X U Z Q) X.xe s
def PT(X:Cx)(e:Expr)(t:TT):Prop:=
 ∀(U:List (Addr×Obj)) (s:Shared) (Z:St) (H:Hp) (Q:Bool->Hp->Prop),Inv X U Z H s->t Z H Q->wpAny (model X.prog X.w) X.A (isTrue e X.env (eval e X.env)) (TP X U Z Q) X.xe s
def PW(X:Cx)(e:Expr)(t:TT):Prop:=
 ∀(whole:Sem Value) (U:List (Addr×Obj)) (s:Shared) (Z:St) (H:Hp) (Q:Bool->Hp->Prop),Inv X U Z H s->t Z H Q->wpAny (model X.prog X.w) X.A (isTrue e X.env whole) (TP X U Z Q) X.xe s
def PW.pt {t:TT}(h:PW X e t):PT X e t:=h _
def PA(X:Cx)(es:List Expr)(t:TA):Prop:=
 ∀(pos:Pos) (U:List (Addr×Obj)) (s:Shared) (Z:St) (H:Hp) (Q:List V->Hp->Prop),Inv X U Z H s->t Z H Q->wpAny (model X.prog X.w) X.A (spliced (backTo pos (starEach es X.env))) (AP X U Z Q) X.xe s
def PS(X:Cx)(st:Stmt)(t:TS):Prop:=
 ∀(U:List (Addr×Obj)) (s:Shared) (Z:St) (H:Hp) (D:Ends),Inv X U Z H s->t D Z H->wpAny (model X.prog X.w) X.A (exec st X.env) (SP X U D) X.xe s
def o5(X:Cx)(st:List Stmt)(t:TS):Prop:=
 ∀(U:List (Addr×Obj)) (s:Shared) (Z:St) (H:Hp) (D:Ends),Inv X U Z H s->t D Z H->wpAny (model X.prog X.w) X.A (execs st X.env) (SP X U D) X.xe s
def eJ{t:Sem ag}{Q q:ag->Shared->Prop}{M:Model}(h:wpAny M A t Q E s)(hQ:∀a s,Q a s->q a s):wpAny M A t q E s:=d7 h hQ λ_ _ x=>x
section
def aag(i:Nat):TE:=λZ H Q=>∃v,Z[i]?=some (some v)/\Q v H
def tC(v:V):TE:=λ_ H Q=>Q v H
theorem Ra(q:X.N[i]?=some x)(hv:Zz X.env.scope x)(hd:Db x:=by decide) (Et:(x==("__classdict__":Str))=false:=by decide):PE X (.Name x pos) (aag i):=by
 intro U s Z H Q I h;obtain⟨v,e,h⟩:=h;obtain⟨m,hn,L⟩:=I.loc;obtain⟨u,r,l⟩:=L i x v q e hv;have fin:EP X U Z Q u s:=⟨v,H,I,r,h⟩;rcases l with⟨b,hm⟩|⟨b,c,g,n⟩
 ·exact wpAny_Name (wpAny_loadName_local I.ok.kind b hn hm fin) hd
 ·rcases b with b|b
  ·exact wpAny_Name (wpAny_loadName_cell I.ok.kind b g n fin) hd
  ·exact wpAny_Name (wpAny_loadName_free I.ok.kind b g n fin Et) hd
def Rb{i j pos}:PE X (.Constant (.int i) j pos) (tC (.int i)):=λ_ _ _ H _ I h=>wpAny_Constant_int ⟨.int i,H,I.tok _,⟨_,rfl⟩,h⟩
def VA{b j pos}:PE X (.Constant (.bool b) j pos) (tC (.bl b)):=λ_ _ _ H _ I h=>Constant_bool ⟨.bl b,H,I,rfl,h⟩
def Rc{j pos}:PE X (.Constant .none j pos) (tC .cu):=λ_ _ _ H _ I h=>Constant_none ⟨.cu,H,I,rfl,h⟩
def Rf{x j pos}:PE X (.Constant (.str x) j pos) (tC (.str x)):=λ_ _ _ H _ I h=>Calls.Constant_str ⟨.str x,H,I.tok _,⟨_,rfl⟩,h⟩
def Gl(X:Cx)(x:Str):Prop:=X.env.kindOf x=some .globalImplicit
def qM(I:Inv X U Z H s)(q:Gl X x)(hm:X.mg x=some af)(h:Q af s)
  (hd:Db x:=by decide):wpAny (model X.prog X.w) X.A (eval (.Name x pos) X.env) Q E s:=
 xf I.ok.kind q (Calls.loadGlobal_global (by rw[I.ok.glob];exact I.mod.glob.keeps I.bk) hm h) hd
def vf{u:Value}(I:Inv X U Z H s)(q:Gl X x)(hm:X.mg x=none)(hv:bootBuiltins x=some u)(h:Q u s)
  (hn:x≠"__name__":=by decide) (hd:Db x:=by decide):wpAny (model X.prog X.w) X.A (eval (.Name x pos) X.env) Q E s:=by
 obtain⟨b,h1,h2⟩:=I.mod.blt;exact xf I.ok.kind q (Calls.loadGlobal_builtin (by rw[I.ok.glob];exact I.mod.glob.keeps I.bk) hm (by rw[I.ok.blt];exact h1.keeps I.bk) ((h2 x hn).trans hv) h) hd
def AW{v:V}(q:Gl X x)(hm:X.mg x=some af)(r:RelV v af)(hd:Db x:=by decide):PE X (.Name x pos) (tC v):=
 λ_ _ _ H _ I h=>qM I q hm ⟨v,H,I,r,h⟩ hd
def F5{v:V}(q:Gl X x)(hm:X.mg x=none)(hv:bootBuiltins x=some af)(r:RelV v af)(hn:x≠"__name__":=by decide) (hd:Db x:=by decide):PE X (.Name x pos) (tC v):=
 λ_ _ _ H _ I h=>vf I q hm hv ⟨v,H,I,r,h⟩ hn hd
variable {a b:Expr}{ta tb:TE}
variable {tA ZC:TT}{c8:List Expr}
def aah(t u:TT):TT:=λZ H Q=>t Z H λc H1=>if c=true then u Z H1 Q else Q false H1
def tOr(t u:TT):TT:=λZ H Q=>t Z H λc H1=>if c=true then Q true H1 else u Z H1 Q
def aai(t:TT):TT:=λZ H Q=>t Z H λc H1=>Q (!c) H1
theorem pw_and1(q:PT X a tA):PW X (.BoolOp .And [a] pos) tA:=by
 intro wh U s Z H Q I h;refine isTrue_and (eJ (q U s Z H Q I h) λc s1 e=>?_);cases c with
 |true=>exact isTrue_and_nil e
 |false=>exact e
theorem pw_or1(q:PT X a tA):PW X (.BoolOp .Or [a] pos) tA:=by
 intro wh U s Z H Q I h;refine isTrue_or (eJ (q U s Z H Q I h) λc s1 e=>?_);cases c with
 |false=>exact isTrue_or_nil e
 |true=>exact e
theorem pw_and(q:PT X a tA)(hb:PW X (.BoolOp .And (b::c8) pos) ZC):PW X (.BoolOp .And (a::b::c8) pos) (aah tA ZC):=by
 intro wh U s Z H Q I h;refine isTrue_and (eJ (q U s Z H _ I h) λc s1 ⟨H1,g,l⟩=>?_);cases c with
 |true=>exact hb wh U s1 Z H1 Q g l
 |false=>exact⟨H1,g,l⟩
theorem pw_or(q:PT X a tA)(hb:PW X (.BoolOp .Or (b::c8) pos) ZC):PW X (.BoolOp .Or (a::b::c8) pos) (tOr tA ZC):=by
 intro wh U s Z H Q I h;refine isTrue_or (eJ (q U s Z H _ I h) λc s1 ⟨H1,g,l⟩=>?_);cases c with
 |true=>exact⟨H1,g,l⟩
 |false=>exact hb wh U s1 Z H1 Q g l
theorem JS(q:PT X a tA):PT X (.UnaryOp .Not a pos) (aai tA):=by
 intro U s Z H Q I h;exact isTrue_not (q U s Z H (λc H1=>Q (!c) H1) I h)
theorem Rg{op}{t:TE}(h:PE X a t):PE X (.BoolOp op [a] pos) t:=λU s Z H Q I hw=>BoolOp_one (h U s Z H Q I hw)
def tIf(t:TT)(ta tb:TE):TE:=λZ H Q=>t Z H λc H1=>if c=true then ta Z H1 Q else tb Z H1 Q
theorem JT(q:PT X e tA)(ha:PE X a ta)(hb:PE X b tb):PE X (.IfExp e a b pos) (tIf tA ta tb):=by
 intro U s Z H Q I h;refine wpAny_IfExp (eJ (q U s Z H _ I h) λd s1 ⟨H1,g,l⟩=>?_);cases d with
 |true=>exact ha U s1 Z H1 Q g l
 |false=>exact hb U s1 Z H1 Q g l
end
def l0(K:Frag)(H:Hp)(a:Addr)(xs:List V):Prop:=
 Rd H a (.lst xs)\/
  ∃(o:Obj) (cw:Array Value) (n:Nat),K.lookup a=some o/\o.cls=.type "list"/\o.dict=none/\o.data=.seq cw n/\cw.size<=sizeLine/\Vals xs cw.toList
def jl(K:Frag)(H:Hp)(a:Addr)(xs:List V):Prop:=
 Rd H a (.tup xs)\/
  ∃(o:Obj) (cw:Array Value) (n:Nat),K.lookup a=some o/\o.cls=.type "tuple"/\o.data=.seq cw n/\cw.size<=sizeLine/\Vals xs cw.toList
noncomputable def aaj:Value->Option V
 |.none=>some .cu
 |.bool b=>some (.bl b)
 |.int i _=>some (.int i)
 |.str x _=>some (.str x)
 |.bytes b _=>some (.PN b)
 |.float b _=>some (.xJ b)
 |.ref a=>some (.ref a)
 |.type n=>some (.ty n)
 |_=>none
def RelV.abs {x:V}{u:Value}(r:RelV x u):aaj u=some x:=by
 cases x with
 |cu=>cases r;rfl
 |bl _=>cases r;rfl
 |int _=>obtain⟨t,rfl⟩:=r;rfl
 |str _=>obtain⟨t,rfl⟩:=r;rfl
 |PN _=>obtain⟨t,rfl⟩:=r;rfl
 |xJ _=>obtain⟨t,rfl⟩:=r;rfl
 |_=>cases r;rfl
theorem RelV.inj {x y:V}{u:Value}(r:RelV x u)(q:RelV y u):x=y:=Option.some.inj (r.abs.symm.trans q.abs)
theorem Vals.inj:∀{xs ys:List V} {us:List Value},Vals xs us->Vals ys us->xs=ys
 |_,_,_,.nil,.nil=>rfl
 |_,_,_,.cons r t,.cons b t'=>by rw[r.inj b,Vals.inj t t']
section
variable {xs ys:List V}
def l0.of (h:H a=some (.lst xs)):l0 K H a xs:=.inl (.inl h)
def jl.of (h:H a=some (.tup xs)):jl K H a xs:=.inl (.inl h)
def Inv.list (I:Inv X U Z H s)(h:l0 X.K H a xs):∃cw:List Value,Vals xs cw/\PlainL s.heap a cw.toArray/\xs.length<=sizeLine:=by
 rcases h with h|⟨o,cw,n,b,g,hd,hs,hz,r⟩
 ·obtain⟨z,cw,n,r,e⟩:=h.ok I.cX;exact⟨cw,r,⟨_,n,e,rfl,rfl,rfl⟩,z⟩
 ·refine⟨cw.toList,r,⟨o,n,I.lZ a o b,g,hd,by simpa using hs⟩,?_⟩;have e:=r.length;simp only[gy]at e;omega
def Inv.tuple (I:Inv X U Z H s)(h:jl X.K H a xs):∃cw:List Value,Vals xs cw/\IsTup s.heap a cw.toArray/\xs.length<=sizeLine:=by
 rcases h with h|⟨o,cw,n,b,g,hs,hz,r⟩
 ·obtain⟨z,cw,r,p⟩:=h.ok I.cX;exact⟨cw,r,p,z⟩
 ·refine⟨cw.toList,r,⟨o,I.lZ a o b,g,n,by simpa using hs⟩,?_⟩;have e:=r.length;simp only[gy]at e;omega
theorem Inv.JU (I:Inv X U Z H s)(h:l0 X.K H a xs)(h':l0 X.K H a ys):xs=ys:=by
 obtain⟨cw,r,⟨o,n,e,_,_,d⟩,_⟩:=I.list h;obtain⟨ue,g,⟨o',L,b,_,_,d'⟩,_⟩:=I.list h';rw[e]at b;cases b;rw[d]at d';injection d' with l _
 have:cw=ue:=by simpa using dh Array.toList l
 subst this;exact r.inj g
theorem Inv.qN (I:Inv X U Z H s)(h:jl X.K H a xs)(h':jl X.K H a ys):xs=ys:=by
 obtain⟨cw,r,⟨o,e,_,n,d⟩,_⟩:=I.tuple h;obtain⟨ue,g,⟨o',b,_,L,d'⟩,_⟩:=I.tuple h';rw[e]at b;cases b;rw[d]at d';injection d' with l _
 have:cw=ue:=by simpa using dh Array.toList l
 subst this;exact r.inj g
end
noncomputable abbrev Cx.zq (X:Cx)(E:Value->Shared->Prop):Cx:={X with xe:=E}
abbrev Cx.JE (X:Cx):Cx:=X.zq fun _ _=>False
theorem Cx.Ok.zq (ok:X.Ok)(E:Value->Shared->Prop):(X.zq E).Ok:=
 ⟨ok.mod,ok.kind,ok.glob,ok.blt,ok.above,ok.inj,ok.has,ok.PU,ok.hd,ok.frames,ok.M7,ok.UU,ok.bs,ok.HP,ok.AS,ok.Cv,ok.rq,ok.JN⟩
def Cx.Ok.pN (ok:(X.zq E).Ok):X.Ok:=
 ⟨ok.mod,ok.kind,ok.glob,ok.blt,ok.above,ok.inj,ok.has,ok.PU,ok.hd,ok.frames,ok.M7,ok.UU,ok.bs,ok.HP,ok.AS,ok.Cv,ok.rq,ok.JN⟩
theorem Inv.zq (I:Inv X U Z H s)(E:Value->Shared->Prop):Inv (X.zq E) U Z H s:=⟨I.ok.zq E,I.os,I.bare,I.base,I.loc,I.cell,I.free,I.gg,I.pin,I.cX,I.len⟩
theorem Inv.pN (I:Inv (X.zq E) U Z H s):Inv X U Z H s:=⟨I.ok.pN,I.os,I.bare,I.base,I.loc,I.cell,I.free,I.gg,I.pin,I.cX,I.len⟩
theorem SP.pN {D:Ends}{f:Flow}{s':Shared}(h:SP (X.zq E) U D f s'):SP X U D f s':=by
 cases f with
 |next=>obtain⟨dF,H',I,q⟩:=h;exact⟨dF,H',I.pN,q⟩
 |brk=>obtain⟨dF,H',I,q⟩:=h;exact⟨dF,H',I.pN,q⟩
 |cont=>obtain⟨dF,H',I,q⟩:=h;exact⟨dF,H',I.pN,q⟩
 |ret u=>obtain⟨v,dF,H',I,r,q⟩:=h;exact⟨v,dF,H',I.pN,r,q⟩
theorem o5.JE {st:List Stmt}{t:TS}(h:o5 X.JE st t):o5 X st t:=λU s Z H D I hw=>
 d7 (h U s Z H D (I.zq _) hw) (λ_ _ q=>q.pN) λ_ _ z=>False.elim z
section
variable {t u:TS}{te:TE}
def VB:TS:=λD Z H=>D.nx Z H
def aak(t u:TS):TS:=λD Z H=>t {D with nx:=u D} Z H
theorem F6:o5 X [] VB:=λ_ _ Z H _ I h=>tY ⟨Z,H,I,h⟩
theorem Cw(h1:PS X ai t)(h2:o5 X ah u):o5 X (ai::ah) (aak t u):=by
 intro U s Z H D I h;refine wpAny_execs_cons (eJ (h1 U s Z H {D with nx:=u D} I h) λf s1 q=>?_);cases f with
 |next=>
  obtain⟨b,H',g,q⟩:=q;exact h2 U s1 b H' D g q
 |_=>exact q
theorem F7(h1:PS X ai t):o5 X [ai] t:=by
 intro U s Z H D I h;refine wpAny_execs_cons (eJ (h1 U s Z H D I h) λf s1 q=>?_);cases f with
 |next=>exact tY q
 |_=>exact q
def Inv.quiet (I:Inv X U Z H s):interactive X.env=false:=by simp[interactive,I.ok.kind]
def VC(te:TE):TS:=λD Z H=>te Z H λ_ H1=>D.nx Z H1
theorem Nm(he:PE X e te)(hs:swapsWith e none pos.line X.env=pure false:=by rfl):PS X (.Expr e pos) (VC te):=by
 intro U s Z H D I h;exact wpAny_Expr_any (eJ (he U s Z H _ I h) λv s1 ⟨x,H1,b,r1,g⟩=>⟨Z,H1,b,g⟩) I.quiet hs
def aal(te:TE):TS:=λD Z H=>te Z H D.rt
theorem JV(he:PE X e te):PS X (.Return (some e) pos) (aal te):=by
 intro U s Z H D I h;exact wpAny_Return_some (eJ (he U s Z H _ I h) λv s1 ⟨x,H1,b,r1,g⟩=>⟨x,Z,H1,b,r1,g⟩)
def VD:TS:=λD _ H=>D.rt .cu H
theorem Nn:PS X (.Return none pos) VD:=λ_ _ Z H _ I h=>wpAny_Return_none ⟨.cu,Z,H,I,rfl,h⟩
def aam(c:TT)(t u:TS):TS:=λD Z H=>c Z H λb H1=>if b=true then t D Z H1 else u D Z H1
theorem PY{tc:TT}(q:PT X e tc)(ha:o5 X ah t)(hb:o5 X aj u):PS X (.If e ah aj pos) (aam tc t u):=by
 intro U s Z H D I h;refine wpAny_If (eJ (q U s Z H _ I h) λd s1 ⟨H1,b,g⟩=>?_);cases d with
 |true=>exact ha U s1 Z H1 D b g
 |false=>exact hb U s1 Z H1 D b g
end
abbrev TG:=V->St->Hp->(St->Hp->Prop)->Prop
abbrev Rh:=List V->St->Hp->(St->Hp->Prop)->Prop
def PG(X:Cx)(target:Expr)(t:TG):Prop:=
 ∀(U:List (Addr×Obj)) (s:Shared) (Z:St) (H:Hp) (v:V) (u:Value) (Q:St->Hp->Prop),Inv X U Z H s->RelV v u->t v Z H Q->
  wpAny (model X.prog X.w) X.A (assign target X.env u) (λ_ s'=>∃b H',Inv X U b H' s'/\Q b H') X.xe s
def Np(X:Cx)(ts:List Expr)(t:Rh):Prop:=
 ∀(U:List (Addr×Obj)) (s:Shared) (Z:St) (H:Hp) (vs:List V) (us:List Value) (Q:St->Hp->Prop),Inv X U Z H s->Vals vs us->t vs Z H Q->
  wpAny (model X.prog X.w) X.A (assignInOrder ((assignEach ts X.env).map (·.2)) us) (λ_ s'=>∃b H',Inv X U b H' s'/\Q b H') X.xe s
def PZ(i:Nat):TG:=λv Z H Q=>Q (Z.set i (some v)) H
theorem F8(q:X.N.Nodup)(hi:X.N[i]?=some x)(hx:Loc X.env.scope x)(hf:zl X x:=by first|exact .inl rfl|exact .inr rfl|assumption):PG X (.Name x pos) (PZ i):=by
 intro U s Z H v u Q I r h;exact wpAny_assign_Name (xM I q hi hx r (λs' b=>⟨_,H,b,h⟩) hf)
def aan:Rh:=λvs Z H Q=>vs=[]/\Q Z H
def VE(t:TG)(u:Rh):Rh:=λvs Z H Q=>∃v r,vs=v::r/\t v Z H λb H'=>u r b H' Q
theorem Nq:Np X [] aan:=by
 intro U s Z H vs us Q I r h;obtain⟨e,h⟩:=h;subst e;cases r;exact assignInOrder_nil ⟨Z,H,I,h⟩
theorem JW{t:TG}{u:Rh}(q:PG X e t)(h2:Np X es u)
  (hs:(assignEach (e::es) X.env).map (·.2)=assign e X.env::(assignEach es X.env).map (·.2):=by rfl):Np X (e::es) (VE t u):=by
 intro U s Z H vs us Q I r h;obtain⟨v,M,b,h⟩:=h;subst b;cases r with
 |cons r g=>
  rw[hs];refine assignInOrder_cons (eJ (q U s Z H _ _ _ I r h) λ_ s1 ⟨l,H1,n,L⟩=>?_);exact h2 U s1 l H1 _ _ Q n g L
def aao(K:Frag)(n:Nat)(t:Rh):TG:=λv Z H Q=>∃a xs,v=.ref a/\jl K H a xs/\xs.length=n/\t xs Z H Q
theorem Ri{t:Rh}{n:Nat}(q:X.calm=true)(h:Np X es t)
  (hn:(assignEach es X.env).length=n:=by rfl) (cH:(assignEach es X.env).findIdx? (·.1)=none:=by rfl):PG X (.Tuple es i pos) (aao X.K n t):=by
 intro U s Z H v u Q I r hw;obtain⟨a,xs,g,l,L,hw⟩:=hw;subst g;cases r;obtain⟨cw,rv,M,hz⟩:=I.tuple l;refine assign_Tuple_tuple (I.ok.hd q) M (by simp[hn,<-L,rv.length]) cH λh' S=>?_
 have I1:Inv X U Z H {s with heap:=h'}:=I.kept (t':=s.toks) λb o e=>S b o (cc (bA e)) e;exact h U _ Z H xs _ Q I1 (by simpa using rv) hw
def VF(te:TE)(g:TG):TS:=λD Z H=>te Z H λx H1=>g x Z H1 D.nx
theorem JX{te:TE}{g:TG}(he:PE X e te)(hg:PG X tg g)(hs:swapsWithSole [tg] e pos.line X.env=pure false:=by rfl) (hw:swappedStores [tg] e X.env=pure none:=by rfl)
  (h1:(assignEach [tg] X.env).map (·.2)=[assign tg X.env]:=by rfl):PS X (.Assign [tg] e pos) (VF te g):=by
 intro U s Z H D I h;refine wpAny_Assign_stores (eJ (he U s Z H _ I h) λv s1 ⟨x,H1,b,r1,l⟩=>?_) hs hw;rw[h1];exact eJ (hg U s1 Z H1 x v _ b r1 l) λ_ s2 q=>q
theorem JY{te:TE}(q:X.N.Nodup)(hi:X.N[i]?=some x)(hx:Loc X.env.scope x)(he:PE X e te)(hs:swapsWith e (some (.Name x p)) pos.line X.env=pure false:=by rfl) (hf:zl X x:=by first|exact .inl rfl|exact .inr rfl|assumption):
  PS X (.Assign [.Name x p] e pos) (VF te (PZ i)):=by
 intro U s Z H D I h;refine wpAny_Assign_Name (eJ (he U s Z H _ I h) λv s1 ⟨y,H1,b,r1,g⟩=>?_) hs;exact xM b q hi hx r1 (λs2 l=>⟨_,H1,l,g⟩) hf
structure It where
 go:Nat->Hp->Prop
 HR:Nat->Hp->V->Hp->Prop
 stop:Nat->Hp->Prop
def kQ(X:Cx)(U:List (Addr×Obj))(H:Hp)(b:Addr):Prop:=
 H b=none/\b≠X.env.locals/\b∉X.fs/\(b∈X.ex\/X.gD.heap.objs.size<=b)/\(∀x c,X.env.cells.lookup x=some c->c≠b)/\∀p∈X.pn++U,p.1≠b
def Inv.zr {H':Hp}{b:Addr}(I:Inv X U Z H s)(hb:s.heap.objs.size<=b)(hn:H' b=none):kQ X U H' b:=by
 refine⟨hn,dN (dg I.lt hb),I.Vv hb,.inr (cC I.sz hb),λx c e z=>?_,λp hp z=>?_⟩
 ·obtain⟨v,q⟩:=I.cell x c e;exact absurd (dg q.lt (by rw[z];exact hb)) (fb _)
 ·exact absurd (dg (bA (I.pin p hp).1) (by rw[z];exact hb)) (fb _)
structure Turn(P:Program)(w:World)(K:Frag)(tg:Expr)(J:It)(fp:List Addr)(it:Addr)(tn:Nat->Heap->Prop):Prop where
 mem:it∈fp
 obj:∀i h,tn i h->∀b∈fp,∃o,h.get? b=some o/\∀v,o.data≠ .cell v
 keep:∀i h h',tn i h->(∀b∈fp,∀o,h.get? b=some o->h'.get? b=some o)->tn i h'
 item:∀(X:Cx),X.prog=P->X.w=w->X.K=K->X.calm=true->∀(i:Nat) (U:List (Addr×Obj)) (s:Shared) (Z:St) (H:Hp) (E:Value->Shared->Prop),Inv X U Z H s->(∀b∈fp,kQ X U H b)->tn i s.heap->J.go i H->
  wpAny (model P w) X.A (pyNext (.ref it)) (fun r s1=>∃u,r=some u/\
   wpAny (model P w) X.A (letOwnedTupleGo tg (.ref it) u) (fun _ s2=>∃x H',Inv X U Z H' s2/\RelV x u/\J.HR i H x H'/\tn (i+1) s2.heap/\∀b∈fp,H' b=none) E s1) E s
 done:∀(X:Cx),X.prog=P->X.w=w->X.K=K->X.calm=true->∀(i:Nat) (U:List (Addr×Obj)) (s:Shared) (Z:St) (H:Hp) (E:Value->Shared->Prop),Inv X U Z H s->(∀b∈fp,kQ X U H b)->tn i s.heap->J.stop i H->
  wpAny (model P w) X.A (pyNext (.ref it)) (fun r s1=>r=none/\Inv X U Z H s1) E s
 self:∀(A:Around) (i:Nat) (s:Shared) (Q:Value->Shared->Prop) (E:Value->Shared->Prop),tn i s.heap->Q (.ref it) s->wpAny (model P w) A (pyIter (.ref it)) Q E s
abbrev TI:=St->Hp->(It->Hp->Prop)->Prop
def ZF(X:Cx)(U:List (Addr×Obj))(Z:St)(tg:Expr)(R:It->Hp->Prop)(q:Value)(s2:Shared):Prop:=
 ∃(it:Addr) (fp:List Addr) (tn:Nat->Heap->Prop) (J:It) (H':Hp),q=.ref it/\Inv X U Z H' s2/\Turn X.prog X.w X.K tg J fp it tn/\tn 0 s2.heap/\(∀b∈fp,kQ X U H' b)/\R J H'
def PI(X:Cx)(tg c0:Expr)(q:TI):Prop:=
 ∀(U:List (Addr×Obj)) (s:Shared) (Z:St) (H:Hp) (R:It->Hp->Prop),Inv X U Z H s->q Z H R->
  wpAny (model X.prog X.w) X.A (eval c0 X.env) (λv s1=>wpAny (model X.prog X.w) X.A (pyIter v) (ZF X U Z tg R) X.xe s1) X.xe s
def zL{M:Model}{s:Shared}{o:Obj}{n:String}(ho:s.heap.get? a=some o)(hc:o.cls=.type n)(hd:o.data=.fields ak)
  (hn:["enumerate","zip","dict_itemiterator","dict_reverseitemiterator","odict_iterator","itertools.zip_longest","itertools.pairwise"].contains n=false) (q:ae () s):wpAny M A (letOwnedTupleGo tg (.ref a) af) ae E s:=by
 unfold letOwnedTupleGo;cases tg<;>first
  |exact bg q
  |(cases af<;>first
    |exact bg q
    |(refine aS (pK ho ?_)
      rw[hc,hd];show wpAny M A (if(["enumerate","zip","dict_itemiterator","dict_reverseitemiterator","odict_iterator","itertools.zip_longest","itertools.pairwise"].contains n&&ak[0]?==some (rawInt _))=true then _ else _) ae E s;rw[ba (by intro h;rw[hn,xD]at h;cases h)];exact bg q))
def Itl(K:Frag)(a:Addr):It:=
 ⟨λi H=>∃xs x,l0 K H a xs/\xs[i]?=some x,λi H x H'=>H'=H/\∀xs,l0 K H a xs->xs[i]?=some x,λi H=>∃xs,l0 K H a xs/\xs.length<=i⟩
def Itt(K:Frag)(a:Addr):It:=
 ⟨λi H=>∃xs x,jl K H a xs/\xs[i]?=some x,λi H x H'=>H'=H/\∀xs,jl K H a xs->xs[i]?=some x,λi H=>∃xs,jl K H a xs/\xs.length<=i⟩
def ZH(lo:Int)(n:Nat):It:=⟨λi _=>i<n,λi H x H'=>H'=H/\x=.int (lo+i),λi _=>n<=i⟩
theorem HS(a it:Addr):Turn P w K tg (Itl K a) [it] it (λi h=>h.IsListIter it a i) where
 mem:=by simp
 obj:=λi h st b hb=>by
  have e:b=it:=by simpa using hb
  subst e;obtain⟨o,e,c,d⟩:=st;exact⟨o,e,λv z=>by rw[d]at z;cases z⟩
 keep:=λi h h' st k=>st.at λo e=>k it (by simp) o e
 item:=by
  intro X l hw n q i U s Z H E I hf st r;subst l hw n;obtain⟨xs,x,g,L⟩:=r;obtain⟨cw,rv,p,hz⟩:=I.list g;obtain⟨u,hu,ru⟩:=rv.get L;obtain⟨f0,f1,f2,M,f4,S⟩:=hf it (by simp);refine wpAny_pyNext_list_item st p.isList (x:=u) (by simpa using hu) λh' xN sb=>?_
  have I1:Inv X U Z H {s with heap:=h'}:=I.turned (t':=s.toks) (λb o hb e=>(sb.2 b hb).trans e) f0 f1 M f4 S;obtain⟨o,e,c,d⟩:=id xN;exact⟨u,rfl,zL (s:={s with heap:=h'}) e c d (by decide) ⟨x,H,I1,ru,⟨rfl,λys hy=>by rw[I.JU hy g];exact L⟩,xN,λb hb=>(hf b hb).1⟩⟩
 done:=by
  intro X l hw n q i U s Z H E I hf st r;subst l hw n;obtain⟨xs,g,L⟩:=r;obtain⟨cw,rv,p,hz⟩:=I.list g;obtain⟨f0,f1,f2,M,f4,S⟩:=hf it (by simp);have hl:=rv.length;exact wpAny_pyNext_list_end (I.ok.hd q) st p.isList (by simp;omega) λh' eb=>⟨rfl,I.turned (t':=s.toks) (λb o hb e=>eb b o hb e) f0 f1 M f4 S⟩
 self:=λ_ _ _ _ _ st h=>wpAny_pyIter_listiter st h
theorem Ew(a it:Addr):Turn P w K tg (Itt K a) [it] it (λi h=>h.IsTupleIter it a i) where
 mem:=by simp
 obj:=λi h st b hb=>by
  have e:b=it:=by simpa using hb
  subst e;obtain⟨o,e,c,d⟩:=st;exact⟨o,e,λv z=>by rw[d]at z;cases z⟩
 keep:=λi h h' st k=>st.at λo e=>k it (by simp) o e
 item:=by
  intro X l hw n q i U s Z H E I hf st r;subst l hw n;obtain⟨xs,x,g,L⟩:=r;obtain⟨cw,rv,p,hz⟩:=I.tuple g;obtain⟨u,hu,ru⟩:=rv.get L;obtain⟨f0,f1,f2,M,f4,S⟩:=hf it (by simp);refine wpAny_pyNext_tuple_item st (show s.heap.IsTuple a cw.toArray from p) (x:=u) (by simpa using hu) λh' xN sb=>?_
  have I1:Inv X U Z H {s with heap:=h'}:=I.turned (t':=s.toks) (λb o hb e=>(sb.2 b hb).trans e) f0 f1 M f4 S;obtain⟨o,e,c,d⟩:=id xN;exact⟨u,rfl,zL (s:={s with heap:=h'}) e c d (by decide) ⟨x,H,I1,ru,⟨rfl,λys hy=>by rw[I.qN hy g];exact L⟩,xN,λb hb=>(hf b hb).1⟩⟩
 done:=by
  intro X l hw n q i U s Z H E I hf st r;subst l hw n;obtain⟨xs,g,L⟩:=r;obtain⟨cw,rv,p,hz⟩:=I.tuple g;obtain⟨f0,f1,f2,M,f4,S⟩:=hf it (by simp);have hl:=rv.length;exact wpAny_pyNext_tuple_end (I.ok.hd q) st (show s.heap.IsTuple a cw.toArray from p) (by simp;omega) λh' eb=>⟨rfl,I.turned (t':=s.toks) (λb o hb e=>eb b o hb e) f0 f1 M f4 S⟩
 self:=λ_ _ _ _ _ st h=>wpAny_pyIter_tupleiter st h
theorem Ex(it:Addr)(lo:Int)(n:Nat):Turn P w K tg (ZH lo n) [it] it (λi h=>IsRangeIter h it (lo+(i:Nat)*1) ((n:Int) - (i:Nat)) 1) where
 mem:=by simp
 obj:=λi h st b hb=>by
  have e:b=it:=by simpa using hb
  subst e;exact⟨_,st,λv z=>by
   have z':Data.fields _=Data.cell v:=z;cases z'⟩
 keep:=λi h h' st k=>k it (by simp) _ st
 item:=by
  intro X g hw l r i U s Z H E I hf st L;subst g hw l;obtain⟨f0,f1,f2,M,f4,S⟩:=hf it (by simp);have W:=Walks.range (prog:=X.prog) (w:=X.w) (I.ok.hd r) it lo 1 n;refine W.item i s _ _ L st λv h' q hv xN kk=>?_
  obtain⟨t,rfl⟩:=hv;have I1:Inv X U Z H {s with heap:=h',toks:=q}:=I.turned (λb o hb e=>kk b o (by simpa using hb) e) f0 f1 M f4 S;refine⟨_,rfl,zL (s:={s with heap:=h',toks:=q}) (n:="range_iterator") xN rfl rfl (by decide) ⟨.int (lo+i),H,I1,⟨t,?_⟩,⟨rfl,rfl⟩,xN,λb hb=>(hf b hb).1⟩⟩;rw[Int.mul_one]
 done:=by
  intro X g hw l r i U s Z H E I hf st L;subst g hw l;obtain⟨f0,f1,f2,M,f4,S⟩:=hf it (by simp);exact wpAny_pyNext_range_end (I.ok.hd r) st (by have:n<=i:=L;omega) λh' eb=>⟨rfl,I.turned (t':=s.toks) (λb o hb e=>eb b o hb e) f0 f1 M f4 S⟩
 self:=λ_ _ _ _ _ st h=>wpAny_pyIter_rangeiter st h
theorem JZ{R:It->Hp->Prop}{lo hi:Int}{t u v:Tok}(I:Inv X U Z H s)(h1:-(2 ^62)<=lo)(h2:lo<2 ^62)(h3:-(2 ^62)<=hi)(h4:hi<2 ^62)
  (q:R (ZH lo (hi - lo).toNat) H):wpAny (model X.prog X.w) X.A (pyIter (.ref s.heap.objs.size)) (ZF X U Z tg R) E {s with heap:=s.heap.push {cls:=.type "range",data:=.fields #[.int lo t,.int hi u,.int 1 v]},toks:=i}:=by
 refine wpAny_pyIter_range (IsRange.new ..) (small_one h1 h2 h3 h4) ?_
 have g:Inv X U Z H {s with heap:=s.heap.push {cls:=.type "range",data:=.fields #[.int lo t,.int hi u,.int 1 v]},toks:=i}:=I.kept λb o e=>bS _ e;refine⟨(s.heap.push {cls:=.type "range",data:=.fields #[.int lo t,.int hi u,.int 1 v]}).objs.size,[(s.heap.push {cls:=.type "range",data:=.fields #[.int lo t,.int hi u,.int 1 v]}).objs.size],_,_,H,rfl,
  g.kept (t':=i) λb o e=>bS _ e,Ex _ lo (hi - lo).toNat,?_,λb hb=>?_,q⟩
 ·have l:lo+((0:Nat):Int)*1=lo:=by simp
  have n:(((hi - lo).toNat:Nat):Int) - ((0:Nat):Int)=Builtin.Range.rangeSize lo hi 1:=by rw[rangeSize_one];split<;>omega
  show IsRangeIter _ _ (lo+((0:Nat):Int)*1) ((((hi - lo).toNat:Nat):Int) - ((0:Nat):Int)) 1;rw[l,n];exact cy _ rfl
 ·have e:b=(s.heap.push {cls:=.type "range",data:=.fields #[.int lo t,.int hi u,.int 1 v]}).objs.size:=by simpa using hb
  subst e;exact g.zr (bu _) (g.cX.fresh (bu _))
def VG(ta:TA):TI:=λZ H R=>ta Z H λvs H1=>∃j:Int,vs=[.int j]/\-(2 ^62)<=j/\j<2 ^62/\R (ZH 0 j.toNat) H1
theorem HU{ta:TA}(hg:Gl X "range")(hm:X.mg "range"=none)(ha:PA X [o] ta)(hs:starEach [o] X.env=[(false,eval o X.env)]:=by rfl):PI X tg (.Call (.Name "range" p) [o] [] pos) (VG ta):=by
 intro U s Z H R I h;refine Call_ (vf I hg hm boot_range (w6 (eJ (ha pos U s Z H _ I h) λus s1 ⟨vs,H1,g,r1,b⟩=>?_) hs rfl));obtain⟨j,e,b,l,q⟩:=b;subst e;cases r1 with
 |cons r n=>
  cases n;obtain⟨t,rfl⟩:=r;exact call_range_1 (JZ g (by omega) (by omega) b l (by simpa using q))
def aap(q:TI)(g:TG)(tb:TS):TS:=λD Z H=>q Z H λJ H1=>∃W:Nat->Nat->St->Hp->Prop,(∃m,W 0 m Z H1)/\∀i m Z H,W i m Z H->
 (J.stop i H/\D.nx Z H)\/(J.go i H/\∃N:St->Hp->Prop,(∀b H',N b H'->∃l,l<m/\W (i+1) l b H')/\∀x H',J.HR i H x H'->g x Z H' λn H2=>tb {D with nx:=N,ct:=N,bk:=D.nx} n H2)
def xO(fp:List Addr)(h:Heap):List (Addr×Obj):=fp.filterMap λb=>(h.get? b).map λo=>(b,o)
def nN{fp:List Addr}{h:Heap}{o:Obj}(hb:a∈fp)(e:h.get? a=some o):(a,o)∈xO fp h:=lL.mpr ⟨a,hb,by rw[e];rfl⟩
theorem HV{fp:List Addr}{p:Addr×Obj}(hp:p∈xO fp aa):p.1∈fp/\aa.get? p.1=some p.2:=by
 obtain⟨b,hb,e⟩:=lL.mp hp;cases q:aa.get? b with
 |none=>rw[q]at e;cases e
 |some o=>
  rw[q]at e;have g:(b,o)=p:=Option.some.inj e;subst g;exact⟨hb,q⟩
def Inv.pinned {fp:List Addr}(I:Inv X U Z H s)(hf:∀b∈fp,kQ X U H b)(q:∀b∈fp,∃o,s.heap.get? b=some o/\∀v,o.data≠ .cell v):Inv X (U++xO fp s.heap) Z H s:=
 I.ke λp hp=>(dm.mp hp).elim (λz=>I.pin p (dC _ z)) λz=>by
   obtain⟨hb,e⟩:=HV z;obtain⟨f0,f1,f2,_⟩:=hf p.1 hb;obtain⟨o,g,d⟩:=q p.1 hb;rw[e]at g;cases g;exact⟨e,f0,f1,f2,d⟩
def Inv.uf {pl:List (Addr×Obj)}(I:Inv X (U++pl) Z H s):Inv X U Z H s:=I.ke λp hp=>I.pin p (dC _ (jZ _ hp))
theorem J0{wi:TI}{g:TG}{tb:TS}(hp:PassesOwn (model X.prog X.w) X.A X.env X.xe)(hc:X.calm=true)(hi:PI X tg al wi)(hg:PG X tg g)(hb:o5 X ah tb)
  (hs:∀x,foldedSetIterable al X.env x=pure x:=by intro _;rfl):PS X (.For tg al ah [] pos) (aap wi g tb):=by
 intro U s Z H D I h;refine wpAny_For (eJ (hi U s Z H _ I h) λv s1 h1=>eJ h1 λZG s2 h2=>?_) hs;obtain⟨it,fp,tn,J,H2,e,I2,T,Nr,f2,W,⟨m0,w0⟩,turn⟩:=h2;subst e;have Ey:∀{H':Hp},(∀b∈fp,H' b=none)->∀b∈fp,kQ X U H' b:=λhn b hb=>⟨hn b hb,(f2 b hb).2⟩;refine codeAny_forLoop_any (λn s'=>∃i q H',Inv X U q H' s'/\tn i s'.heap/\(∀b∈fp,H' b=none)/\W i n q H') ?_ m0 ⟨0,Z,H2,I2,Nr,λb hb=>(f2 b hb).1,w0⟩
 rintro n s3 ⟨i,P0,H3,I3,st3,fr3,w3⟩
 rcases turn i n P0 H3 w3 with⟨stop,qn⟩|⟨go,N,hN,step⟩
 ·refine pE hp (eJ (T.done X rfl rfl rfl hc i U s3 P0 H3 X.xe I3 (Ey fr3) st3 stop) λr s4 ⟨hr,I4⟩=>?_);subst hr;exact tY ⟨P0,H3,I4,qn⟩
 ·refine pE hp (eJ (T.item X rfl rfl rfl hc i U s3 P0 H3 X.xe I3 (Ey fr3) st3 go) λr s4 ⟨u,hr,h4⟩=>?_);subst hr;refine pE hp (eJ h4 λ_ s5 ⟨x,H5,I5,r5,y5,UW,ZI⟩=>?_);have I5':=I5.pinned (Ey ZI) (T.obj _ _ UW);refine pE hp (eJ (hg _ s5 P0 H5 x u _ I5' r5 (step x H5 y5)) λ_ s6 ⟨σ6,H6,I6,q6⟩=>?_);refine pE hp (eJ (hb _ s6 σ6 H6 _ I6 q6) λf s7 S=>?_);have again:∀{l:St} {L:Hp},Inv X (U++xO fp s5.heap) l L s7->N l L->∃m,m<n/\∃i q H',Inv X U q H' s7/\tn i s7.heap/\(∀b∈fp,H' b=none)/\W i m q H':=λ{l L} M n7=>by
   obtain⟨m',hm,w7⟩:=hN l L n7;refine⟨m',hm,i+1,l,L,M.uf,T.keep _ _ _ UW λb hb o e=>(M.pin (b,o) (dC _ (dC _ (nN hb e)))).1,λb hb=>?_,w7⟩;obtain⟨o,e,d⟩:=T.obj _ _ UW b hb;exact(M.pin (b,o) (dC _ (dC _ (nN hb e)))).2.1
  cases f with
  |next=>obtain⟨l,L,M,n7⟩:=S;exact again M n7
  |cont=>obtain⟨l,L,M,n7⟩:=S;exact again M n7
  |brk=>obtain⟨l,L,M,S⟩:=S;exact⟨l,L,M.uf,S⟩
  |ret v=>obtain⟨x7,l,L,M,r7,S⟩:=S;exact⟨x7,l,L,M.uf,r7,S⟩
abbrev R2:=V->V->Hp->VK->Prop
def wm(X:Cx)(f:Value->Value->Sem Value)(r:R2):Prop:=
 ∀(U:List (Addr×Obj)) (s:Shared) (Z:St) (H:Hp) (x y:V) (v u:Value) (Q:VK),Inv X U Z H s->RelV x v->RelV y u->r x y H Q->
  wpAny (model X.prog X.w) X.A (f v u) (EP X U Z Q) X.xe s
def UnR(X:Cx)(f:Value->Sem Value)(r:V->Hp->VK->Prop):Prop:=
 ∀(U:List (Addr×Obj)) (s:Shared) (Z:St) (H:Hp) (x:V) (v:Value) (Q:VK),Inv X U Z H s->RelV x v->r x H Q->
  wpAny (model X.prog X.w) X.A (f v) (EP X U Z Q) X.xe s
def gP(X:Cx)(f:Value)(r:List V->Hp->VK->Prop):Prop:=
 ∀(U:List (Addr×Obj)) (s:Shared) (Z:St) (H:Hp) (xs:List V) (us:List Value) (Q:VK),Inv X U Z H s->Vals xs us->r xs H Q->
  wpAny (model X.prog X.w) X.A (call f us) (EP X U Z Q) X.xe s
def aaq(X:Cx)(r:V->Hp->(Bool->Hp->Prop)->Prop):Prop:=
 ∀(U:List (Addr×Obj)) (s:Shared) (Z:St) (H:Hp) (x:V) (v:Value) (Q:Bool->Hp->Prop),Inv X U Z H s->RelV x v->r x H Q->
  wpAny (model X.prog X.w) X.A (truthy v) (TP X U Z Q) X.xe s
def Rj(r:R2)(ta tb:TE):TE:=λZ H Q=>ta Z H λx H1=>tb Z H1 λy H2=>r x y H2 Q
def tUn(r:V->Hp->VK->Prop)(ta:TE):TE:=λZ H Q=>ta Z H λx H1=>r x H1 Q
def rI(C:Int->Int->Prop)(g:Int->Int->V):R2:=λx y H Q=>∃i j,x=.int i/\y=.int j/\C i j/\Q (g i j) H
def UX(g:Int->Int->V):R2:=λx y H Q=>∃i j,x=.int i/\y=.int j/\Q (g i j) H
def rU(g:Int->V):V->Hp->VK->Prop:=λx H Q=>∃i,x=.int i/\Q (g i) H
section
variable {a b c:Expr}{ta tb tc:TE}
def Rk(q:PE X a ta)(hb:PE X b tb){R:V->V->Hp->Prop}(I:Inv X U Z H s)
  (h:ta Z H λx H1=>tb Z H1 λy H2=>R x y H2) {f:Value->Value->Sem Value}
  (hf:∀v u s2 x y H2,Inv X U Z H2 s2->RelV x v->RelV y u->R x y H2->wpAny (model X.prog X.w) X.A (f v u) Q X.xe s2):
  wpAny (model X.prog X.w) X.A (eval a X.env) (λv dr=>wpAny (model X.prog X.w) X.A (eval b X.env) (λu ug=>wpAny (model X.prog X.w) X.A (f v u) Q X.xe ug) X.xe dr) X.xe s:=by
 refine eJ (q U s Z H _ I h) λv s1 ⟨x,H1,g,r1,l⟩=>?_
 refine eJ (hb U s1 Z H1 _ g l) λu s2 ⟨y,H2,n,r2,r⟩=>?_
 exact hf v u s2 x y H2 n r1 r2 r
theorem VH{op:Operator}{r:R2}(ho:wm X (binaryOp op) r)(ha:PE X a ta)(hb:PE X b tb):PE X (.BinOp a op b pos) (Rj r ta tb):=by
 intro U s Z H Q I h;exact wpAny_BinOp (Rk ha hb I h λv u s2 x y H2 g l n q=>ho U s2 Z H2 x y v u Q g l n q)
theorem VI{op:UnaryOp}{r:V->Hp->VK->Prop}(q:UnR X (unaryOp op) r)(ha:PE X a ta):PE X (.UnaryOp op a pos) (tUn r ta):=by
 intro U s Z H Q I h;exact UnaryOp_ (eJ (ha U s Z H _ I h) λv s1 ⟨x,H1,b,r1,g⟩=>q U s1 Z H1 x v Q b r1 g)
theorem opI{f:Value->Value->Sem Value}{C:Int->Int->Prop}{g:Int->Int->Int}
  (rule:∀(i j:Int) (t u:Tok) (s:Shared) (Q:Value->Shared->Prop) (E:Value->Shared->Prop),C i j->Q (.int (g i j) s.toks) {s with toks:=s.toks+1}->wpAny (model X.prog X.w) X.A (f (.int i t) (.int j u)) Q E s):
  wm X f (rI C λi j=>.int (g i j)):=by
 intro U s Z H x y v u Q I b l h;obtain⟨i,j,rfl,rfl,n,q⟩:=h;obtain⟨t,rfl⟩:=b;obtain⟨t',rfl⟩:=l;exact rule i j t t' s _ _ n ⟨.int (g i j),H,I.tok _,⟨_,rfl⟩,q⟩
theorem aar{f:Value->Value->Sem Value}{g:Int->Int->Int}
  (rule:∀(i j:Int) (t u:Tok) (s:Shared) (Q:Value->Shared->Prop) (E:Value->Shared->Prop),Q (.int (g i j) s.toks) {s with toks:=s.toks+1}->wpAny (model X.prog X.w) X.A (f (.int i t) (.int j u)) Q E s):
  wm X f (UX λi j=>.int (g i j)):=by
 intro U s Z H x y v u Q I b l h;obtain⟨i,j,rfl,rfl,q⟩:=h;obtain⟨t,rfl⟩:=b;obtain⟨t',rfl⟩:=l;exact rule i j t t' s _ _ ⟨.int (g i j),H,I.tok _,⟨_,rfl⟩,q⟩
theorem Rm{f:Value->Value->Sem Value}{g:Int->Int->Bool}
  (rule:∀(i j:Int) (t u:Tok) (s:Shared) (Q:Value->Shared->Prop) (E:Value->Shared->Prop),Q (.bool (g i j)) s->wpAny (model X.prog X.w) X.A (f (.int i t) (.int j u)) Q E s):
  wm X f (UX λi j=>.bl (g i j)):=by
 intro U s Z H x y v u Q I b l h;obtain⟨i,j,rfl,rfl,q⟩:=h;obtain⟨t,rfl⟩:=b;obtain⟨t',rfl⟩:=l;exact rule i j t t' s _ _ ⟨.bl (g i j),H,I,rfl,q⟩
def J5(i j:Int):Prop:=(-(2 ^64)<i/\i<2 ^64)\/(-(2 ^64)<j/\j<2 ^64)
def J5.ok {i j:Int}(h:J5 i j):IntMulOk i j:=by
 rcases h with⟨b,h2⟩|⟨b,h2⟩
 ·exact .of_left (intBits_le_64 b h2)
 ·exact .of_right (intBits_le_64 b h2)
def Rn:wm X (binaryOp .Add) (UX λi j=>.int (i+j)):=aar λ_ _ _ _ _ _ _ q=>add_int q
def Ro:wm X (binaryOp .Mult) (rI J5 λi j=>.int (i*j)):=opI λ_ _ _ _ _ _ _ b q=>mul_int q b.ok
theorem Rp:wm X (binaryOp .Mod) (rI (λ_ j=>0<j) λi j=>.int (i % j)):=opI λi j _ _ _ _ _ b q=>by
 have g:(0:Int)<j:=b;exact mod_int' (by omega) (by rw[Int.fmod_eq_emod_of_nonneg i (by omega)];exact q)
theorem unI{f:Value->Sem Value}{g:Int->Int}
  (rule:∀(i:Int) (t:Tok) (s:Shared) (Q:Value->Shared->Prop) (E:Value->Shared->Prop),Q (.int (g i) s.toks) {s with toks:=s.toks+1}->wpAny (model X.prog X.w) X.A (f (.int i t)) Q E s):
  UnR X f (rU λi=>.int (g i)):=by
 intro U s Z H x v Q I b h;obtain⟨i,rfl,q⟩:=h;obtain⟨t,rfl⟩:=b;exact rule i t s _ _ ⟨.int (g i),H,I.tok _,⟨_,rfl⟩,q⟩
def Rq:UnR X (unaryOp .USub) (rU λi=>.int (-i)):=unI λ_ _ _ _ _ q=>neg_int q
end
section
variable {b c:Expr}{ta tb tc:TE}
def xQ{Q:VK}{k k':Bool}(I:Inv X U Z H s)(q:Q (.bl k) H)(e:k=k'):EP X U Z Q (.bool k') s:=by
 subst e;exact⟨.bl k,H,I,rfl,q⟩
def VJ:wm X (compareOp .Lt) (UX λi j=>.bl (decide (i<j))):=Rm λ_ _ _ _ _ _ _ q=>lt_int q
def VL:wm X (compareOp .Gt) (UX λi j=>.bl (decide (j<i))):=Rm λ_ _ _ _ _ _ _ q=>gt_int q
def VM:wm X (compareOp .GtE) (UX λi j=>.bl (decide (j<=i))):=Rm λ_ _ _ _ _ _ _ q=>ge_int q
theorem HW:wm X (compareOp .Lt) (λx y H Q=>∃i j,x=.str i/\y=.str j/\Q (.bl (decide (i.cps.toList<j.cps.toList))) H):=by
 intro U s Z H x y v u Q I b g h;obtain⟨i,j,rfl,rfl,q⟩:=h;obtain⟨t,rfl⟩:=b;obtain⟨t',rfl⟩:=g;exact lt_str (xQ I q rfl)
theorem HX:wm X (compareOp .In) (λx y H Q=>∃i j,x=.str i/\y=.str j/\Q (.bl (!(Builtin.Str.occurrences j i 0 j.length 1).isEmpty)) H):=by
 intro U s Z H x y v u Q I b g h;obtain⟨i,j,rfl,rfl,q⟩:=h;obtain⟨t,rfl⟩:=b;obtain⟨t',rfl⟩:=g;exact in_str (xQ I q rfl)
theorem Rr:wm X (compareOp .Is) (λx y H Q=>y=.cu/\Q (.bl (decide (x=.cu))) H):=by
 intro U s Z H x y v u Q I b g h;obtain⟨rfl,q⟩:=h;cases g;refine is_none_gen (xQ I q ?_);cases x<;>first
  |(cases b;rfl)
  |(obtain⟨t,rfl⟩:=b;rfl)
theorem AX:wm X (compareOp .NotIn) (λx y H Q=>∃i j,x=.str i/\y=.str j/\Q (.bl (!(!(Builtin.Str.occurrences j i 0 j.length 1).isEmpty))) H):=by
 intro U s Z H x y v u Q I b g h;obtain⟨i,j,rfl,rfl,q⟩:=h;obtain⟨t,rfl⟩:=b;obtain⟨t',rfl⟩:=g;exact notIn_str (xQ I q rfl)
def AY(b:Expr){op:CmpOp}(h:op≠ .In:=by decide) (h2:op≠ .NotIn:=by decide):behindInMarks op b=false:=by
 have g:(op==CmpOp.In)=false:=by cases op<;>first|rfl|exact absurd rfl h
 have l:(op==CmpOp.NotIn)=false:=by cases op<;>first|rfl|exact absurd rfl h2
 cases b<;>simp[behindInMarks,g,l]
theorem Nt{op:CmpOp}{r:R2}(ho:wm X (compareOp op) r)(ha:PE X o ta)(hb:PE X b tb)(hm:behindInMarks op b=false):PE X (.Compare o [op] [b] pos) (Rj r ta tb):=by
 intro U s Z H Q I h;exact wpAny_Compare1 (Rk ha hb I h λv u s2 x y H2 g l n q=>ho U s2 Z H2 x y v u Q g l n q) hm
def VN(t:TE):TT:=λZ H Q=>t Z H λx H'=>∃k,x=.bl k/\Q k H'
theorem Nu{op:CmpOp}{r:R2}(q:wm X (compareOp op) r)(ha:PE X o ta)(hb:PE X b tb)(hm:behindInMarks op b=false):PT X (.Compare o [op] [b] pos) (VN (Rj r ta tb)):=by
 intro U s Z H Q I h;refine wpAny_isTrue_Compare1 (eJ (ha U s Z H _ I h) λv s1 ⟨x,H1,g,r1,l⟩=>eJ (hb U s1 Z H1 _ g l) λu s2 ⟨y,H2,n,r2,L⟩=>
  eJ (q U s2 Z H2 x y v u _ n r1 r2 L) λc s3 ⟨z,M,S,r3,k,e,q3⟩=>?_) hm
 subst e;cases r3;exact px ⟨M,S,q3⟩
def Nv(K:Frag)(x:V)(H:Hp)(k:Bool):Prop:=
 match x with
 |.cu=>k=false
 |.bl b=>k=b
 |.int i=>k=(i !=0)
 |.str y=>y.length<=sizeLine/\k=((y.length:Int) !=0)
 |.PN y=>y.size<=sizeLine/\k=((y.size:Int) !=0)
 |.ref p=>(∃xs,l0 K H p xs/\k=!xs.isEmpty)\/(∃xs,jl K H p xs/\k=!xs.isEmpty)\/∃kvs,Rd H p (.dK kvs)/\k=!kvs.isEmpty
 |_=>False
def Ez{kvs:List (ag×V)}{vs:List (ag×Value)}(r:KV kvs vs):(!vs.isEmpty)=!kvs.isEmpty:=by
 cases r<;>rfl
def xR(r:Vals aq am):(!am.toArray.isEmpty)=!aq.isEmpty:=by
 cases r<;>simp
def xT:(sizeLine:Nat)<2 ^63:=by rw[dW];decide
theorem J7:aaq X (λx H Q=>∃k,Nv X.K x H k/\Q k H):=by
 intro U s Z H x v Q I l h;obtain⟨k,e,q⟩:=h;have hl:=xT;have hs:sizeLine=16777216:=dW;cases x with
 |cu=>
  cases l;have g:k=false:=e;subst g;exact truthy_none ⟨H,I,q⟩
 |bl b=>
  cases l;have g:k=b:=e;subst g;exact px ⟨H,I,q⟩
 |int i=>
  obtain⟨t,rfl⟩:=l;have g:k=(i !=0):=e;subst g;exact PySem.P.truthy_int ⟨H,I,q⟩
 |str y=>
  obtain⟨t,rfl⟩:=l;obtain⟨M,g⟩:y.length<=sizeLine/\k=((y.length:Int) !=0):=e;subst g;exact PySem.P.truthy_str (by omega) ⟨H,I.tok _,q⟩
 |PN y=>
  obtain⟨t,rfl⟩:=l;obtain⟨M,g⟩:y.size<=sizeLine/\k=((y.size:Int) !=0):=e;subst g;exact PySem.W.truthy_bytes (by omega) ⟨H,I.tok _,q⟩
 |ref p=>
  cases l;have g:(∃xs,l0 X.K H p xs/\k=!xs.isEmpty)\/(∃xs,jl X.K H p xs/\k=!xs.isEmpty)\/∃kvs,Rd H p (.dK kvs)/\k=!kvs.isEmpty:=e;rcases g with⟨xs,n,g⟩|⟨xs,n,g⟩|⟨kvs,n,g⟩
  ·subst g;obtain⟨cw,r,pl,hz⟩:=I.list n;have L:=r.length;exact wpAny_truthy_list pl.isList (by simp only[cU];omega) ⟨H,I.tok _,by rw[xR r];exact q⟩
  ·subst g;obtain⟨cw,r,pl,hz⟩:=I.tuple n;have L:=r.length;exact truthy_tuple pl (by simp only[cU];omega) ⟨H,I.tok _,by rw[xR r];exact q⟩
  ·subst g;obtain⟨hz,S,vs,r,m⟩:kvs.length<=sizeLine/\(p==sysModules)=false/\∃vs,KV kvs vs/\s.heap.DictOf (cp X.prog X.w) p vs:=n.ok I.cX;have L:kvs.length=vs.length:=Paired.length r;exact wpAny_truthy_dict S m (by omega) ⟨H,I.tok _,by rw[Ez r];exact q⟩
 |_=>exact fe e
def Cy(q:PE X o ta)(he:∀whole,isTrue o X.env whole=(do let v<-whole;standAt o.pos;holding [v] (truthy v))):
  PT X o (λZ H Q=>ta Z H λx H'=>∃k,Nv X.K x H' k/\Q k H'):=by
 intro U s Z H Q I h;exact isTrue_plain (eJ (q U s Z H _ I h) λv s1 ⟨x,H1,b,r1,g⟩=>J7 U s1 Z H1 x v Q b r1 g) (he _)
theorem EA:wm X (binaryOp .Add) (λx y H Q=>∃i j,x=.str i/\y=.str j/\i.length+j.length<=sizeLine/\Q (.str (i++j)) H):=by
 intro U s Z H x y v u Q I b g h;obtain⟨i,j,rfl,rfl,hz,q⟩:=h;obtain⟨t,rfl⟩:=b;obtain⟨t',rfl⟩:=g;exact add_str (λt' l=>⟨.str (i++j),H,I.tok _,⟨_,rfl⟩,q⟩) hz
def vals1{x:V}(r:Vals [x] am):∃u,am=[u]/\RelV x u:=by
 cases r with
 |cons r1 b=>cases b;exact⟨_,rfl,r1⟩
def vals2{x y:V}(r:Vals [x,y] am):∃u w',am=[u,w']/\RelV x u/\RelV y w':=by
 cases r with
 |cons r1 b=>
  cases b with
  |cons g l=>cases l;exact⟨_,_,rfl,r1,g⟩
theorem HY(hc:X.calm=true):gP X (.builtin "max") (λxs H Q=>∃i j,xs=[.int i,.int j]/\Q (.int (if j>i then j else i)) H):=by
 intro U s Z H xs us Q I r h;obtain⟨i,j,rfl,q⟩:=h;obtain⟨u,g,rfl,⟨t,rfl⟩,⟨t',rfl⟩⟩:=vals2 r;refine max_two_ints (I.ok.hd hc) λh' l k=>⟨_,H,I.kept k,?_,q⟩;by_cases b:j>i
 ·rw[aX b,aX b];exact⟨_,rfl⟩
 ·rw[ba b,ba b];exact⟨_,rfl⟩
theorem zM:gP X (.type "int") (λxs H Q=>(∃i,xs=[.int i]/\Q (.int i) H)\/∃k,xs=[.bl k]/\Q (.int (if k then 1 else 0)) H):=by
 intro U s Z H xs us Q I r h;rcases h with⟨i,rfl,q⟩|⟨k,rfl,q⟩
 ·obtain⟨u,rfl,t,rfl⟩:=vals1 r;exact call_int_int ⟨.int i,H,I,⟨_,rfl⟩,q⟩
 ·obtain⟨u,rfl,r1⟩:=vals1 r;cases r1;exact call_int_bool ⟨.int (if k then 1 else 0),H,I.tok _,⟨_,rfl⟩,q⟩
def aas(K:Frag)(x:V)(H:Hp)(n:Nat):Prop:=
 match x with
 |.str y=>y.length<=sizeLine/\n=y.length
 |.PN y=>y.size<=sizeLine/\n=y.size
 |.ref p=>(∃xs,l0 K H p xs/\n=xs.length)\/∃xs,jl K H p xs/\n=xs.length
 |_=>False
theorem uh:gP X (.builtin "len") (λxs H Q=>∃x n,xs=[x]/\aas X.K x H n/\Q (.int n) H):=by
 intro U s Z H xs us Q I r h;obtain⟨x,n,rfl,e,q⟩:=h;obtain⟨u,rfl,g⟩:=vals1 r;have hl:=xT;have hs:sizeLine=16777216:=dW;cases x with
 |str y=>
  obtain⟨t,rfl⟩:=g;obtain⟨S,b⟩:y.length<=sizeLine/\n=y.length:=e;subst b;exact len_str (by omega) ⟨.int _,H,I.tok _,⟨_,rfl⟩,q⟩
 |PN y=>
  obtain⟨t,rfl⟩:=g;obtain⟨S,b⟩:y.size<=sizeLine/\n=y.size:=e;subst b;exact PySem.W.len_bytes (by omega) ⟨.int _,H,I.tok _,⟨_,rfl⟩,q⟩
 |ref p=>
  cases g;have b:(∃xs,l0 X.K H p xs/\n=xs.length)\/∃xs,jl X.K H p xs/\n=xs.length:=e;rcases b with⟨xs,l,b⟩|⟨xs,l,b⟩
  ·subst b;obtain⟨cw,L,pl,hz⟩:=I.list l;have M:=L.length;exact Calls.call_len_list pl.isList (by simp only[cU];omega) ⟨.int xs.length,H,I.tok _,⟨_,by simp only[cU];rw[M]⟩,q⟩
  ·subst b;obtain⟨cw,L,pl,hz⟩:=I.tuple l;have M:=L.length;exact len_tuple pl (by simp only[cU];omega) ⟨.int xs.length,H,I.tok _,⟨_,by simp only[cU];rw[M]⟩,q⟩
 |_=>exact fe e
end
structure EB(h:Heap)(x dx C:Addr)(mA:Str->Option Value):Prop where
 obj:h.get? x=some (PySem.W.instObj C dx)
 ns:h.Ns1 dx mA
 ne:dx≠x
theorem HZ(n:aa.Ns1 ar mg):∃od,aa.get? ar=some od/\∀name,PySem.W.lookIn name od=some (mg name):=by
 obtain⟨o,es,ep,b,hd,g,_,hm⟩:=n;refine⟨o,b,λname=>?_⟩;have e:=hm name;unfold nsFind findBy at e;rw[<-Array.find?_toList]at e;unfold PySem.W.lookIn;rw[hd];dsimp only;split
 ·rename_i y q;rw[q]at e;exact dh some e
 ·rename_i q;rw[q]at e;have a:es.toList.any (·.refKey)=false:=by
   rw[List.any_eq_false];intro y l;obtain⟨z,t,r⟩:=g y (Array.mem_toList_iff.mp l);simp[DictEntry.refKey,r]
  have I:¬es.toList.any (·.refKey)=true:=by rw[a];exact fI
  rw[ba I];exact dh some e
def EB.look {h:Heap}{x dx C:Addr}{mA:Str->Option Value}(I:EB h x dx C mA):∃q,PySem.W.InstAt h x (PySem.W.instObj C dx) C (some q)/\∀name,PySem.W.lookIn name q=some (mA name):=
 let⟨q,b,g⟩:=HZ I.ns
 ⟨q,⟨I.obj,rfl,rfl,b⟩,g⟩
section
variable {x C f:Addr}
def get_map{expr:Bool}(X:K.In s.heap)(I:EB s.heap x ar C mg)(q:PySem.W.plainGet K C au=true)(hh:PySem.W.hasDictIn K C=true)
  (ha:PySem.W.findIn K (.ref C) au=some none) (hv:mg au=some af) (J9:PySem.W.handedIn af=true) (h:Q af {s with toks:=s.toks+1}):
  wpAny (model P w) A (getAttr (.ref x) au expr) Q E s:=by
 obtain⟨g,J,b⟩:=I.look;exact PySem.W.get_value X J (pd q).1 (PySem.W.findObj_own hh ha rfl (by rw[b,hv])) J9 h
def J_{pl:Sem Bool}{Q:Value×List Value->Shared->Prop}(X:K.In s.heap)(I:EB s.heap x ar C mg)(q:PySem.W.plainGet K C au=true)
  (hf:PySem.W.findIn K (.ref C) au=some (some (.ref f))) (ht:PySem.W.isFn K (.ref f)=true) (hv:mg au=none) (h:Q (.ref f,[.ref x]) s):
  wpAny (model P w) A (getMethod (.ref x) au pl) Q E s:=by
 obtain⟨b,J,g⟩:=I.look;exact PySem.W.method_fn X J (pd q).1 (pd q).2 hf (fo.mp ht) (by show(PySem.W.lookIn au b).map (·.isSome)=some false;rw[g,hv];rfl) h
def Nw(X:K.In s.heap)(I:EB s.heap x ar C mg)
  (hs:PySem.W.findIn K (.ref C) "__setattr__"=some (some (.builtin "object.__setattr__"))) (hp:PySem.W.plainOver K C=true) (q:PySem.W.takerIn K C au=some none) (hh:PySem.W.hasDictIn K C=true)
  (hw:PySem.Within mg ps) (hsz:ps.length<=sizeLine)
  (h:∀h',EB h' x ar C (λy=>if y=au then some af else mg y)->Heap.SameBut ar s.heap h'->ae () {s with heap:=h',toks:=s.toks+2}):
  wpAny (model P w) A (setAttr (.ref x) au af) ae E s:=by
 obtain⟨od,J,hl⟩:=I.look;refine PySem.W.set_plain X J hs (PySem.W.osa_open (s:={s with toks:=s.toks+1}) (r:=none) X J hp q λb=>?_);obtain⟨cd,S,Nj⟩:=PySem.W.any_some hh;have hx:s.heap.get? x=some ⟨.ref C,some ar,.plain,#[]⟩:=I.obj;refine aS (bg (aS (aS (wpAny_loadPart hx (aS (PySem.W.Looks.here (s:={s with toks:=s.toks+1}) (PySem.W.looks_clsIn X S) ?_))))));rw[Nj];refine bg (a:=some ar) (aS (bg (aS ?_)));refine wpAny_nsSet1 (s:={s with toks:=s.toks+1}) I.ns λh' L M=>?_
 obtain⟨oD,esD,epD,g,l,n⟩:=L.count (PySem.Within.cons au af hw);refine aS (wpAny_lookBehind g (by rw[l];exact pastItsLine_dict (cC n (by rw[dw];omega))) ?_);exact bg (h _ ⟨(M.2 _ (Ne.symm I.ne)).trans I.obj,L,I.ne⟩ M)
theorem J'{kw:List (Str×Value)}(X:K.In s.heap)(hm:PySem.W.makesIn K C=true)
  (hi:PySem.W.findIn K (.ref C) "__init__"=some (some (.ref f))) (hf:PySem.W.typeIn K (.ref f)=some (.type "function"))
  (h:codeAny (model P w) (A.under (.builtin "type.__call__" ⟨.ref C::am,kw⟩)) (.call (.ref f) ⟨.ref (s.heap.objs.size+1)::am,kw⟩) (PySem.W.InitBack (s.heap.objs.size+1) av)
   {s with heap:=(s.heap.push PySem.W.emptyDict).push (PySem.W.instObj C s.heap.objs.size)}):
  codeAny (model P w) A (.call (.ref C) ⟨am,kw⟩) av s:=by
 obtain⟨b,g,d,t,os⟩:=s;exact PySem.W.make_core (PySem.W.makes_of X hm) (t8 X hi) (λself=>PySem.W.bind_fn X self hf) (.inl rfl) h
end
noncomputable def mV(f:Str)(v:V):List (Str×V)->List (Str×V)
 |[]=>[(f,v)]
 |(g,x)::r=>if g=f then(g,v)::r else(g,x)::mV f v r
theorem vN(f g:Str)(v:V):∀fs:List (Str×V),(mV f v fs).lookup g=if g=f then some v else fs.lookup g
 |[]=>by
  show List.lookup g [(f,v)]=_;by_cases h:g=f
  ·have hb:(g==f)=true:=fo.mpr h;simp only[List.lookup,hb,aX h]
  ·have hb:(g==f)=false:=j6.mpr h;simp only[List.lookup,hb,ba h]
 |(k,x)::r=>by
  have l:=vN f g v r;rw[show mV f v ((k,x)::r)=(if k=f then(k,v)::r else(k,x)::mV f v r)from rfl];by_cases b:k=f
  ·rw[aX b];by_cases h:g=k
   ·have hb:(g==k)=true:=fo.mpr h;simp only[List.lookup,hb,aX (h.trans b)]
   ·have hb:(g==k)=false:=j6.mpr h;simp only[List.lookup,hb,ba (λe:g=f=>h (e.trans b.symm))]
  ·rw[ba b];by_cases h:g=k
   ·have hb:(g==k)=true:=fo.mpr h;simp only[List.lookup,hb,ba (λe:g=f=>b (h.symm.trans e))]
   ·have hb:(g==k)=false:=j6.mpr h;simp only[List.lookup,hb];exact l
theorem vg(f:Str)(v:V):∀fs:List (Str×V),f∈(mV f v fs).map (·.1)/\∀g,g∈fs.map (·.1)->g∈(mV f v fs).map (·.1)
 |[]=>⟨by simp[mV],λg h=>by simp at h⟩
 |(k,x)::r=>by
  obtain⟨i1,i2⟩:=vg f v r;rw[show mV f v ((k,x)::r)=(if k=f then(k,v)::r else(k,x)::mV f v r)from rfl];by_cases b:k=f
  ·rw[aX b];subst b;exact⟨by simp,λg h=>by simpa using h⟩
  ·rw[ba b];refine⟨?_,λg h=>?_⟩
   ·rw[bB];exact cx _ i1
   ·rw[bB]at h⊢;rcases bI.mp h with e|e
    ·exact bI.mpr (.inl e)
    ·exact cx _ (i2 g e)
theorem vO(f:Str)(v:V):∀fs:List (Str×V),(mV f v fs).length<=fs.length+1
 |[]=>by simp[mV]
 |(k,x)::r=>by
  have g:=vO f v r;rw[show mV f v ((k,x)::r)=(if k=f then(k,v)::r else(k,x)::mV f v r)from rfl];by_cases b:k=f
  ·rw[aX b,dw,dw];omega
  ·rw[ba b,dw,dw];omega
def lY.some_of {v:V}{o:Option Value}(r:lY (some v) o):∃u,o=some u/\RelV v u:=by
 cases o with
 |none=>exact fe r
 |some u=>exact⟨u,rfl,r⟩
def lY.none_of {o:Option Value}(r:lY none o):o=none:=by
 cases o with
 |none=>rfl
 |some u=>exact fe r
def H_{v:V}{u:Value}(r:RelV v u):PySem.W.handedIn u=true:=by
 cases v with
 |cu=>cases(show u=Value.none from r);rfl
 |bl b=>cases(show u=Value.bool b from r);rfl
 |int i=>obtain⟨t,e⟩:=(show∃t,u=Value.int i t from r);cases e;rfl
 |str x=>obtain⟨t,e⟩:=(show∃t,u=Value.str x t from r);cases e;rfl
 |PN b=>obtain⟨t,e⟩:=(show∃t,u=Value.bytes b t from r);cases e;rfl
 |xJ b=>obtain⟨t,e⟩:=(show∃t,u=Value.float b t from r);cases e;rfl
 |ref a=>cases(show u=Value.ref a from r);rfl
 |ty n=>cases(show u=Value.type n from r);rfl
section
variable {h':Heap}{dx:Addr}{fs fs':List (Str×V)}
def ui(cX:r8 P w H aa)(e:H a=some (.ins ar dx fs)):∃mA,EB aa a dx ar mA/\(∀f,lY (fs.lookup f) (mA f))/\PySem.Within mA (fs.map (·.1))/\fs.length<=1000/\H dx=some (.own a):=by
 obtain⟨d,z,ne,ob,mA,n,r,q⟩:=(show cY P w H aa a (.ins ar dx fs)from cX a _ e);exact⟨mA,⟨ob,n,ne⟩,r,q,z,d⟩
end
structure EC(K:Frag)(C:Addr):Prop where
 pg:PySem.W.plainGet K C Str.empty=true
 hd:PySem.W.hasDictIn K C=true
 po:PySem.W.plainOver K C=true
 sa:PySem.W.findIn K (.ref C) "__setattr__"=some (some (.builtin "object.__setattr__"))
def EC.get {C:Addr}(c:EC K C)(f:Str):PySem.W.plainGet K C f=true:=c.pg
def r9(K:Frag)(C:Addr)(f:Str):Prop:=PySem.W.findIn K (.ref C) f=some none
def r9.VP {C:Addr}{f:Str}(n:r9 K C f):PySem.W.takerIn K C f=some none:=by
 unfold PySem.W.takerIn;rw[show PySem.W.findIn K (.ref C) f=some none from n]
 rfl
structure Meth(K:Frag)(C:Addr)(m:Str)(f:Addr):Prop where
 at_:PySem.W.findIn K (.ref C) m=some (some (.ref f))
 fn:PySem.W.isFn K (.ref f)=true
 kp:PySem.W.keepIn K (.ref f)=true
section
variable {C:Addr}{fs:List (Str×V)}{f:Str}{v:V}
def ED{b:Bool}(I:Inv X U Z H s)(e:H a=some (.ins C ar fs))(c:EC X.K C)(n:r9 X.K C f)(l:fs.lookup f=some v)
  (h:∀u s',Inv X U Z H s'->RelV v u->Q u s'):wpAny (model X.prog X.w) A (getAttr (.ref a) f b) Q E s:=by
 obtain⟨mA,O,r,_,_,_⟩:=ui I.cX e;obtain⟨u,L,g⟩:=lY.some_of (v:=v) (o:=mA f) (by rw[<-l];exact r f);exact get_map I.lZ O (c.get f) c.hd n L (H_ g) (h u _ (I.tok _) g)
def xU{g:Addr}{pl:Sem Bool}{Q:Value×List Value->Shared->Prop}(I:Inv X U Z H s)(e:H a=some (.ins C ar fs))(c:EC X.K C)(k:Meth X.K C x g)(l:fs.lookup x=none)
  (h:Q (.ref g,[.ref a]) s):wpAny (model X.prog X.w) A (getMethod (.ref a) x pl) Q E s:=by
 obtain⟨mA,O,r,_,_,_⟩:=ui I.cX e;have b:mA x=none:=lY.none_of (by rw[<-l];exact r x);exact J_ I.lZ O (c.get x) k.at_ k.fn b h
def EE{y:V}(I:Inv X U Z H s)(e:H a=some (.ins C ar fs))(c:EC X.K C)(n:r9 X.K C f)(hl:fs.length<1000)(ry:RelV y af)
  (h:∀s',Inv X U Z (upd H a (.ins C ar (mV f y fs))) s'->ae () s'):wpAny (model X.prog X.w) A (setAttr (.ref a) f af) ae E s:=by
 obtain⟨mA,O,r,L,_,M⟩:=ui I.cX e;have hz:(fs.map (·.1)).length<=sizeLine:=by rw[bt,dW];omega
 refine Nw I.lZ O c.sa c.po n.VP c.hd L hz λh' l S=>h _ ?_
 have hd:∃o,h'.get? ar=some o:=let⟨o,_,_,e',_⟩:=l.ns;⟨o,e'⟩
 refine I.write (x:=a) (e:=ar) (by rw[e];exact True.intro) (.inr M) (λb q hb z=>(S.2 b hb).trans z) hd ?_
 refine⟨by rw[bo O.ne];exact M,?_,O.ne,l.obj,_,l.ns,λg=>?_,λg hg=>?_⟩
 ·have:=vO f y fs;omega
 ·show lY ((mV f y fs).lookup g) (if g=f then some af else mA g);rw[vN];by_cases q:g=f
  ·rw[aX q,aX q];exact ry
  ·rw[ba q,ba q];exact r g
 ·by_cases q:g=f
  ·rw[q];exact(vg f y fs).1
  ·refine(vg f y fs).2 g (L g λz=>hg ?_);show(if g=f then some af else mA g)=none;rw[ba q];exact z
theorem Inv.made (I:Inv X U Z H s):Inv X U Z (upd (upd H s.heap.objs.size (.own (s.heap.objs.size+1))) (s.heap.objs.size+1) (.ins C s.heap.objs.size []))
  {s with heap:=(s.heap.push PySem.W.emptyDict).push (PySem.W.instObj C s.heap.objs.size)}:=by
 have g:(s.heap.push PySem.W.emptyDict).get? s.heap.objs.size=some PySem.W.emptyDict:=cy s.heap rfl;have l:((s.heap.push PySem.W.emptyDict).push (PySem.W.instObj C s.heap.objs.size)).get? (s.heap.objs.size+1)=some (PySem.W.instObj C s.heap.objs.size):=by
  have:=cy (s.heap.push PySem.W.emptyDict) (o:=PySem.W.instObj C s.heap.objs.size) rfl;rwa[jw]at this
 have n:(s.heap.push PySem.W.emptyDict).Ns s.heap.objs.size (λ_=>none):=⟨PySem.W.emptyDict,#[],_,g,rfl,(λe he=>absurd he (by simp)),λ_=>rfl⟩;have r:=I.laid (a:=s.heap.objs.size) (o:=.own (s.heap.objs.size+1)) (h':=s.heap.push PySem.W.emptyDict) (t':=s.toks) (λb u q=>bS _ q) (bu _) ⟨_,g⟩;refine r.laid (a:=s.heap.objs.size+1) (o:=.ins C s.heap.objs.size []) (t':=s.toks) (λb u q=>bS _ q) (Nat.le_of_eq (jw _ _)) ?_
 have ne:s.heap.objs.size≠s.heap.objs.size+1:=cc (pq _);refine⟨by rw[bo ne,bO],eP _,ne,l,λ_=>none,(Heap.Ns1.of_empty n).at λo q=>bS _ q,λ_=>True.intro,λy L=>absurd rfl L⟩
def F9{env:Env}(hb:attributeBase e f env (eval e env)=eval e env)
  (h:wpAny (model P w) A (eval e env) (λo q=>wpAny (model P w) A (getAttr o f true) Q E q) E s):wpAny (model P w) A (eval (.Attribute e f pos) env) Q E s:=
 Attribute_any_ h (by rw[arm_eval_Attribute,hb])
end
def aat(K:Frag)(ta:TE)(f:Str):TE:=λZ H Q=>ta Z H λx H1=>∃a C dx fs v,x=.ref a/\H1 a=some (.ins C dx fs)/\EC K C/\r9 K C f/\fs.lookup f=some v/\Q v H1
def aau(K:Frag)(ta tv:TE)(f:Str):TS:=λD Z H=>tv Z H λy H1=>ta Z H1 λx H2=>∃a C dx fs,x=.ref a/\H2 a=some (.ins C dx fs)/\EC K C/\r9 K C f/\fs.length<1000/\
 D.nx Z (upd H2 a (.ins C dx (mV f y fs)))
section
variable {f:Str}{ta tv:TE}
theorem Ka(he:PE X e ta)(hb:attributeBase e f X.env (eval e X.env)=eval e X.env):PE X (.Attribute e f pos) (aat X.K ta f):=by
 intro U s Z H Q I h;refine F9 hb (eJ (he U s Z H _ I h) λu s1 ⟨x,H1,b,g,a,C,dx,fs,v,ex,r,c,n,l,q⟩=>?_);subst ex;obtain rfl:u=Value.ref a:=g;exact ED b r c n l λu' s2 L M=>⟨v,H1,L,M,q⟩
theorem Ru(ha:PE X o ta)(hv:PE X tg tv)(hs:swapsWith tg (some (.Attribute o f p)) pos.line X.env=pure false):PS X (.Assign [.Attribute o f p] tg pos) (aau X.K ta tv f):=by
 intro U s Z H D I h;refine plainObj_wpAny_Assign_Attribute (eJ (hv U s Z H _ I h) λu s1 ⟨y,H1,b,g,q⟩=>eJ (ha U s1 Z H1 _ b q) λr s2 ⟨x,H2,L,M,a,C,dx,fs,ex,S,c,n,l,q2⟩=>?_) hs;subst ex;obtain rfl:r=Value.ref a:=M;exact EE L S c n l g λs3 I3=>⟨Z,_,I3,q2⟩
end
section
variable {b:Bool}
inductive uj(K:Frag)(H:Hp):V->Value->Prop where
 |cu:uj K H .cu (.type "NoneType")
 |bl (x:Bool):uj K H (.bl x) (.type "bool")
 |int (i:Int):uj K H (.int i) (.type "int")
 |str (x:Str):uj K H (.str x) (.type "str")
 |xJ (x:UInt64):uj K H (.xJ x) (.type "float")
 |lst {a:Addr} {xs:List V} (e:H a=some (.lst xs)):uj K H (.ref a) (.type "list")
 |lD {a:Addr} {o:Obj} {xs:List V} (e:H a=some (.lD o (.lst xs))):uj K H (.ref a) (.type "list")
 |tup {a:Addr} {xs:List V} (e:H a=some (.tup xs)):uj K H (.ref a) (.type "tuple")
 |dK {a:Addr} {kvs:List (Key×V)} (e:H a=some (.dK kvs)):uj K H (.ref a) (.type "dict")
 |dT {a:Addr} {kvs:List (List Key×V)} (e:H a=some (.dT kvs)):uj K H (.ref a) (.type "dict")
 |ins {a C dx:Addr} {fs:List (Str×V)} (e:H a=some (.ins C dx fs)) (cl:EC K C) (ha:PySem.W.findIn K (.ref C) "__class__"=some (some (.builtin "object.__class__")))
   (hn:PySem.W.specialIn K (.builtin "object.__class__") "__get__"=some (some (.builtin "getset_descriptor.__get__"))) (htk:PySem.W.takesIn K (.builtin "object.__class__")=some true)
   (hm:PySem.W.mroIn K C (.type "object")=some true):uj K H (.ref a) (.ref C)
def mW{x:V}{u t:Value}(I:Inv X U Z H s)(rx:RelV x u)(ty:uj X.K H x t)(e:PySem.W.kitOne X.K t af=some b)(h:∀tk,Q (.bool b) {s with toks:=tk}):
  wpAny (model X.prog X.w) A (call (.builtin "isinstance") [u,af]) Q E s:=by
 cases ty with
 |cu=>cases(show u=Value.none from rx);exact fm PySem.W.kitx_none I.lZ True.intro e (λz=>nomatch z) h
 |bl y=>cases(show u=Value.bool y from rx);exact fm PySem.W.kitx_bool I.lZ True.intro e (λz=>nomatch z) h
 |int i=>obtain⟨t,q⟩:=(show∃t,u=Value.int i t from rx);cases q;exact fm PySem.W.kitx_int I.lZ True.intro e (λz=>nomatch z) h
 |str y=>obtain⟨t,q⟩:=(show∃t,u=Value.str y t from rx);cases q;exact fm PySem.W.kitx_str I.lZ True.intro e (λz=>nomatch z) h
 |xJ y=>obtain⟨t,q⟩:=(show∃t,u=Value.float y t from rx);cases q;exact fm PySem.W.kitx_float I.lZ True.intro e (λz=>nomatch z) h
 |@lst a xs g=>
  cases(show u=Value.ref a from rx);obtain⟨_,_,n,_,h1⟩:=(show cY X.prog X.w H s.heap a (.lst xs)from I.cX a _ g);exact fm xo I.lZ ⟨_,h1,rfl⟩ e (λz=>nomatch z) h
 |@lD a r xs g=>
  cases(show u=Value.ref a from rx);obtain⟨_,_,_,n,_,h1⟩:=(show cY X.prog X.w H s.heap a (.lD r (.lst xs))from I.cX a _ g);exact fm xo I.lZ ⟨_,h1,rfl⟩ e (λz=>nomatch z) h
 |@tup a xs g=>
  cases(show u=Value.ref a from rx);obtain⟨_,_,_,p⟩:=(show cY X.prog X.w H s.heap a (.tup xs)from I.cX a _ g);obtain⟨o,h1,h2,_⟩:=p;exact fm PySem.W.kitx_tuple I.lZ ⟨o,h1,h2⟩ e (λz=>nomatch z) h
 |@dK a kvs g=>
  cases(show u=Value.ref a from rx);obtain⟨_,_,vs,_,p⟩:=(show cY X.prog X.w H s.heap a (.dK kvs)from I.cX a _ g);obtain⟨o,es,ep,h1,h2,_⟩:=p;exact fm tH I.lZ ⟨o,h1,h2.1⟩ e (λz=>nomatch z) h
 |@dT a kvs g=>
  cases(show u=Value.ref a from rx);obtain⟨_,_,xs,_,o,es,ep,h1,h2,_⟩:=(show cY X.prog X.w H s.heap a (.dT kvs)from I.cX a _ g);exact fm tH I.lZ ⟨o,h1,h2.1⟩ e (λz=>nomatch z) h
 |@ins a C dx fs g cl L M l hm=>
  cases(show u=Value.ref a from rx);obtain⟨mA,O,_⟩:=ui I.cX g;obtain⟨S,J,_⟩:=O.look;exact fm (PySem.W.kitx_own (cl.get _) cl.hd L M l hm) I.lZ J e (λz=>nomatch z) h
end
structure di(k:Nat)(A:Around):Prop where
 hd:A.handled=none
 dp:A.depth+3*k+5<recursionLimit
 un:A.units+16*k+200<cLine
def di.mono {j k:Nat}(r:di k A)(h:j<=k):di j A:=⟨r.hd,by have:=r.dp;omega,by have:=r.un;omega⟩
theorem di.deeper {k:Nat}(r:di (k+1) A)(env:Env):di k (A.deeper env):=
 ⟨r.hd,by have:=r.dp;show A.depth+1+3*k+5<_;omega,by have:=r.un;show A.units+3+16*k+200<_;omega⟩
theorem di.in1 {k:Nat}(r:di (k+1) A):di k A.in1:=
 ⟨r.hd,by have:=r.dp;show A.depth+3*k+5<_;omega,by have:=r.un;show A.units+1+16*k+200<_;omega⟩
theorem EF{kw:List (Str×Value)}:(A.under (.builtin "type.__call__" ⟨.ref a::am,kw⟩)).depth=A.depth+1:=by
 first|rfl|simp[Around.under,Code.weight,Code.isCreation,Code.isGuard,Code.isCaller,Code.frames,Code.isFrame,guardIds]
theorem EG{kw:List (Str×Value)}:(A.under (.builtin "type.__call__" ⟨.ref a::am,kw⟩)).units=A.units+1:=by
 first|rfl|simp[Around.under,Code.cUnits,Code.frames,Code.isFrame]
def di.make {k:Nat}(r:di (k+1) A)(C:Addr)(us:List Value)(kw:List (Str×Value)):di k (A.under (.builtin "type.__call__" ⟨.ref C::us,kw⟩)):=
 ⟨r.hd,by have:=r.dp;rw[EF];omega,by have:=r.un;rw[EG];omega⟩
theorem di.depth {k:Nat}(r:di k A):A.depth<recursionLimit:=by have:=r.dp;omega
theorem di.units {k:Nat}(r:di k A):A.units+64<cLine:=by have:=r.un;omega
def Rv:TA:=λ_ H Q=>Q [] H
def VQ(ta:TE)(q:TA):TA:=λZ H Q=>ta Z H λx H1=>q Z H1 λxs H2=>Q (x::xs) H2
section
variable {te:TE}{t:TA}
def r_:PA X [] Rv:=λ_ _ _ _ H Q I h=>pz ⟨[],H,I,.nil,h⟩
theorem lO(q:PE X e te)(hr:PA X es t)(hs:starEach (e::es) X.env=(false,eval e X.env)::starEach es X.env:=by rfl):PA X (e::es) (VQ te t):=by
 intro pos U s Z H Q I h;rw[hs];show wpAny _ _ (spliced ((false,eval e X.env)::backTo pos (starEach es X.env))) _ _ s;refine kI (eJ (q U s Z H _ I h) λu s1 ⟨x,H1,b,r1,g⟩=>?_);exact eJ (hr pos U s1 Z H1 _ b g) λus s2 ⟨xs,H2,l,r2,n⟩=>⟨x::xs,H2,l,.cons r1 r2,n⟩
def aav(t:TA):TE:=λZ H Q=>t Z H λxs H1=>xs.length<=sizeLine/\∀p,H1 p=none->Q (.ref p) (upd H1 p (.tup xs))
def aaw(t:TA):TE:=λZ H Q=>t Z H λxs H1=>xs.length<=sizeLine/\∀p,H1 p=none->Q (.ref p) (upd H1 p (.lst xs))
theorem Rw{x1}(h:PA X es t):PE X (.Tuple es x1 pos) (aav t):=by
 intro U s Z H Q I l;refine wpAny_Tuple_spliced (eJ (h pos U s Z H _ I l) λus s1 ⟨xs,H1,g,r,z,q⟩=>⟨by rw[<-r.length];exact z,?_⟩);have hf:H1 s1.heap.objs.size=none:=g.cX.fresh (bu _);refine⟨.ref s1.heap.objs.size,upd H1 s1.heap.objs.size (.tup xs),g.laid (t':=s1.toks) (λb u e=>bS _ e) (bu _) ?_,rfl,q _ hf⟩;exact⟨z,us,r,⟨_,cy _ rfl,rfl,_,rfl⟩⟩
theorem Kb(h:PA X es t):PE X (.List es pos) (aaw t):=by
 intro U s Z H Q I l;refine wpAny_List_spliced (eJ (h pos U s Z H _ I l) λus s1 ⟨xs,H1,g,r,z,q⟩=>⟨by rw[<-r.length];exact z,?_⟩);have hf:H1 s1.heap.objs.size=none:=g.cX.fresh (bu _);refine⟨.ref s1.heap.objs.size,upd H1 s1.heap.objs.size (.lst xs),g.laid (t':=s1.toks) (λb u e=>bS _ e) (bu _) ?_,rfl,q _ hf⟩;exact⟨z,us,0,r,cy _ rfl⟩
end
abbrev Sp:=List V->Hp->VK->XK->Prop
abbrev Cz:=List Env->Hp->Shared->XK->Value->Shared->Prop
structure zu(P:Program)(w:World)(K:Frag)(mg:Str->Option Value)(base:Heap)(A:Around)(outer:List Env)(s:Shared)(H:Hp):Prop where
 frames:A.frames=some outer
 mod:Mod K mg base
 bs:∀b o,base.get? b=some o->s.heap.get? b=some o/\H b=none
 HP:base.objs.size<=s.heap.objs.size
 rq:s.heap.FunFrames base outer
 JN:∀b∈jU outer,H b=none
 cX:r8 P w H s.heap
 bare:AllBare s.gens
def CE(outer:List Env)(P:Program)(w:World)(H:Hp)(s:Shared)(Q:VK)(u:Value)(s':Shared):Prop:=
 ∃v H',s'.os=s.os/\AllBare s'.gens/\Un (jU outer) [] H H' s.heap s'.heap/\r8 P w H' s'.heap/\RelV v u/\Q v H'
def CR(CX:Cz)(outer:List Env)(P:Program)(w:World)(H:Hp)(s:Shared)(Q:VK)(E:XK)(r:Result)(s':Shared):Prop:=
 match r with
 |.ok (.ret u)=>CE outer P w H s Q u s'
 |.ok _=>False
 |.error e=>CX outer H s E e s'
structure eC(P:Program)(w:World)(K:Frag)(mg:Str->Option Value)(base:Heap)(CX:Cz)(k:Nat)(f:Addr)(fd:FuncData)(ps:List Str)(sp:Sp):Prop where
 len:∀vs H Q E,sp vs H Q E->vs.length=ps.length
 run:∀(A:Around) (outer:List Env) (s:Shared) (H:Hp) (args:Args) (us:List Value) (vs:List V) (Q:VK) (E:XK),di k A->zu P w K mg base A outer s H->BindsTo s fd args (ps.zip us)->Vals vs us->sp vs H Q E->
  codeAny (model P w) A (.call (.ref f) args) (CR CX outer P w H s Q E) s
theorem eC.mono {base:Heap}{CX:Cz}{j k:Nat}{f:Addr}{fd:FuncData}{sp:Sp}(F:eC P w K mg base CX j f fd ps sp)(h:j<=k):
  eC P w K mg base CX k f fd ps sp:=⟨F.len,λA outer s H args us vs Q E b=>F.run A outer s H args us vs Q E (b.mono h)⟩
theorem zu.make {base:Heap}{outer:List Env}(e:zu P w K mg base A outer s H)(C:Addr)(us:List Value)(kw:List (Str×Value)):
  zu P w K mg base (A.under (.builtin "type.__call__" ⟨.ref C::us,kw⟩)) outer s H:=⟨by first|exact e.frames|(simpa[Around.under,Code.envs,Code.isFrame,pushEnvs]using e.frames),e.mod,e.bs,e.HP,e.rq,e.JN,e.cX,e.bare⟩
theorem zu.in1 {base:Heap}{outer:List Env}(e:zu P w K mg base A outer s H):
  zu P w K mg base A.in1 outer s H:=⟨e.frames,e.mod,e.bs,e.HP,e.rq,e.JN,e.cX,e.bare⟩
section
variable {s':Shared}
def Inv.Rx (I:Inv X U Z H s):zu X.prog X.w X.K X.mg X.base X.A X.stack s H:=
 ⟨I.ok.frames,I.ok.mod,I.bs,cC I.ok.HP I.sz,I.stack,I.wG,I.cX,I.bare⟩
theorem Inv.after {Q:VK}{u:Value}(I:Inv X U Z H s)(h:CE X.stack X.prog X.w H s Q u s'):EP X U Z Q u s':=by
 obtain⟨v,H',os,bare,un,cX,r,q⟩:=h;obtain⟨n,g,d,t,l⟩:=s';obtain rfl:l=s.os:=os;exact⟨v,H',I.call (h':=n) (g':=g) (d':=d) (t':=t) (ch:=[]) un cX bare (λb z=>absurd z (by simp)),r,q⟩
end
def P4(sp:Sp)(q:List V)(E:XK)(t:TA):TE:=λZ H Q=>t Z H λvs H1=>sp (vs++q) H1 Q E
def P5(C:Addr)(m:Str)(sp:Sp)(q:List V)(E:XK)(ta:TE)(t:TA):TE:=λZ H Q=>ta Z H λx H1=>∃a dx fs,x=.ref a/\H1 a=some (.ins C dx fs)/\fs.lookup m=none/\
 t Z H1 λvs H2=>sp (x::(vs++q)) H2 Q E
def P6(C:Addr)(sp:Sp)(q:List V)(E:XK)(t:TA):TE:=λZ H Q=>t Z H λvs H1=>∀x dx,H1 x=none->H1 dx=none->dx≠x->
 sp (.ref x::(vs++q)) (upd (upd H1 dx (.own x)) x (.ins C dx [])) (λv H2=>v=.cu/\Q (.ref x) H2) E
def Binds(K:Frag)(fd:FuncData)(ps:List Str)(ds:List Value):Prop:=
 ∀(s:Shared) (us:List Value),K.In s.heap->(us++ds).length=ps.length->BindsTo s fd ⟨us,[]⟩ (ps.zip (us++ds))
def Binds.all {fd:FuncData}(h:∀us:List Value,us.length=ps.length->bindArgs fd ⟨us,[]⟩=pure (ps.zip us)):Binds K fd ps []:=λs us _ b=>by
 rw[j9]at b⊢;exact .of_eq (h us b)
def Passes(CX:Cz)(X:Cx)(E:XK):Prop:=∀(U:List (Addr×Obj)) (Z:St) (H:Hp) (s:Shared) (e:Value) (s':Shared),Inv X U Z H s->CX X.stack H s E e s'->X.xe e s'
section
variable {CX:Cz}{k:Nat}{f C:Addr}{fd:FuncData}{sp:Sp}{E:XK}{ta:TE}{t:TA}
def EH{Q:VK}{us:List Value}{vs:List V}(F:eC X.prog X.w X.K X.mg X.base CX k f fd ps sp)(q:di k X.A)(hb:Binds X.K fd ps am)(hd:Vals aq am)(hx:Passes CX X E)
  (I:Inv X U Z H s) (r:Vals vs us) (h:sp (vs++aq) H Q E):wpAny (model X.prog X.w) X.A (call (.ref f) us) (EP X U Z Q) X.xe s:=by
 have g:Vals (vs++aq) (us++am):=r.append hd;have l:(us++am).length=ps.length:=by rw[<-g.length];exact F.len _ _ _ _ h
 refine pL (iE (F.run X.A X.stack s H ⟨us,[]⟩ (us++am) (vs++aq) Q E q I.Rx (hb s us I.lZ l) g h) λr s' b=>?_);cases r with
 |error e=>exact hx U Z H s e s' I b
 |ok fl=>
  cases fl with
  |ret u=>exact I.after b
  |_=>exact False.elim b
theorem F_(F:eC X.prog X.w X.K X.mg X.base CX k f fd ps sp)(hr:di k X.A)(hg:Gl X x)(hm:X.mg x=some (.ref f))(hk:PySem.W.keepIn X.K (.ref f)=true)(hb:Binds X.K fd ps am)(hd:Vals aq am)(hx:Passes CX X E)
  (ha:PA X (e::es) t) (fR:Db x:=by decide) (he:starEach (e::es) X.env=(false,eval e X.env)::starEach es X.env:=by rfl) (oX:(backTo pos (starEach es X.env)).any (·.1)=false:=by rfl):
  PE X (.Call (.Name x p) (e::es) [] pos) (P4 sp aq E t):=by
 intro U s Z H Q I h;refine mH (qM I hg hm ?_ fR);refine xl (h₀:=X.base) I.ok.mod.PR hk (eJ (ha pos U s Z H _ I h) λus s1 ⟨vs,H1,b,r,q⟩=>⟨b.lZ,?_⟩) he oX;exact EH F hr hb hd hx b r q
theorem Ga{pl:Sem Bool}(he:PE X o ta)(c:EC X.K C)(hm:Meth X.K C au f)(F:eC X.prog X.w X.K X.mg X.base CX k f fd ps sp)(hr:di k X.A)(hb:Binds X.K fd ps am)(hd:Vals aq am)(hx:Passes CX X E)(ha:PA X (e::es) t)
  (cH:starEach (e::es) X.env=(false,eval e X.env)::starEach es X.env:=by rfl) (oX:(backTo pos (starEach es X.env)).any (·.1)=false:=by rfl)
  (ht:eval (.Call (.Attribute o au b8) (e::es) [] pos) X.env=uc pos b8 o au (e::es) X.env pl:=by rfl):
  PE X (.Call (.Attribute o au b8) (e::es) [] pos) (P5 C au sp aq E ta t):=by
 intro U s Z H Q I h;refine PySem.W.methodCall_KW (pl:=pl) (eJ (he U s Z H _ I h) λu s1 ⟨x,H1,b,n,a,dx,fs,ex,L,l,q⟩=>?_) ht;subst ex;obtain rfl:u=Value.ref a:=n;refine xU b L c hm l ?_
 refine xl (first:=[.ref a]) (h₀:=X.base) I.ok.mod.PR hm.kp (eJ (ha pos U s1 Z H1 _ b q) λus s2 ⟨vs,H2,g,r,M⟩=>⟨g.lZ,?_⟩) cH oX;exact EH (us:=.ref a::us) (vs:=.ref a::vs) F hr hb hd hx g (.cons rfl r) M
theorem CA{pl:Sem Bool}(he:PE X o ta)(c:EC X.K C)(hm:Meth X.K C au f)(F:eC X.prog X.w X.K X.mg X.base CX k f fd ps sp)(hr:di k X.A)(hb:Binds X.K fd ps am)(hd:Vals aq am)(hx:Passes CX X E)
  (ht:eval (.Call (.Attribute o au b8) [] [] pos) X.env=uc pos b8 o au [] X.env pl:=by rfl):
  PE X (.Call (.Attribute o au b8) [] [] pos) (P5 C au sp aq E ta Rv):=by
 intro U s Z H Q I h;refine PySem.W.methodCall_KW (pl:=pl) (eJ (he U s Z H _ I h) λu s1 ⟨x,H1,b,g,a,dx,fs,ex,n,l,q⟩=>?_) ht;subst ex;obtain rfl:u=Value.ref a:=g;refine xU b n c hm l ?_
 exact PySem.W.callWith_K0 (first:=[.ref a]) b.lZ hm.kp (EH (us:=[.ref a]) (vs:=[.ref a]) F hr hb hd hx b (.cons rfl .nil) q)
structure Mk(K:Frag)(C f:Addr):Prop where
 makes:PySem.W.makesIn K C=true
 init:PySem.W.findIn K (.ref C) "__init__"=some (some (.ref f))
 fn:PySem.W.isFn K (.ref f)=true
 kp:PySem.W.keepIn K (.ref C)=true
def CB{Q:VK}{us:List Value}{vs:List V}(M:Mk X.K C f)(F:eC X.prog X.w X.K X.mg X.base CX k f fd ps sp)(q:di (k+1) X.A)(hb:Binds X.K fd ps am)(hd:Vals aq am)
  (hx:Passes CX X E) (I:Inv X U Z H s) (r:Vals vs us)
  (h:∀x dx,H x=none->H dx=none->dx≠x->sp (.ref x::(vs++aq)) (upd (upd H dx (.own x)) x (.ins C dx [])) (λv H2=>v=.cu/\Q (.ref x) H2) E):
  wpAny (model X.prog X.w) X.A (call (.ref C) us) (EP X U Z Q) X.xe s:=by
 have l:=h (s.heap.objs.size+1) s.heap.objs.size (I.cX.fresh (pJ _)) (I.cX.fresh (bu _)) (cc (pq _));have g:=Inv.made (C:=C) I;have n:Vals (V.ref (s.heap.objs.size+1)::(vs++aq)) (Value.ref (s.heap.objs.size+1)::(us++am)):=.cons rfl (r.append hd);have L:(Value.ref (s.heap.objs.size+1)::us++am).length=ps.length:=by
  have e:=n.length;rw[F.len _ _ _ _ l]at e;exact e.symm
 refine pL (J' (f:=f) I.lZ M.makes M.init (fo.mp M.fn) (iE (F.run _ X.stack _ _ ⟨Value.ref (s.heap.objs.size+1)::us,[]⟩ (Value.ref (s.heap.objs.size+1)::(us++am)) _ _ E (q.make C us [])
  (g.Rx.make C us []) (hb _ (Value.ref (s.heap.objs.size+1)::us) g.lZ L) n l) λr s' b=>?_))
 cases r with
 |error e=>exact hx U Z _ _ e s' g b
 |ok fl=>
  cases fl with
  |ret u=>
   obtain⟨v,H',S,rv,ev,q3⟩:=g.after b;subst ev;exact⟨rv,⟨V.ref (s.heap.objs.size+1),H',S,rfl,q3⟩⟩
  |_=>exact False.elim b
theorem Nx(M:Mk X.K C f)(F:eC X.prog X.w X.K X.mg X.base CX k f fd ps sp)(hr:di (k+1) X.A)(hg:Gl X x)(hm:X.mg x=some (.ref C))(hb:Binds X.K fd ps am)(hd:Vals aq am)(hx:Passes CX X E)
  (ha:PA X (e::es) t) (fR:Db x:=by decide) (he:starEach (e::es) X.env=(false,eval e X.env)::starEach es X.env:=by rfl) (oX:(backTo pos (starEach es X.env)).any (·.1)=false:=by rfl):
  PE X (.Call (.Name x p) (e::es) [] pos) (P6 C sp aq E t):=by
 intro U s Z H Q I h;refine mH (qM I hg hm ?_ fR);refine xl (h₀:=X.base) I.ok.mod.PR M.kp (eJ (ha pos U s Z H _ I h) λus s1 ⟨vs,H1,b,r,q⟩=>⟨b.lZ,?_⟩) he oX;exact CB M F hr hb hd hx b r q
theorem Kc(M:Mk X.K C f)(F:eC X.prog X.w X.K X.mg X.base CX k f fd ps sp)(q:di (k+1) X.A)(hg:Gl X x)(hm:X.mg x=some (.ref C))(hb:Binds X.K fd ps am)(hd:Vals aq am)(hx:Passes CX X E)
  (fR:Db x:=by decide):PE X (.Call (.Name x p) [] [] pos) (P6 C sp aq E Rv):=by
 intro U s Z H Q I h;refine mH (qM I hg hm ?_ fR);exact PySem.W.callWith_K0 I.lZ M.kp (CB (us:=[]) M F q hb hd hx I .nil h)
end
structure g_(N P:List Str)(sc:Scope):Prop where
 kind:sc.kind=.function
 co:sc.isCoroutine=false
 gen:sc.isGenerator=false
 nd:N.Nodup
 pre:N.take P.length=P
 par:∀x∈P,sc.names.lookup x=some .local\/sc.names.lookup x=some .cell
 Ry:∀y∈sc.names,y.2≠ .free
theorem zN{kindOf:Str->Option NameKind}:∀{binds:List (Str×Value)} {m:Str->Option Value},(∀v,(x,v)∉binds)->bindL kindOf binds m x=m x
 |[],_,_=>rfl
 |(n,v)::r,m,h=>by
  unfold bindL;rw[zN λw hw=>h w (cx _ hw)];split
  ·have:x≠n:=by rintro rfl;exact h v cB
   simp[this]
  ·rfl
theorem zO{kindOf:Str->Option NameKind}:∀{binds:List (Str×Value)} {m:Str->Option Value},(∀v,(x,v)∉binds)->bindC kindOf binds m x=m x
 |[],_,_=>rfl
 |(n,v)::r,m,h=>by
  unfold bindC;rw[zO λw hw=>h w (cx _ hw)];split
  ·rfl
  ·have:x≠n:=by rintro rfl;exact h v cB
   simp[this]
theorem zP{kindOf:Str->Option NameKind}{v:Value}:∀{P:List Str} {vs:List Value} {i:Nat} {m:Str->Option Value},P.Nodup->P[i]?=some x->vs[i]?=some v->kindOf x=some .local->
  bindL kindOf (P.zip vs) m x=some v
 |[],_,_,_,_,h,_,_=>by simp at h
 |_::_,[],_,_,_,_,h,_=>by simp at h
 |p::P,w::vs,0,m,nd,h1,h2,b=>by
  simp at h1 h2;subst h1;subst h2;show bindL kindOf ((p,w)::P.zip vs) m p=_;unfold bindL;rw[zN λv g=>(gA.mp nd).1 (tT g).1,aX b];simp
 |p::P,w::vs,i+1,m,nd,h1,h2,b=>by
  show bindL kindOf ((p,w)::P.zip vs) m x=_;unfold bindL;exact zP (i:=i) (gA.mp nd).2 (by simpa using h1) (by simpa using h2) b
theorem zQ{kindOf:Str->Option NameKind}{v:Value}:∀{P:List Str} {vs:List Value} {i:Nat} {m:Str->Option Value},P.Nodup->P[i]?=some x->vs[i]?=some v->kindOf x≠some .local->
  bindC kindOf (P.zip vs) m x=some v
 |[],_,_,_,_,h,_,_=>by simp at h
 |_::_,[],_,_,_,_,h,_=>by simp at h
 |p::P,w::vs,0,m,nd,h1,h2,b=>by
  simp at h1 h2;subst h1;subst h2;show bindC kindOf ((p,w)::P.zip vs) m p=_;unfold bindC;rw[zO λv g=>(gA.mp nd).1 (tT g).1,ba b];simp
 |p::P,w::vs,i+1,m,nd,h1,h2,b=>by
  show bindC kindOf ((p,w)::P.zip vs) m x=_;unfold bindC;exact zQ (i:=i) (gA.mp nd).2 (by simpa using h1) (by simpa using h2) b
noncomputable def start(N:List Str)(vs:List V):St:=vs.map some++List.replicate (N.length - vs.length) none
noncomputable def oY(CX:Cz)(P:Program)(w:World)(K:Frag)(mg:Str->Option Value)(base:Heap)(N:List Str)(qual:Str)(scope:Scope)(f:Addr)(cd:Value)(A:Around)(outer:List Env)(s:Shared)(H:Hp)(E:XK):Cx where
 prog:=P
 w:=w
 K:=K
 mg:=mg
 base:=base
 A:=A.deeper (envOfC qual scope s.heap.objs.size f cd)
 N:=N
 gD:=s
 Cu:=H
 env:=envOfC qual scope s.heap.objs.size f cd
 outer:=outer
 stack:=envOfC qual scope s.heap.objs.size f cd::outer
 ex:=[]
 calm:=true
 fn:=λ_=>true
 pn:=[]
 xe:=λe s'=>wpAny (model P w) (A.deeper (envOfC qual scope s.heap.objs.size f cd)) (leaving (envOfC qual scope s.heap.objs.size f cd) e) (λ_ b=>CX outer H s E e b) (λg b=>CX outer H s E g b) s'
def CC{n:Nat}(h:aw.names.lookup x=some .cell):∃c,(cellsFrom n aw.names []).lookup x=some c:=by
 have q:=PySem.W.cellsFrom_some aw.names n [] (.inl h);exact sU.mp q
theorem Ia{CX:Cz}{N:List Str}{outer:List Env}{s1:Shared}{E:XK}
  (S:g_ N ps aw) (hd:A.handled=none) (e0:zu P w K mg aa A outer s H) (hl:aq.length=ps.length) (r:Vals aq am)
  (x:InCallC s s.heap.objs.size (bindL (envOfC au aw s.heap.objs.size ar af).kindOf (ps.zip am) λ_=>none) (cellsFrom (s.heap.objs.size+1) aw.names []) (bindC (envOfC au aw s.heap.objs.size ar af).kindOf (ps.zip am) λ_=>none) s1):
  Inv (oY CX P w K mg aa N au aw ar af A outer s H E) [] (start N aq) H s1:=by
 have oX:ps.length<=N.length:=by have:=dh List.length S.pre;rw[List.length_take]at this;omega
 obtain⟨I,tk,rfl,M⟩:=x.done;have L:∀b:Addr,b∉(oY CX P w K mg aa N au aw ar af A outer s H E).ex:=λb z=>absurd (show b∈([]:List Addr)from z) (by simp);refine⟨⟨e0.mod,S.kind,rfl,rfl,bu _,λy z c I h2=>?_,λy g=>?_,λy c _ h=>?_,λ_=>hd,Around.frames_deeper e0.frames,.inr ⟨rfl,rfl⟩,λb z=>absurd z (L b),e0.bs,e0.HP,λb _ _=>L b,λb z=>absurd z (L b),e0.rq,e0.JN⟩,
  rfl,e0.bare,Un.kept M,⟨_,x.toInCall.ns,λi y v I h2 h3=>?_⟩,λy c h=>⟨_,x.cell y c h⟩,e0.cX.fresh (bu _),λy c h=>?_,λp hp=>absurd (show p∈([]:List (Addr×Obj))from hp) (by simp),e0.cX.kept M,?_⟩
 ·exact name_of_addr x.apart (lK I) (lK h2)
 ·have g:aw.names.lookup y=some .cell\/aw.names.lookup y=some .free:=g;rcases g with g|g
  ·exact CC g
  ·exact absurd rfl (S.Ry _ (lK g))
 ·exact dq (x.above y c (lK h))
 ·have hi:i<aq.length:=by
   unfold start at h2;by_cases hi:i<aq.length
   ·exact hi
   ·rw[w8 (by simpa using hi)]at h2;rw[sW]at h2;split at h2<;>cases h2
  have ha:aq[i]?=some v:=by
   unfold start at h2;rw[o7 (by simpa using hi),ck]at h2;cases e:aq[i]? with
   |none=>rw[e]at h2;cases h2
   |some a=>rw[e]at h2;cases h2;rfl
  obtain⟨u,hu,rv⟩:=r.get ha;have hp:ps[i]?=some y:=by
   rw[<-S.pre,List.getElem?_take_of_lt (by omega)];exact I
  have l:ps.Nodup:=by rw[<-S.pre];exact S.nd.sublist (List.take_sublist _ _)
  refine⟨u,rv,?_⟩;rcases S.par y (d6 hp)with k|k
  ·exact .inl ⟨k,zP l hp hu k⟩
  ·obtain⟨c,e⟩:=CC (n:=s.heap.objs.size+1) k;refine .inr ⟨.inl k,c,e,?_⟩;have q:=x.cell y c e;rw[zQ l hp hu (by show aw.names.lookup y≠_;rw[k];decide)]at q;exact q
 ·exact e0.cX.fresh (dq (x.above y c (lK h)))
 ·unfold start;show _=N.length;rw[eZ,bt,xj];omega
theorem P7{CX:Cz}{qual:Str}{params:Arguments}{kV doc pm gf ct oc:Value}{an od:Option Addr}
  {Kd:Array (Option Value)} {N:List Str} {sp:Sp} (lk:K.lookup a=some ⟨oc,od,.func (PySem.W.fnOf au qual params ah aw af kV doc pm an gf ct),Kd⟩) (Et:PySem.W.codeIn K gf qual=true) (S:g_ N ps aw)
  (len:∀vs H Q E,sp vs H Q E->vs.length=ps.length)
  (kR:∀(A:Around) (outer:List Env) (s:Shared) (H:Hp) (vs:List V) (Q:VK) (E:XK),di i (A.deeper (envOfC qual aw s.heap.objs.size a gf))->sp vs H Q E->
   ∃t,o5 (oY CX P w K mg aa N qual aw a gf A outer s H E) ah t/\t {nx:=λ_ H'=>Q .cu H',rt:=Q} (start N vs) H):
  eC P w K mg aa CX (i+1) a (PySem.W.fnOf au qual params ah aw af kV doc pm an gf ct) ps sp:=by
 refine⟨len,λA outer s H args us vs Q E l g hb r L=>?_⟩;have hl:=len _ _ _ _ L;have M:K.In s.heap:=g.mod.PR.keeps λb o e=>(g.bs b o e).1;have lim:s.heap.NoLimit:=g.mod.nolimit.keeps λb o e=>(g.bs b o e).1;have VT:∀y∈ps.zip us,aw.names.lookup y.1=some .local\/(aw.names.lookup y.1=some .cell/\((cellsFrom (s.heap.objs.size+1) aw.names []).lookup y.1).isSome=true):=λ⟨n,v⟩ hy=>by
  rcases S.par n (tT hy).1 with q|q
  ·exact .inl q
  ·exact .inr ⟨q,PySem.W.cellsFrom_some _ _ _ (.inl q)⟩
 refine codeAny_call_function l.depth (M _ _ lk) rfl S.co S.gen rfl (PySem.W.codeRec_of M Et) (hb _ _ _ _ ?_);refine wpAny_newFunctionEnv_cells S.kind VT λenv he s1 x=>?_
 subst he;refine⟨lim.keeps x.toInCall.keep,codeAny_func ?_⟩;obtain⟨t,ht,hq⟩:=kR A outer s H vs Q E (l.deeper _) L;have I:Inv (oY CX P w K mg aa N qual aw a gf A outer s H E) [] (start N vs) H s1:=Ia S l.hd g hl r x;refine d7 (ht [] s1 (start N vs) H _ I hq) (λfl s' hs=>?_) λe s' hs=>hs;have fin:∀{dF:St} {H':Hp} {v:V} {u:Value},Inv (oY CX P w K mg aa N qual aw a gf A outer s H E) [] dF H' s'->RelV v u->Q v H'->CE outer P w H s Q u s':=
  λ{dF H' v u} J rv q=>⟨v,H',J.os,J.bare,J.base,J.cX,rv,q⟩
 cases fl with
 |ret u=>
  obtain⟨v,dF,H',J,rv,q⟩:=hs;exact fin J rv q
 |next=>
  obtain⟨dF,H',J,q⟩:=hs;exact fin (v:=V.cu) (u:=Value.none) J rfl q
 |brk=>
  obtain⟨_,_,_,q⟩:=hs;exact False.elim q
 |cont=>
  obtain⟨_,_,_,q⟩:=hs;exact False.elim q
section
variable {t:TA}{T:String}{r:List V->Hp->VK->Prop}
def tCB(r:List V->Hp->VK->Prop)(t:TA):TE:=λZ H Q=>t Z H λvs H1=>r vs H1 Q
theorem pO(q:gP X (.builtin ax) r)(hg:Gl X x)(hm:X.mg x=none)(hv:bootBuiltins x=some (.builtin ax))(ha:PA X (e::es) t)(hn:x≠"__name__":=by decide) (fR:Db x:=by decide)
  (he:starEach (e::es) X.env=(false,eval e X.env)::starEach es X.env:=by rfl) (oX:(backTo pos (starEach es X.env)).any (·.1)=false:=by rfl):PE X (.Call (.Name x p) (e::es) [] pos) (tCB r t):=by
 intro U s Z H Q I h;refine mH (vf I hg hm hv ?_ hn fR);exact PyProof.Rows.callWith_builtin1 (eJ (ha pos U s Z H _ I h) λus s1 ⟨vs,H1,b,r1,g⟩=>q U s1 Z H1 vs us Q b r1 g) he oX
theorem vh(q:gP X (.type T) r)(hg:Gl X x)(hm:X.mg x=none)(hv:bootBuiltins x=some (.type T))(ha:PA X (e::es) t)(hn:x≠"__name__":=by decide) (fR:Db x:=by decide)
  (he:starEach (e::es) X.env=(false,eval e X.env)::starEach es X.env:=by rfl) (oX:(backTo pos (starEach es X.env)).any (·.1)=false:=by rfl):PE X (.Call (.Name x p) (e::es) [] pos) (tCB r t):=by
 intro U s Z H Q I h;refine mH (vf I hg hm hv ?_ hn fR);exact w6 (eJ (ha pos U s Z H _ I h) λus s1 ⟨vs,H1,b,r1,g⟩=>q U s1 Z H1 vs us Q b r1 g) he oX
end
abbrev TO:=St->Hp->(Option Int->Hp->Prop)->Prop
def PO(X:Cx)(e:Option Expr)(t:TO):Prop:=
 ∀(U:List (Addr×Obj)) (s:Shared) (Z:St) (H:Hp) (Q:Option Int->Hp->Prop),Inv X U Z H s->t Z H Q->
  wpAny (model X.prog X.w) X.A (evalPart e X.env) (λu s'=>∃o H',Inv X U Z H' s'/\IsPart u o/\Q o H') X.xe s
def Ny:TO:=λ_ H Q=>Q none H
def VU(t:TE):TO:=λZ H Q=>t Z H λx H1=>∃i,x=.int i/\Q (some i) H1
section
variable {te:TE}{lo hi:Option Expr}{tl th:TO}{p2:Pos}
theorem Nz:PO X none Ny:=by
 intro U s Z H Q I h;rw[evalPart_none];exact bg ⟨none,H,I,.none,h⟩
theorem NA(h:PE X e te):PO X (some e) (VU te):=by
 intro U s Z H Q I hw;rw[evalPart_some];refine eJ (h U s Z H _ I hw) λu s1 ⟨x,H1,b,r1,g⟩=>?_
 obtain⟨i,rfl,q⟩:=g;obtain⟨t,rfl⟩:=r1;exact⟨some i,H1,b,.int i t,q⟩
def UY(X:Cx)(r:V->Option Int->Option Int->Hp->VK->Prop):Prop:=
 ∀(U:List (Addr×Obj)) (s:Shared) (Z:St) (H:Hp) (x:V) (v b g:Value) (lo hi:Option Int) (sl:Addr) (Q:VK),Inv X U Z H s->RelV x v->s.heap.IsSliceOf sl b g .none->IsPart b lo->IsPart g hi->r x lo hi H Q->
  ∃T id,typeLookup (.type T) "__getitem__"=pure (some (.builtin id))/\s.TypeIs v T/\wpAny (model X.prog X.w) X.A (getItem v (.ref sl)) (EP X U Z Q) X.xe s
def tSl(r:V->Option Int->Option Int->Hp->VK->Prop)(te:TE)(tl th:TO):TE:=λZ H Q=>te Z H λx H1=>tl Z H1 λl H2=>th Z H2 λu b=>r x l u b Q
theorem Kf{r:V->Option Int->Option Int->Hp->VK->Prop}(hr:UY X r)(he:PE X e te)(hl:PO X lo tl)(hu:PO X hi th):PE X (.Subscript e (.Slice lo hi none p2) pos) (tSl r te tl th):=by
 intro U s Z H Q I h;refine Subscript_ (eJ (he U s Z H _ I h) λv s1 ⟨x,H1,M,r1,S⟩=>?_);refine wpAny_Slice (eJ (hl U s1 Z H1 _ M S) λg s2 ⟨l,H2,I2,pl,q2⟩=>eJ (hu U s2 Z H2 _ I2 q2) λn s3 ⟨u,L,I3,pu,q3⟩=>?_);rw[evalPart_none];refine bg ?_
 have I4:Inv X U Z L {s3 with heap:=s3.heap.push {cls:=.type "slice",data:=.fields #[g,n,.none]}}:=I3.kept (t':=s3.toks) λb ob q=>bS _ q;obtain⟨T,id,hT,ht,hg⟩:=hr U {s3 with heap:=s3.heap.push {cls:=.type "slice",data:=.fields #[g,n,.none]}} Z L x v g n l u s3.heap.objs.size Q I4 r1 (Heap.IsSliceOf.new ..) pl pu q3;show wpAny (model X.prog X.w) X.A (subscriptTail e (.Slice lo hi none p2) v (.ref s3.heap.objs.size)) (EP X U Z Q) X.xe {s3 with heap:=s3.heap.push {cls:=.type "slice",data:=.fields #[g,n,.none]}};exact tail_any (ops:=[.ref s3.heap.objs.size,v]) ht hT hg (by with_unfolding_all rfl)
def CD(xs:List V)(lo hi:Option Int):List V:=(xs.drop (HT.iB xs.length 0 lo)).take (HT.iB xs.length xs.length hi - HT.iB xs.length 0 lo)
def vP(xs:List V)(lo hi:Option Int):(CD xs lo hi).length<=xs.length:=by
 unfold CD;rw[List.length_take,List.length_drop];omega
def aax(K:Frag):V->Option Int->Option Int->Hp->VK->Prop:=λx lo hi H Q=>∃a xs,x=.ref a/\jl K H a xs/\
 ¬(HT.iB xs.length 0 lo=0/\HT.iB xs.length xs.length hi=xs.length)/\∀p,H p=none->Q (.ref p) (upd H p (.tup (CD xs lo hi)))
theorem RC:UY X (aax X.K):=by
 intro U s Z H x v M S lo hi sl Q I n hs pl pu h;obtain⟨a,xs,rfl,L,hw,q⟩:=h;cases n;obtain⟨cw,r,l,hz⟩:=I.tuple L;have g:cw.toArray.size=xs.length:=by rw[cU];exact r.length.symm
 refine⟨"tuple",_,w_.lookup,l.typeIs,?_⟩;refine HT.ub l hs pl pu (by rw[g];exact hw) ?_ (by rw[g];exact hz)
 rw[g];refine⟨.ref s.heap.objs.size,_,I.laid (t':=s.toks) (o:=.tup (CD xs lo hi)) (λb ob q=>bS _ q) (bu _) ?_,rfl,q _ (I.cX.fresh (bu _))⟩;exact⟨cC (vP xs lo hi) hz,_,(r.drop (HT.iB xs.length 0 lo)).take (HT.iB xs.length xs.length hi - HT.iB xs.length 0 lo),IsTup.new _ _⟩
def VW(K:Frag):R2:=λx y H Q=>∃a b xs ys,x=.ref a/\y=.ref b/\jl K H a xs/\jl K H b ys/\xs≠[]/\xs.length+ys.length<=sizeLine/\
 (ys=[]->Q (.ref a) H)/\(ys≠[]->∀p,H p=none->Q (.ref p) (upd H p (.tup (xs++ys))))
def Vals.AZ {xs:List V}{us:List Value}(r:Vals xs us):us=[]↔xs=[]:=by
 cases r with
 |_=>simp
theorem NB:wm X (binaryOp .Add) (VW X.K):=by
 intro U s Z H x y v u Q I g l h;obtain⟨a,b,xs,ys,rfl,rfl,ha,hb,n,hz,r,L⟩:=h;cases g;cases l;obtain⟨cw,r1,p1,_⟩:=I.tuple ha;obtain⟨M,r2,p2,_⟩:=I.tuple hb;refine HT.Nd p1 p2 (λz=>n (r1.AZ.mp z)) (λz=>⟨.ref a,H,I,rfl,r (r2.AZ.mp z)⟩) (λz=>?_) (by rw[<-r1.length,<-r2.length];exact hz);refine⟨.ref s.heap.objs.size,_,I.laid (t':=s.toks) (o:=.tup (xs++ys)) (λb S q=>bS _ q) (bu _) ?_,rfl,L (λw=>z (r2.AZ.mpr w)) _ (I.cX.fresh (bu _))⟩;exact⟨by rw[eZ];exact hz,_,r1.append r2,IsTup.new _ _⟩
end
noncomputable def M8(n:Nat)(i:Int):Option Nat:=if 0<=i then(if i<n then some i.toNat else none)else if-(n:Int)<=i then some (i+n).toNat else none
def vi{α:Type}(xs:List α)(i:Int):Option α:=(M8 xs.length i).bind λj=>xs[j]?
theorem NC{n:Nat}{i:Int}{j:Nat}(h:M8 n i=some j):seqIndex? i n=some j/\j<n/\-(n:Int)<=i/\i<n:=by
 unfold M8 at h;by_cases h0:0<=i
 ·rw[aX h0]at h;by_cases h1:i<n
  ·rw[aX h1]at h;have e:i.toNat=j:=Option.some.inj h;exact⟨by rw[seqIndex_of h0 h1,e],by omega,by omega,h1⟩
  ·rw[ba h1]at h;cases h
 ·rw[ba h0]at h;by_cases h1:-(n:Int)<=i
  ·rw[aX h1]at h;have e:(i+n).toNat=j:=Option.some.inj h;exact⟨by rw[seqIndex_neg (by omega) h1,e],by omega,h1,by omega⟩
  ·rw[ba h1]at h;cases h
def A5{xs:List ag}{i:Int}{v:ag}(h:vi xs i=some v):∃j,seqIndex? i xs.length=some j/\xs[j]?=some v/\j<xs.length/\-(xs.length:Int)<=i/\i<xs.length:=by
 unfold vi at h;cases e:M8 xs.length i with
 |none=>rw[e]at h;cases h
 |some j=>
  rw[e]at h;obtain⟨h1,h2,b,g⟩:=NC e;exact⟨j,h1,h,h2,b,g⟩
def A6{xs:List ag}{j:Nat}{v:ag}(h:xs[j]?=some v):vi xs (j:Int)=some v:=by
 have b:j<xs.length:=(gx.mp h).1;have e:M8 xs.length (j:Int)=some j:=by
  unfold M8;rw[aX (by omega),aX (by omega)];simp
 unfold vi;rw[e];exact h
def uk(b:Expr):Prop:=∀o i,subscripted b false o i=operate [o,i] (getItem o i)
def VX(X:Cx)(r:R2):Prop:=
 ∀(value slice:Expr) (U:List (Addr×Obj)) (s:Shared) (Z:St) (H:Hp) (x y:V) (v u:Value) (Q:VK),Inv X U Z H s->RelV x v->RelV y u->r x y H Q->
  subscripted slice false v u=operate [v,u] (getItem v u)->wpAny (model X.prog X.w) X.A (subscriptTail value slice v u) (EP X U Z Q) X.xe s
def RD(X:Cx)(id:String)(r:V->List V->Hp->VK->Prop):Prop:=
 ∀(U:List (Addr×Obj)) (s:Shared) (Z:St) (H:Hp) (x:V) (xs:List V) (v:Value) (us:List Value) (Q:VK),Inv X U Z H s->RelV x v->Vals xs us->r x xs H Q->
  wpAny (model X.prog X.w) X.A (call (.builtin id) (v::us)) (EP X U Z Q) X.xe s
section
variable {ta tb:TE}
theorem P8{r:R2}(hr:VX X r)(ha:PE X tg ta)(hb:PE X al tb)(hs:uk al):PE X (.Subscript tg al pos) (Rj r ta tb):=by
 intro U s Z H Q I h;exact Subscript_ (Rk ha hb I h λv u s2 x y H2 b g l q=>hr tg al U s2 Z H2 x y v u Q b g l q (hs _ _))
def aay(K:Frag):R2:=λx y H Q=>∃p xs i v,x=.ref p/\y=.int i/\l0 K H p xs/\vi xs i=some v/\Q v H
def aaz(K:Frag):R2:=λx y H Q=>∃p xs i v,x=.ref p/\y=.int i/\jl K H p xs/\vi xs i=some v/\Q v H
def aaA:R2:=λx y H Q=>∃z i c,x=.str z/\y=.int i/\z.length<=sizeLine/\vi z.cps.toList i=some c/\Q (.str ⟨#[c]⟩) H
theorem Gb:VX X (aay X.K):=by
 intro value slice U s Z H x y v u Q I l n h hs;obtain⟨p,xs,i,z,rfl,rfl,L,he,q⟩:=h;cases l;obtain⟨t,rfl⟩:=n;obtain⟨cw,r,pl,hz⟩:=I.list L;obtain⟨j,h1,h2,h3,M,S⟩:=A5 he;obtain⟨w,g,pP⟩:=r.get h2;have hl:=r.length;have hn:=xT;have fin:EP X U Z Q w s:=⟨z,H,I,pP,q⟩;by_cases h0:0<=i
 ·have b:i.toNat=j:=by
   rw[seqIndex_of h0 S]at h1;exact Option.some.inj h1
  exact item_listR pl.isList h0 (by omega) (by rw[b];simpa using g) fin hs
 ·have b:(i+(cw.toArray.size:Int)).toNat=j:=by
   rw[seqIndex_neg (by omega) M]at h1;rw[cU,<-hl];exact Option.some.inj h1
  exact subscriptTail_builtinR (x:=w) pl.isList.typeIs slot_list_getitem.lookup
   (wpAny_getItem_list_neg (Q:=λr s'=>r=w/\EP X U Z Q r s') pl.isList (by omega) (by rw[cU]<;>omega) (by omega) (by rw[b];simpa using g) ⟨rfl,fin⟩) hs
theorem RE:VX X (aaz X.K):=by
 intro value slice U s Z H x y v u Q I b g h hs;obtain⟨p,xs,i,z,rfl,rfl,l,he,q⟩:=h;cases b;obtain⟨t,rfl⟩:=g;obtain⟨cw,r,pl,hz⟩:=I.tuple l;obtain⟨j,h1,h2,S,h4,h5⟩:=A5 he;obtain⟨w,n,L⟩:=r.get h2;have M:=r.length;have hn:=xT;have fin:EP X U Z Q w s:=⟨z,H,I,L,q⟩;exact subscriptTail_builtinR (x:=w) pl.typeIs w_.lookup
  (getItem_tuple (j:=j) (Q:=λr s'=>r=w/\EP X U Z Q r s') pl (by omega) (by omega) (by rw[cU,<-M];exact h1) (by simpa using n) ⟨rfl,fin⟩) hs
theorem RF:VX X aaA:=by
 intro value slice U s Z H x y v u Q I b g h hs;obtain⟨z,i,c,rfl,rfl,hz,he,q⟩:=h;obtain⟨t,rfl⟩:=b;obtain⟨t',rfl⟩:=g;obtain⟨j,h1,h2,S,l,n⟩:=A5 he;have r:z.cps.toList.length=z.length:=by simp[Str.length]
 rw[r]at h1 l n;have hn:=xT;exact tail_any (typeIs_str s z t) slot_str_getitem.lookup (getItem_str (c:=c) (by
  have L:decide (i< -(2 ^63:Int))=false:=fJ (by omega);have M:decide (i>=2 ^63)=false:=fJ (by omega);rw[L,M,jx]) (by rw[h1];simpa using h2) ⟨.str ⟨#[c]⟩,H,I.tok _,⟨_,rfl⟩,q⟩) hs
def P9(v:Int)(n d:Nat):max 0 (min (if v<0 then v+n else v) (n:Int))=((HT.iB n d (some v):Nat):Int):=by
 rw[<-HT.AO];by_cases b:v<0
 ·rw[aX b,aX b];omega
 ·rw[ba b,ba b];omega
def A7(lo hi:Option Int)(n:Nat):(sliceBounds lo hi none n).1=((HT.iB n 0 lo:Nat):Int)/\(sliceBounds lo hi none n).2.1=((HT.iB n n hi:Nat):Int)/\(sliceBounds lo hi none n).2.2=1:=by
 refine⟨?_,?_,rfl⟩
 ·cases lo with
  |none=>rfl
  |some i=>exact(P9 i n 0)
 ·cases hi with
  |none=>rfl
  |some i=>exact(P9 i n n)
def zv(cw:List Value)(lo hi:Option Int):slicePick cw.toArray lo hi none=((cw.drop (HT.iB cw.length 0 lo)).take (HT.iB cw.length cw.length hi - HT.iB cw.length 0 lo)).toArray:=by
 obtain⟨b,h2,g⟩:=A7 lo hi cw.toArray.size;unfold slicePick;rw[b,h2,g];simp only[sliceRange_one,pick_run,cU]<;>rfl
def aaB(K:Frag):V->Option Int->Option Int->Hp->VK->Prop:=λx lo hi H Q=>∃tg xs,x=.ref tg/\l0 K H tg xs/\∀p,H p=none->Q (.ref p) (upd H p (.lst (CD xs lo hi)))
theorem ND:UY X (aaB X.K):=by
 intro U s Z H x v L M lo hi sl Q I g hs pl pu h;obtain⟨tg,xs,rfl,l,q⟩:=h;cases g;obtain⟨cw,r,b,hz⟩:=I.list l;have n:=r.length;refine⟨"list",_,slot_list_getitem.lookup,b.isList.typeIs,?_⟩;refine wpAny_getItem_list_slice b.isList hs pl pu .none (by simp) ?_ (by rw[cU]<;>omega)
 rw[zv,<-n];refine⟨.ref s.heap.objs.size,_,I.laid (t':=s.toks) (o:=.lst (CD xs lo hi)) (λal S q=>bS _ q) (bu _) ?_,rfl,q _ (I.cX.fresh (bu _))⟩;exact⟨cC (vP xs lo hi) hz,_,0,(r.drop (HT.iB xs.length 0 lo)).take (HT.iB xs.length xs.length hi - HT.iB xs.length 0 lo),cy _ rfl⟩
def P_:V->Bool
 |.cu=>true
 |.bl _=>true
 |.int _=>true
 |.str _=>true
 |_=>false
theorem um:gP X (.type "list") (λxs H Q=>∃p ys,xs=[.ref p]/\(l0 X.K H p ys\/jl X.K H p ys)/\∀l,H l=none->Q (.ref l) (upd H l (.lst ys))):=by
 intro U s Z H xs us Q I r h;obtain⟨p,ys,rfl,L,q⟩:=h;obtain⟨u,rfl,rx⟩:=vals1 r;cases rx;have fin:∀(cw:List Value),Vals ys cw->ys.length<=sizeLine->∀(h':Heap) (b:Nat),(∀al o',s.heap.get? al=some o'->h'.get? al=some o')->
   h'.get? s.heap.objs.size=some {cls:=.type "list",dict:=none,data:=.seq cw.toArray b,slots:=#[]}->EP X U Z Q (.ref s.heap.objs.size) {s with heap:=h'}:=λcw g hz h' b kp e=>
  ⟨.ref s.heap.objs.size,_,I.laid (t':=s.toks) kp (bu _) (show cY X.prog X.w _ h' _ (.lst ys)from⟨hz,cw,b,g,e⟩),rfl,q _ (I.cX.fresh (bu _))⟩
 rcases L with L|L
 ·obtain⟨cw,g,pl,hz⟩:=I.list L;have b9:=g.length;obtain⟨o,M,S,n,hd⟩:=pl.isList;exact call_list_seq p (.inl rfl) M S hd (λh' b kp e=>fin cw g hz h' b kp e) (by simp only[cU]<;>omega)
 ·obtain⟨cw,g,pl,hz⟩:=I.tuple L;have b9:=g.length;obtain⟨o,M,S,n,hd⟩:=pl;exact call_list_seq p (.inr rfl) M S hd (λh' b kp e=>fin cw g hz h' b kp e) (by simp only[cU]<;>omega)
theorem rG:gP X (.type "tuple") (λxs H Q=>∃p ys,xs=[.ref p]/\((l0 X.K H p ys/\∀l,H l=none->Q (.ref l) (upd H l (.tup ys)))\/(jl X.K H p ys/\Q (.ref p) H))):=by
 intro U s Z H xs us Q I r h;obtain⟨p,ys,rfl,h⟩:=h;obtain⟨u,rfl,L⟩:=vals1 r;cases L;rcases h with⟨b,q⟩|⟨b,q⟩
 ·obtain⟨cw,g,pl,hz⟩:=I.list b;have S:=g.length;refine call_tuple_list pl.isList (λh' kp=>?_) (by simp only[cU]<;>omega);have n:Inv X U Z H {s with heap:=h'}:=I.kept (t':=s.toks) kp;have M:Inv X U Z (upd H h'.objs.size (.tup ys)) {s with heap:=h'.push {cls:=.type "tuple",data:=.seq cw.toArray}}:=
   n.laid (t':=s.toks) (λal o e=>bS _ e) (bu _) (show cY X.prog X.w _ _ _ (.tup ys)from⟨hz,cw,g,IsTup.new _ _⟩)
  exact⟨.ref h'.objs.size,_,M,rfl,q _ (n.cX.fresh (bu _))⟩
 ·obtain⟨cw,g,pl,hz⟩:=I.tuple b;exact call_tuple_same pl ⟨.ref p,H,I,rfl,q⟩
def tyV(K:Frag)(T:String)(x:V)(H:Hp):Prop:=match x with
 |.str _=>T="str"
 |.int _=>T="int"
 |.ref p=>(T="list"/\∃xs,l0 K H p xs)\/(T="tuple"/\∃o,K.lookup p=some o/\o.cls=.type "tuple"/\o.dict=none)\/
   (T="dict"/\((∃kvs,H p=some (.dK kvs))\/∃kvs,H p=some (.dT kvs)))\/(T="set"/\∃S n,H p=some (.set S n))
 |_=>False
theorem RG{x:V}(I:Inv X U Z H s)(r:RelV x af)(ty:tyV X.K ax x H):
  s.TypeIs af ax/\∀tg,af=.ref tg->∃q,s.heap.get? tg=some q/\q.dict=none:=by
 cases x with
 |str z=>
  obtain⟨t,rfl⟩:=r;cases(show ax="str"from ty);exact⟨typeIs_str s z t,λ_ e=>nomatch e⟩
 |int i=>
  obtain⟨t,rfl⟩:=r;cases(show ax="int"from ty);exact⟨typeIs_int s i t,λ_ e=>nomatch e⟩
 |ref p=>
  cases r;rcases ty with⟨rfl,xs,l⟩|⟨rfl,o,b,L,hd⟩|⟨rfl,b⟩|⟨rfl,S,n,b⟩
  ·obtain⟨cw,_,pl,_⟩:=I.list l;refine⟨pl.isList.typeIs,λtg e=>?_⟩;cases e;obtain⟨o,n,e,c,hd,_⟩:=pl;exact⟨o,e,hd⟩
  ·refine⟨⟨o,I.lZ p o b,L⟩,λtg e=>?_⟩;cases e;exact⟨o,I.lZ _ o b,hd⟩
  ·have z:∃o,s.heap.get? p=some o/\o.ExactDict:=by
    rcases b with⟨kvs,b⟩|⟨kvs,b⟩
    ·obtain⟨_,_,_,_,o,_,_,e,ex,_⟩:=I.cX p _ b;exact⟨o,e,ex⟩
    ·obtain⟨_,_,_,_,o,_,_,e,ex,_⟩:=I.cX p _ b;exact⟨o,e,ex⟩
   obtain⟨o,e,ex⟩:=z;refine⟨⟨o,e,ex.1⟩,λtg g=>?_⟩;cases g;exact⟨o,e,ex.2.1⟩
  ·obtain⟨o,_,_,_,e,ex,_⟩:=I.cX p _ b;refine⟨⟨o,e,ex.1⟩,λtg g=>?_⟩;cases g;exact⟨o,e,ex.2.1⟩
 |_=>exact False.elim ty
def tBM(K:Frag)(T:String)(r:V->List V->Hp->VK->Prop)(to:TE)(t:TA):TE:=λZ H Q=>to Z H λx H1=>tyV K T x H1/\t Z H1 λxs H2=>r x xs H2 Q
variable {to:TE}{t:TA}{name:Str}{dH:Pos}{T id:String}{r:V->List V->Hp->VK->Prop}
theorem Gd(pa:PlainAttrs T)(slot:Slot T name id)(NF:typeOf (.builtin id)=pure (.type "method_descriptor"))(hm:RD X id r)(ho:PE X o to)(ha:PA X (e::es) t)
  (pQ:attributeBase o name X.env (eval o X.env)=eval o X.env:=by rfl)
  (q:((backTo dH (starEach (e::es) X.env)).all (λx=>!x.1)&&(backToKw dH (keywordEach [] X.env)).all (λx=>x.1.isSome)
   &&decide ((e::es).length+([]:List Keyword).length+(if([]:List Keyword).isEmpty then 0 else 1)<30))=true:=by rfl)
  (gi:(b8.endLine==dH.line)=true:=by rfl) (hs:starEach (e::es) X.env=(false,eval e X.env)::starEach es X.env:=by rfl) (RH:(backTo dH (starEach es X.env)).any (·.1)=false:=by rfl):
  PE X (.Call (.Attribute o name b8) (e::es) [] dH) (tBM X.K T r to t):=by
 intro U s Z H Q I h;refine wpAny_Call_method_late pQ q gi rfl (eJ (ho U s Z H _ I h) λv s1 ⟨x,H1,b,r1,ty,l⟩=>?_);obtain⟨h1,h2⟩:=RG b r1 ty;refine⟨T,id,pa,slot,NF,h1,h2,?_⟩;have g:=ha dH U s1 Z H1 _ b l;rw[hs]at g⊢;refine nF (by show(false||(backTo dH (starEach es X.env)).any (·.1))=false;rw[RH]<;>rfl) (nK ?_);exact eJ g λus s2 ⟨vs,H2,n,r2,L⟩=>hm U s2 Z H2 x vs v us Q n r1 r2 L
end
def MtM(X:Cx)(id:String)(r:V->List V->Hp->VK->Prop):Prop:=
 ∀(U:List (Addr×Obj)) (s:Shared) (Z:St) (H:Hp) (x:V) (xs:List V) (v:Value) (us:List Value) (Q:VK),Inv X U Z H s->RelV x v->Vals xs us->r x xs H Q->
  wpAny (model X.prog X.w) X.A (call (.builtin id) (v::us)) (EP X U Z Q) X.xe s
theorem Vals.one:∀{x:V} {us:List Value},Vals [x] us->∃u,us=[u]/\RelV x u
 |_,_,.cons r .nil=>⟨_,rfl,r⟩
theorem Vals.dropLast {xs:List V}{us:List Value}(h:Vals xs us):Vals xs.dropLast us.dropLast:=by
 induction h with
 |nil=>exact .nil
 |cons r t b=>
  cases t with
  |nil=>exact .nil
  |cons q t'=>exact .cons r b
theorem Vals.rep {xs:List V}{us:List Value}(h:Vals xs us):∀k:Nat,Vals (List.replicate k xs).flatten (List.replicate k us).flatten
 |0=>.nil
 |k+1=>by
  rw[nL,nL,mF,mF];exact Vals.append h (Vals.rep h k)
theorem foldl_rep(cw:List Value):∀(k:Nat) (acc:List Value),
  List.foldl (λq x2=>q++x2) acc.toArray (List.replicate k cw.toArray)=(acc++(List.replicate k cw).flatten).toArray
 |0,acc=>by simp
 |k+1,acc=>by
  have e:acc.toArray++cw.toArray=(acc++cw).toArray:=by simp
  have b:(acc++cw)++(List.replicate k cw).flatten=acc++(List.replicate (k+1) cw).flatten:=by
   rw[nL,mF,xp]
  rw[<-b,<-foldl_rep cw k (acc++cw),<-e,nL,List.foldl_cons]
section
variable {l:Addr}{ys zs:List V}
def Inv.NG {cw ue:List Value}{n:Nat}{f:Array Value->Array Value}{t':Nat}(I:Inv X U Z H s)(hH:H l=some (.lst aq))
  (e:s.heap.get? l=some {cls:=.type "list",data:=.seq cw.toArray n}) (hf:f cw.toArray=ue.toArray) (hv:Vals ys ue) (hz:ys.length<=sizeLine):
  Inv X U Z (upd H l (.lst ys)) {s with heap:=s.heap.update l (Obj.mapSeq f),toks:=t'}:=by
 have q:=PySem.IsL.update e f;rw[hf]at q;refine I.write (x:=l) (e:=l) (by rw[hH];exact trivial) (.inl rfl) (λg u hb b=>(nG s.heap (Obj.mapSeq f) (Ne.symm hb)).trans b) ⟨_,q⟩ ?_
 exact⟨hz,ue,_,hv,q⟩
def Inv.NH {cw:List Value}{t':Nat}(I:Inv X U Z H s)(hv:Vals ys cw)(hz:ys.length<=sizeLine):
  Inv X U Z (upd H s.heap.objs.size (.lst ys)) {s with heap:=s.heap.push {cls:=.type "list",data:=.seq cw.toArray},toks:=t'}:=
 I.laid (λ_ _ q=>bS _ q) (bu _) ⟨hz,cw,0,hv,cy _ rfl⟩
theorem Inv.fresh (I:Inv X U Z H s):H s.heap.objs.size=none:=I.cX.fresh (bu _)
def Inv.zw (I:Inv X U Z H s)(q:H l=some (.lst aq)):aq.length<=sizeLine/\∃(cw:List Value) (n:Nat),Vals aq cw/\aq.length=cw.length/\s.heap.get? l=some {cls:=.type "list",data:=.seq cw.toArray n}:=by
 obtain⟨z,cw,n,r,e⟩:=I.cX l _ q;exact⟨z,cw,n,r,r.length,e⟩
def Kg(h:i<=sizeLine):Builtin.List.listTooLong i=false:=by
 unfold Builtin.List.listTooLong;exact fJ (by omega)
end
def Ge:V->List V->Hp->VK->Prop:=λx vs H Q=>∃l xs y,x=.ref l/\vs=[y]/\H l=some (.lst xs)/\xs.length<sizeLine/\Q .cu (upd H l (.lst (xs++[y])))
theorem i7:MtM X "list.append" Ge:=by
 intro U s Z H x vs v us Q I g L h;obtain⟨l,xs,y,rfl,rfl,b,hz,q⟩:=h;cases g;obtain⟨u,rfl,M⟩:=L.one;obtain⟨z,cw,n,r,S,e⟩:=I.zw b;refine kO nD ⟨_,e,rfl⟩ F.entry_list_append (F.args_list_append_2 _ _) (PySem.list_append l cw.toArray n u (by rw[cU];omega)) ⟨e,?_⟩;refine⟨.cu,_,I.NG (ue:=cw++[u]) b e (by simp) (r.append (.cons M .nil)) ?_,rfl,q⟩;rw[eZ,List.length_singleton];omega
def aaD:R2:=λx y H Q=>∃l b xs zs,x=.ref l/\y=.ref b/\H l=some (.lst xs)/\H b=some (.lst zs)/\xs.length+zs.length<=sizeLine/\∀p,H p=none->Q (.ref p) (upd H p (.lst (xs++zs)))
theorem RI:wm X (binaryOp .Add) aaD:=by
 intro U s Z H x y v u Q I L M h;obtain⟨l,b,xs,zs,rfl,rfl,S,hB,hz,q⟩:=h;cases L;cases M;obtain⟨z,cw,n,r,hl,e⟩:=I.zw S;obtain⟨z2,g,n2,r2,Ng,e2⟩:=I.zw hB;refine PySem.P.add_list e e2 ?_ (by rw[cU,cU];omega)
 have ea:cw.toArray++g.toArray=(cw++g).toArray:=by simp
 rw[ea];exact⟨.ref _,_,I.NH (t':=s.toks) (r.append r2) (by rw[eZ];omega),rfl,q _ I.fresh⟩
def aaE:R2:=λx y H Q=>∃l k xs,x=.ref l/\y=.int k/\H l=some (.lst xs)/\-(2 ^63)<=k/\k<2 ^63/\xs.length*k.toNat<=sizeLine/\
 ∀p,H p=none->Q (.ref p) (upd H p (.lst (List.replicate k.toNat xs).flatten))
def len_rep(xs:List ag)(k:Nat):(List.replicate k xs).flatten.length=k*xs.length:=by
 induction k with
 |zero=>simp
 |succ k b=>rw[nL,mF,eZ,b,Nat.succ_mul,Nat.add_comm]
theorem RJ:wm X (binaryOp .Mult) aaE:=by
 intro U s Z H x y v u Q I S ry h;obtain⟨l,k,xs,rfl,rfl,hH,h1,h2,hz,q⟩:=h;cases S;obtain⟨t,rfl⟩:=ry;obtain⟨z,cw,n,r,hl,e⟩:=I.zw hH;have b9:cw.toArray.size*k.toNat<=sizeLine:=by rw[cU,<-hl];exact hz
 have b:¬cw.toArray.size*k.toNat>(2 ^63 - 1)/8:=by
  have:(sizeLine:Nat)<=(2 ^63 - 1)/8:=by decide
  omega
 have g:¬(!Builtin.List.listFitsIndex k)=true:=by
  rw[fitsIndex_both h1 h2];exact fI
 have VY:¬Builtin.List.listTooLong (cw.toArray.size*k.toNat)=true:=by
  rw[Kg b9];exact fI
 have Kh:List.foldl (λL M=>L++M) #[] (List.replicate (if cw.toArray.isEmpty=true then 0 else k.toNat) cw.toArray)=(List.replicate k.toNat cw).flatten.toArray:=by
  have f0:∀m:Nat,List.foldl (λL M=>L++M) #[] (List.replicate m cw.toArray)=(List.replicate m cw).flatten.toArray:=λm=>by
   have:=foldl_rep cw m [];rw[List.nil_append]at this;exact this
  rw[f0];cases cw with
  |nil=>simp
  |cons a r'=>rw[ba (by simp)]
 refine wpAny_binaryOp_repeat_ref (T:="list") (U:="int") (by decide) ⟨_,e,rfl⟩ (λs'=>typeIs_int s' k t) noFill_list_mul F.fills_int_mul F.slot_int_rmul repeat_list F.slot_int_index.lookup
  (kO F.slot_int_rmul (typeIs_int s k t) F.entry_int_rmul (F.args_int_rmul_2 _ _) (int___rmul___int_list k t l cw.toArray n)
   ⟨e,rfl,⟨_,e,rfl⟩,kO F.slot_list_mul ⟨_,e,rfl⟩ F.entry_list_mul (F.args_list_mul_2 _ _) (AutoListH.list___mul___list_int_3 l cw.toArray n k t g b VY) ⟨e,?_⟩⟩)
 rw[Kh];exact⟨.ref _,_,I.NH (t':=s.toks) (r.rep k.toNat) (by rw[len_rep,Nat.mul_comm];exact hz),rfl,q _ I.fresh⟩
section
variable [DecidableEq ag]
noncomputable def mX(kvs:List (ag×V))(k:ag):Option V:=(kvs.find? λb=>decide (b.1=k)).map (·.2)
noncomputable def putK(kvs:List (ag×V))(k:ag)(v:V):List (ag×V):=
 if(kvs.any λb=>decide (b.1=k))=true then kvs.map (λb=>if b.1=k then(b.1,v)else b)else kvs++[(k,v)]
noncomputable def rH(kvs:List (ag×V))(k:ag):List (ag×V):=kvs.filter λb=>decide (b.1≠k)
def uo{p:ag×V}{r:List (ag×V)}{k:ag}(e:p.1=k):mX (p::r) k=some p.2:=by simp[mX,j_,e]
def uq{p:ag×V}{r:List (ag×V)}{k:ag}(e:¬p.1=k):mX (p::r) k=mX r k:=by simp[mX,j_,e]
theorem CF(k:ag):∀kvs:List (ag×V),(kvs.any λq=>decide (q.1=k))=(mX kvs k).isSome
 |[]=>rfl
 |p::r=>by
  rw[jj];by_cases e:p.1=k
  ·simp only[uo e,gB e,t9,j7]
  ·rw[uq e,fJ e,jk];exact CF k r
def pR(kvs:List (ag×V))(k:ag)(v:V):(putK kvs k v).length<=kvs.length+1:=by
 unfold putK;split
 ·rw[bt];omega
 ·rw[eZ,dw,xy];omega
def lY.mY {o:Option V}{u:Option Value}(r:lY o u):o.isSome=u.isSome:=by
 cases o with
 |none=>cases u with
  |none=>rfl
  |some _=>exact fe r
 |some _=>cases u with
  |none=>exact fe r
  |some _=>rfl
theorem lY.getD {o:Option V}{u:Option Value}{d:V}{d':Value}(r:lY o u)(q:RelV d d'):RelV (o.getD d) (u.getD d'):=by
 cases o with
 |none=>cases u with
  |none=>exact q
  |some _=>exact fe r
 |some _=>cases u with
  |none=>exact fe r
  |some _=>exact r
def KV.val {kvs:List (ag×V)}{vs:List (ag×Value)}(r:KV kvs vs)(k:ag):lY (mX kvs k) (valueAt vs k):=by
 unfold KV at r
 induction r with
 |nil=>exact True.intro
 |@cons p q ps g h t I=>
  obtain⟨n,h2⟩:=h;by_cases e:p.1=k
  ·have l:q.1=k:=n.symm.trans e;have b:valueAt (q::g) k=some q.2:=by simp[valueAt,j_,l]
   rw[uo e,b];exact h2
  ·have l:¬q.1=k:=λz=>e (n.trans z);have b:valueAt (q::g) k=valueAt g k:=by simp[valueAt,j_,l]
   rw[uq e,b];exact I
theorem KV.any {kvs:List (ag×V)}{vs:List (ag×Value)}(r:KV kvs vs)(k:ag):(kvs.any λq=>decide (q.1=k))=vs.any λq=>decide (q.1=k):=by
 unfold KV at r
 induction r with
 |nil=>rfl
 |cons h t b=>rw[jj,jj,b,h.1]
def KV.RK {kvs:List (ag×V)}{vs:List (ag×Value)}(r:KV kvs vs)(k:ag){y:V}{u:Value}(ry:RelV y u):
  KV (kvs.map λkv=>if kv.1=k then(kv.1,y)else kv) (vs.map λkv=>if kv.1=k then(kv.1,u)else kv):=by
 unfold KV at r⊢
 induction r with
 |nil=>exact .nil
 |@cons p q ps l h t g=>
  rw[bB,bB];refine .cons ?_ g
  obtain⟨b,h2⟩:=h;by_cases e:p.1=k
  ·rw[aX e,aX (b.symm.trans e)];exact⟨b,ry⟩
  ·rw[ba e,ba (λz=>e (b.trans z))];exact⟨b,h2⟩
def KV.put {kvs:List (ag×V)}{vs:List (ag×Value)}(r:KV kvs vs)(k:ag){y:V}{u:Value}(q:RelV y u):KV (putK kvs k y) (stored vs k u):=by
 unfold putK stored;rw[r.any k];by_cases e:(vs.any λb=>decide (b.1=k))=true
 ·rw[aX e,aX e];exact r.RK k q
 ·rw[ba e,ba e];exact Paired.snoc r ⟨rfl,q⟩
def KV.drop {kvs:List (ag×V)}{vs:List (ag×Value)}(r:KV kvs vs)(k:ag):KV (rH kvs k) (without vs k):=by
 unfold KV at r⊢;unfold rH without
 induction r with
 |nil=>exact .nil
 |@cons p q ps I h t l=>
  obtain⟨g,h2⟩:=h;rw[pv,pv];by_cases e:p.1=k
  ·have a:¬decide (p.1≠k)=true:=by simp[e]
   have b:¬decide (q.1≠k)=true:=by simp[g.symm.trans e]
   rw[ba a,ba b];exact l
  ·have n:¬q.1=k:=λz=>e (g.trans z);have a:decide (p.1≠k)=true:=by simp[e]
   have b:decide (q.1≠k)=true:=by simp[n]
   rw[aX a,aX b];exact .cons ⟨g,h2⟩ l
def KV.keys {kvs:List (ag×V)}{vs:List (ag×Value)}(r:KV kvs vs):kvs.map (·.1)=vs.map (·.1):=by
 unfold KV at r
 induction r with
 |nil=>rfl
 |cons h t b=>rw[bB,bB,b,h.1]
theorem KV.length {kvs:List (ag×V)}{vs:List (ag×Value)}(r:KV kvs vs):kvs.length=vs.length:=Paired.length r
def Ki(kvs:List (ag×V))(k:ag):(rH kvs k).length<=kvs.length:=nH _ _
end
theorem pS{P:Program}{w:World}{k:Key}(r:RelV (kV k) af):(cp P w).is k af=true:=by
 cases k with
 |inl i=>obtain⟨t,e⟩:=(show∃t,af=Value.int i t from r);subst e;exact Cs P w i t
 |inr x=>obtain⟨t,e⟩:=(show∃t,af=Value.str x t from r);subst e;exact Ct P w x t
theorem zR:∀{ks:List Key} {us:List Value},Vals (ks.map kV) us->ItemsAre (cp P w) ks us
 |[],_,r=>by rw[mO]at r;cases r;exact .nil
 |k::ks,_,r=>by
  rw[bB]at r;cases r with
  |cons h t=>exact .cons (pS h) (zR t)
abbrev KT(H:Hp):List (List Key×V)->List (List Key×Addr×Value)->Prop:=Paired fun p q=>p.1=q.1/\H q.2.1=some (.tup (p.1.map kV))/\RelV p.2 q.2.2
def KT.val {kvs:List (List Key×V)}{xs:List (List Key×Addr×Value)}(r:KT H kvs xs)(k:List Key):lY (mX kvs k) ((atKey xs k).map (·.2)):=by
 induction r with
 |nil=>exact True.intro
 |@cons p q ps g h t I=>
  obtain⟨n,_,h2⟩:=h;by_cases e:p.1=k
  ·have l:q.1=k:=n.symm.trans e;have b:atKey (q::g) k=some q.2:=by simp[atKey,j_,l]
   rw[uo e,b];exact h2
  ·have l:¬q.1=k:=λz=>e (n.trans z);have b:atKey (q::g) k=atKey g k:=by simp[atKey,j_,l]
   rw[uq e,b];exact I
def KT.RK {kvs:List (List Key×V)}{xs:List (List Key×Addr×Value)}(r:KT H kvs xs)(k:List Key){y:V}{u:Value}(ry:RelV y u):
  KT H (kvs.map λkv=>if kv.1=k then(kv.1,y)else kv) (xs.map (putAt k u)):=by
 induction r with
 |nil=>exact .nil
 |@cons p q ps n h t g=>
  rw[bB,bB];refine .cons ?_ g
  obtain⟨b,h2,l⟩:=h;unfold putAt;by_cases e:p.1=k
  ·rw[aX e,aX (b.symm.trans e)];exact⟨b,h2,ry⟩
  ·rw[ba e,ba (λz=>e (b.trans z))];exact⟨b,h2,l⟩
def KT.put {kvs:List (List Key×V)}{xs:List (List Key×Addr×Value)}(r:KT H kvs xs)(k:List Key){b:Addr}{y:V}{u:Value}(hb:H b=some (.tup (k.map kV)))(ry:RelV y u):
  KT H (putK kvs k y) (storedH xs k b u):=by
 have e:(kvs.any λg=>decide (g.1=k))=(atKey xs k).isSome:=by
  rw[CF,(r.val k).mY,ji]
 unfold putK storedH;rw[e];by_cases q:(atKey xs k).isSome=true
 ·rw[aX q,aX q];exact r.RK k ry
 ·rw[ba q,ba q];exact Paired.snoc r ⟨rfl,hb,ry⟩
def KT.keeps {H':Hp}{kvs:List (List Key×V)}{xs:List (List Key×Addr×Value)}(r:KT H kvs xs)(q:∀b ys,H b=some (.tup ys)->H' b=some (.tup ys)):KT H' kvs xs:=
 Paired.Q8 r λ_ _ z=>⟨z.1,q _ _ z.2.1,z.2.2⟩
def P'{u:HO}(ok:r8 P w H aa)(e:Rd H a u):cY P w H aa a u:=e.ok ok
def ur(ok:r8 P w H aa)(e:Rd H a (.dK kvs)):kvs.length<=sizeLine/\(a==sysModules)=false/\∃vs,KV kvs vs/\aa.DictOf (cp P w) a vs:=
 show cY P w H aa a (.dK kvs)from P' ok e
def Gf(ok:r8 P w H aa)(e:H a=some (.dK kvs)):kvs.length<=sizeLine/\(a==sysModules)=false/\∃vs,KV kvs vs/\aa.DictOf (cp P w) a vs:=ur ok (.inl e)
def se{ks:List Key}(ok:r8 P w H aa)(e:H a=some (.tup (ks.map kV))):(tupleKind (cp P w)).is aa ks a:=by
 obtain⟨_,cw,r,o,h1,h2,n,b⟩:=(show cY P w H aa a (.tup (ks.map kV))from ok a _ e);exact⟨o,cw.toArray,n,h1,h2,b,by simpa using zR r⟩
theorem vQ{kvs:List (List Key×V)}(ok:r8 P w H aa)(e:Rd H a (.dT kvs)):kvs.length<=sizeLine/\(a==sysModules)=false/\
  ∃xs,KT H kvs xs/\aa.DictOfH (tupleKind (cp P w)) a xs:=by
 obtain⟨z,y,xs,r,o,es,ep,h1,h2,n,I,L⟩:=(show cY P w H aa a (.dT kvs)from P' ok e);refine⟨z,y,xs,r,o,es,ep,h1,h2,n,I,λx b=>?_,L⟩;have all:∀{l:List (List Key×V)} {m:List (List Key×Addr×Value)},KT H l m->∀x∈m,(tupleKind (cp P w)).is aa x.1 x.2.1:=by
  intro l m q
  induction q with
  |nil=>intro x b;exact nomatch b
  |@cons p q ps S g t M=>
   intro x b;rcases bI.mp b with e|b
   ·subst e;exact se ok (by rw[<-g.1];exact g.2.1)
   ·exact M x b
 exact all r x b
def VZ{kvs:List (List Key×V)}(ok:r8 P w H aa)(e:H a=some (.dT kvs)):kvs.length<=sizeLine/\(a==sysModules)=false/\
  ∃xs,KT H kvs xs/\aa.DictOfH (tupleKind (cp P w)) a xs:=vQ ok (.inl e)
def pT(H:Hp)(a:Addr)(y:V)(r:Option V):Prop:=
 (∃kvs k,Rd H a (.dK kvs)/\y=kV k/\r=mX kvs k)\/∃kvs k b,Rd H a (.dT kvs)/\y=.ref b/\H b=some (.tup (k.map kV))/\r=mX kvs k
def EI(H:Hp)(a:Addr)(y v:V)(H':Hp):Prop:=
 (∃kvs k,H a=some (.dK kvs)/\y=kV k/\kvs.length<sizeLine/\H'=upd H a (.dK (putK kvs k v)))\/
 ∃kvs k b,H a=some (.dT kvs)/\y=.ref b/\H b=some (.tup (k.map kV))/\kvs.length<sizeLine/\H'=upd H a (.dT (putK kvs k v))
theorem pT.k {H:Hp}{k:Key}(e:H a=some (.dK kvs)):pT H a (kV k) (mX kvs k):=.inl ⟨kvs,k,.inl e,rfl,rfl⟩
def pT.t {H:Hp}{b:Addr}{kvs:List (List Key×V)}{k:List Key}(e:H a=some (.dT kvs))(q:H b=some (.tup (k.map kV))):pT H a (.ref b) (mX kvs k):=.inr ⟨kvs,k,b,.inl e,rfl,q,rfl⟩
theorem EI.k {H:Hp}{k:Key}{v:V}(e:H a=some (.dK kvs))(q:kvs.length<sizeLine):EI H a (kV k) v (upd H a (.dK (putK kvs k v))):=.inl ⟨kvs,k,e,rfl,q,rfl⟩
def EI.t {H:Hp}{b:Addr}{kvs:List (List Key×V)}{k:List Key}{v:V}(e:H a=some (.dT kvs))(q:H b=some (.tup (k.map kV)))(hl:kvs.length<sizeLine):
  EI H a (.ref b) v (upd H a (.dT (putK kvs k v))):=.inr ⟨kvs,k,b,e,rfl,q,hl,rfl⟩
section
variable {y v:V}{r:Value}{o:Option V}
theorem Inv.big (I:Inv X U Z H s):sysModules<s.heap.objs.size:=by
 have h:mainGlobals<s.heap.objs.size:=(I.mod.glob.keeps I.bk).lt;exact Nat.lt_trans (by decide) h
theorem Ib(hu:A.units+1<cLine)(I:Inv X U Z H s)(g:pT H a y (some v))(ry:RelV y af)(h:∀q s',Inv X U Z H s'->RelV v q->Q q s'):
  wpAny (model X.prog X.w) A (getItem (.ref a) af) Q E s:=by
 rcases g with⟨kvs,k,e,n,l⟩|⟨kvs,k,b,e,n,L,l⟩
 ·subst n;obtain⟨z,hd,vs,rel,dd⟩:=ur I.cX e;obtain⟨q,hw,r⟩:=lY.some_of (v:=v) (o:=valueAt vs k) (by rw[l];exact rel.val k);exact wpAny_getItem_of (pS ry) dd.mapOf hw (h q _ (I.tok _) r)
 ·subst n;cases(show af=Value.ref b from ry);obtain⟨z,hd,xs,rel,dd⟩:=vQ I.cX e;obtain⟨q,hw,r⟩:=lY.some_of (v:=v) (o:=(atKey xs k).map (·.2)) (by rw[l];exact rel.val k);obtain⟨p,hp,M⟩:=Option.map_eq_some_iff.mp hw;refine wpAny_getItem_heap (mI hu) (se I.cX L) dd hp ?_
  rw[M];exact h q _ (I.tok _) r
theorem aaH(hu:A.units+1<cLine)(I:Inv X U Z H s)(g:pT H a y o)(ry:RelV y af)(h:∀s',Inv X U Z H s'->Q (.bool o.isSome) s'):
  wpAny (model X.prog X.w) A (compareOp .In af (.ref a)) Q E s:=by
 rcases g with⟨kvs,k,e,n,l⟩|⟨kvs,k,b,e,n,r,l⟩
 ·subst n;obtain⟨z,hd,vs,rel,dd⟩:=ur I.cX e;refine wpAny_in_of (pS ry) hd dd.mapOf ?_
  rw[<-(rel.val k).mY,<-l];exact h _ (I.tok _)
 ·subst n;cases(show af=Value.ref b from ry);obtain⟨z,hd,xs,rel,dd⟩:=vQ I.cX e;refine wpAny_in_heap (mI hu) (se I.cX r) hd dd ?_
  have q:=(rel.val k).mY;rw[ji]at q;rw[<-q,<-l];exact h _ (I.tok _)
theorem NJ(hu:A.units+1<cLine)(I:Inv X U Z H s)(g:pT H a y o)(ry:RelV y af)(h:∀s',Inv X U Z H s'->Q (.bool (!o.isSome)) s'):
  wpAny (model X.prog X.w) A (compareOp .NotIn af (.ref a)) Q E s:=by
 rcases g with⟨kvs,k,e,n,l⟩|⟨kvs,k,b,e,n,r,l⟩
 ·subst n;obtain⟨z,hd,vs,rel,dd⟩:=ur I.cX e;refine wpAny_notIn_of (pS ry) hd dd.mapOf ?_
  rw[<-(rel.val k).mY,<-l];exact h _ (I.tok _)
 ·subst n;cases(show af=Value.ref b from ry);obtain⟨z,hd,xs,rel,dd⟩:=vQ I.cX e;refine wpAny_notIn_heap (mI hu) (se I.cX r) hd dd ?_
  have q:=(rel.val k).mY;rw[ji]at q;rw[<-q,<-l];exact h _ (I.tok _)
def uu{ob:HO}(I:Inv X U Z H s)(mu:Vs (H a))(hs:Heap.SameBut a s.heap aa)(he:∃q,aa.get? a=some q)(new:cY X.prog X.w (upd H a ob) aa a ob):
  Inv X U Z (upd H a ob) {s with heap:=aa,toks:=i}:=
 I.write (x:=a) (e:=a) mu (.inl rfl) (λb q hb z=>(hs.2 b hb).trans z) he new
def xW{vs:List (Key×Value)}(z:kvs.length<=sizeLine)(hd:(a==sysModules)=false)(rel:KV kvs vs)(dd:aa.DictOf (cp P w) a vs):
  cY P w H aa a (.dK kvs):=⟨z,hd,vs,rel,dd⟩
theorem Ic(hu:A.units+1<cLine)(I:Inv X U Z H s)(g:EI H a y v ac)(ry:RelV y af)(rv:RelV v r)(h:∀s',Inv X U Z ac s'->ae () s'):
  wpAny (model X.prog X.w) A (setItem (.ref a) af r) ae E s:=by
 rcases g with⟨kvs,k,e,M,l,S⟩|⟨kvs,k,b,e,M,eb,l,S⟩
 ·subst M S;obtain⟨z,hd,vs,rel,dd⟩:=Gf I.cX e;have hz:vs.length<=sizeLine:=by rw[<-rel.length];exact z
  have hl:(putK kvs k v).length<=sizeLine:=by have:=pR kvs k v;omega
  refine wpAny_setItem_pairs (hsz:=hz) (pS ry) dd λh' n hs=>h _ ?_
  have he:∃q,h'.get? a=some q:=let⟨q,_,_,L,_⟩:=n;⟨q,L⟩
  exact uu I (by rw[e];exact True.intro) hs he (xW hl hd (rel.put k rv) n)
 ·subst M S;cases(show af=Value.ref b from ry);obtain⟨z,hd,xs,rel,dd⟩:=VZ I.cX e;have hz:xs.length<=sizeLine:=by rw[<-Paired.length rel];exact z
  have hl:(putK kvs k v).length<=sizeLine:=by have:=pR kvs k v;omega
  refine wpAny_setItem_heap (hsz:=hz) (mI hu) (se I.cX eb) dd λh' n hs=>h _ ?_
  obtain⟨q,es,ep,L,h2,h3,h4,_,h5⟩:=n;refine uu I (by rw[e];exact True.intro) hs ⟨q,L⟩ ⟨hl,hd,_,(rel.put k eb rv).keeps λc ys ec=>?_,q,es,ep,L,h2,h3,h4,h5⟩;rw[bo (Vq ec e (λz=>nomatch z))];exact ec
end
section
variable {k:Key}
theorem Qa{v:V}(I:Inv X U Z H s)(e:H a=some (.dK kvs))(ry:RelV (kV k) af)(l:mX kvs k=some v)(hm:am=[]\/∃x,am=[x])
  (h:∀w' s',Inv X U Z (upd H a (.dK (rH kvs k))) s'->RelV v w'->Q w' s'):wpAny (model X.prog X.w) A (call (.builtin "dict.pop") (.ref a::af::am)) Q E s:=by
 obtain⟨z,hd,vs,rel,dd⟩:=Gf I.cX e;obtain⟨w',hw,g⟩:=lY.some_of (v:=v) (o:=valueAt vs k) (by rw[<-l];exact rel.val k);have hp:(keyPart af).isSome=true:=by
  cases k with
  |inl i=>obtain⟨t,q⟩:=(show∃t,af=Value.int i t from ry);subst q;rfl
  |inr x=>obtain⟨t,q⟩:=(show∃t,af=Value.str x t from ry);subst q;rfl
 have n:argsOk "dict.pop" ⟨.ref a::af::am,[]⟩:=by
  rcases hm with q|⟨x,q⟩
  ·subst q;exact PySem.F.args_dict_pop_2 _ _
  ·subst q;exact PySem.F.args_dict_pop_3 _ _ _
 refine jy s_ dd.typeIs PySem.F.entry_dict_pop n (meets_dict_pop_there (cp X.prog X.w) a (pS ry) am hm hp)
  ⟨vs,w',dd,by rw[<-rel.length];exact z,hw,λh' b hs=>h w' _ ?_ g⟩
 have he:∃q,h'.get? a=some q:=let⟨q,_,_,r,_⟩:=b;⟨q,r⟩
 exact uu I (by rw[e];exact True.intro) hs he (xW (cC (Ki kvs k) z) hd (rel.drop k) b)
def RL{r:Value}(I:Inv X U Z H s)(e:H a=some (.dK kvs))(ry:RelV (kV k) af)(l:mX kvs k=none)(h:∀s',Inv X U Z H s'->Q r s'):
  wpAny (model X.prog X.w) A (call (.builtin "dict.pop") [.ref a,af,r]) Q E s:=by
 obtain⟨z,hd,vs,rel,dd⟩:=Gf I.cX e;have hn:valueAt vs k=none:=lY.none_of (by rw[<-l];exact rel.val k);have hp:(keyPart af).isSome=true:=by
  cases k with
  |inl i=>obtain⟨t,q⟩:=(show∃t,af=Value.int i t from ry);subst q;rfl
  |inr x=>obtain⟨t,q⟩:=(show∃t,af=Value.str x t from ry);subst q;rfl
 exact jy s_ dd.typeIs PySem.F.entry_dict_pop (PySem.F.args_dict_pop_3 _ _ _) (meets_dict_pop_default (cp X.prog X.w) a (pS ry) hd hp r) ⟨vs,dd,hn,h _ (I.tok _)⟩
def V0(I:Inv X U Z H s)(e:Rd H a (.dK kvs))(h:∀t s',Inv X U Z H s'->Q (.int kvs.length t) s'):wpAny (model X.prog X.w) A (call (.builtin "len") [.ref a]) Q E s:=by
 obtain⟨z,hd,vs,rel,dd⟩:=ur I.cX e;refine call_len_dict hd dd (by rw[<-rel.length];rw[dW]at z;omega) ?_
 rw[<-rel.length];exact h _ _ (I.tok _)
end
def NK(i:Expr):Prop:=∀b iv,subscripted i false b iv=operate [b,iv] (getItem b iv)
def NL{env:Env}{id:String}
  (hl:typeLookup (.type ax) "__getitem__"=pure (some (.builtin id))) (hs:NK tg)
  (h:wpAny (model P w) A (eval e env) (λo q=>wpAny (model P w) A (eval tg env) (λi ug=>ug.TypeIs o ax/\wpAny (model P w) A (getItem o i) Q E ug) E q) E s):
  wpAny (model P w) A (eval (.Subscript e tg pos) env) Q E s:=by
 refine Subscript_ (d7 h (λo q n=>d7 n (λi ug b=>?_) λ_ _ x=>x) λ_ _ x=>x);obtain⟨g,b⟩:=b;unfold subscriptTail;refine aS ?_
 rw[getitemInPython_of_ne g.not_modules];refine aS (wpAny_specialOf g hl ?_);have fin:wpAny (model P w) A (subscripted tg false o i) (λr l=>wpAny (model P w) A (letTemporaryGo e o r>>=λ_=>pure r) Q E l) E ug:=by
  rw[hs o i];exact wpAny_operating (d7 b (λr l I=>aS (wpAny_letTemporaryGo (bg I))) λ_ _ x=>x)
 first
  |exact bg (aS fin)
  |exact aS (bg (aS fin))
  |exact aS fin
def CH{y:V}{o:Option V}(I:Inv X U Z H s)(g:pT H a y o):s.TypeIs (.ref a) "dict":=by
 rcases g with⟨kvs,k,e,_,_⟩|⟨kvs,k,b,e,_,_,_⟩
 ·obtain⟨_,_,vs,_,dd⟩:=ur I.cX e;exact dd.typeIs
 ·obtain⟨_,_,xs,_,dd⟩:=vQ I.cX e;exact dd.typeIs
def V1(td ty tv:TE):TS:=λD Z H=>tv Z H λv H1=>td Z H1 λx H2=>ty Z H2 λy g=>∃a b,x=.ref a/\EI g a y v b/\D.nx Z b
section
variable {td ty tv:TE}
theorem NM(q:X.A.units+1<cLine)(ho:PE X o td)(hi:PE X e ty)(hv:PE X tg tv)(hs:swapsWith tg (some (.Subscript o e p)) pos.line X.env=pure false):
  PS X (.Assign [.Subscript o e p] tg pos) (V1 td ty tv):=by
 intro U s Z H D I h;refine wpAny_Assign_Subscript (eJ (hv U s Z H _ I h) λr s1 ⟨v,H1,b,rv,l⟩=>eJ (ho U s1 Z H1 _ b l) λu s2 ⟨x,H2,n,L,M⟩=>eJ (hi U s2 Z H2 _ n M) λiv s3 ⟨y,H3,S,ry,a,H4,ex,g,q3⟩=>?_) hs;subst ex;obtain rfl:u=Value.ref a:=L;exact Ic q S g ry rv λs4 I4=>⟨Z,H4,I4,q3⟩
end
def CI(h:Heap)(hb:sysModules<h.objs.size):cY P w H (h.push {cls:=.type "dict",data:=.dict #[]}) h.objs.size (.dK []):=
 ⟨eP _,j6.mpr (Ne.symm (cc hb)),[],.nil,Heap.DictOf.new h⟩
def RM:TE:=λ_ H Q=>∀p,H p=none->Q (.ref p) (upd H p (.dK []))
theorem Kj:PE X (.Dict [] [] pos) RM:=λU s Z H Q I h=>
 wpAny_Dict_empty ⟨.ref s.heap.objs.size,_,I.laid (a:=s.heap.objs.size) (o:=.dK []) (t':=s.toks) (λ_ _ q=>bS _ q) (bu _) (CI s.heap I.big),rfl,h _ (I.cX.fresh (bu _))⟩
def xX:List (TE×TE)->St->Hp->(List (V×V)->Hp->Prop)->Prop
 |[],_,H,Q=>Q [] H
 |(b,tv)::r,Z,H,Q=>b Z H λx H1=>tv Z H1 λy H2=>xX r Z H2 λps g=>Q ((x,y)::ps) g
abbrev VV:List (V×V)->List (Value×Value)->Prop:=Paired fun p q=>RelV p.1 q.1/\RelV p.2 q.2
def UZ(X:Cx)(pos:Pos)(keys:List (Option Expr))(values:List Expr)(q:List (TE×TE)):Prop:=
 ∀(U:List (Addr×Obj)) (s:Shared) (Z:St) (H:Hp) (Q:List (V×V)->Hp->Prop),Inv X U Z H s->xX q Z H Q->
  wpAny (model X.prog X.w) X.A (evalPairs (pairTrees keys values X.env pos)) (λvs s'=>∃ps H',Inv X U Z H' s'/\VV ps vs/\Q ps H') X.xe s
theorem Gh:UZ X pos [] [] []:=λU s Z H Q I h=>pairTrees_nil_walk ⟨[],H,I,.nil,h⟩
theorem CJ{ks:List (Option Expr)}{tk tv:TE}{A8:List (TE×TE)}(q:PE X e tk)(hv:PE X o tv)(hr:UZ X pos ks es A8):
  UZ X pos (some e::ks) (o::es) ((tk,tv)::A8):=λU s Z H Q I h=>
 pairTrees_cons_walk (eJ (q U s Z H _ I h) λu s1 ⟨x,H1,b,g,l⟩=>eJ (hv U s1 Z H1 _ b l) λw2 s2 ⟨y,H2,n,r,L⟩=>
  eJ (hr U s2 Z H2 _ n L) λws s3 ⟨ps,M,S,rel,q3⟩=>⟨(x,y)::ps,M,S,.cons ⟨g,r⟩ rel,q3⟩)
def i8(kvs more:List (Key×V)):List (Key×V):=more.foldl (λacc b=>putK acc b.1 b.2) kvs
def KV.merge:∀{more:List (Key×V)} {rs:List (Key×Value)} {kvs:List (Key×V)} {vs:List (Key×Value)},KV more rs->KV kvs vs->KV (i8 kvs more) (merged vs rs):=by
 intro more rs kvs vs r;unfold KV at r
 induction r generalizing kvs vs with
 |nil=>intro q;exact q
 |@cons p q ps l h t b=>
  intro g;have e:KV (putK kvs p.1 p.2) (stored vs q.1 q.2):=by
   have:=g.put p.1 h.2;rw[<-h.1];exact this
  exact b e
theorem jm:∀(more kvs:List (Key×V)),(i8 kvs more).length<=kvs.length+more.length
 |[],kvs=>by show kvs.length<=kvs.length+0;omega
 |p::r,kvs=>by
  have b:=jm r (putK kvs p.1 p.2);have h2:=pR kvs p.1 p.2;show(i8 (putK kvs p.1 p.2) r).length<=_;rw[dw];omega
theorem xY{P:Program}{w:World}:∀{kvs:List (Key×V)} {ws:List (Value×Value)},VV (kvs.map λkv=>(kV kv.1,kv.2)) ws->∃rs,Carries (cp P w) ws rs/\KV kvs rs
 |[],_,r=>by rw[mO]at r;cases r;exact⟨[],True.intro,.nil⟩
 |p::kvs,_,r=>by
  rw[bB]at r;cases r with
  |@cons a b as bs h t=>
   obtain⟨rs,c,q⟩:=xY (P:=P) (w:=w) t;obtain⟨g,b2⟩:=b;exact⟨(p.1,b2)::rs,⟨pS h.1,rfl,c⟩,.cons ⟨rfl,h.2⟩ q⟩
def V2(q:List (TE×TE)):TE:=λZ H Q=>∀p,H p=none->xX q Z (upd H p (.dK [])) λps H2=>H2 p=some (.dK [])/\∃kvs:List (Key×V),ps=kvs.map (λb=>(kV b.1,b.2))/\kvs.length<=15/\Q (.ref p) (upd H2 p (.dK (i8 [] kvs)))
theorem Gi{keys:List (Option Expr)}{A8:List (TE×TE)}(h:UZ X pos keys es A8)(ve:keys.all (·.isSome)=true)(hl:keys.length=es.length)(h0:keys≠[])
  (NN:keys.length<=15):PE X (.Dict keys es pos) (V2 A8):=by
 intro U s Z H Q I q;have l:=I.cX.fresh (bu s.heap.objs.size);have n:=I.laid (a:=s.heap.objs.size) (o:=.dK []) (h':=s.heap.push {cls:=.type "dict",data:=.dict #[]}) (t':=s.toks) (λ_ _ q=>bS _ q) (bu _) (CI s.heap I.big);refine wpAny_Dict_walk (knd:=cp X.prog X.w) ve hl h0 NN (eJ (h U _ Z _ _ n (q _ l)) λws s2 ⟨ps,H2,b,rel,e,kvs,ep,lk,r⟩=>?_);subst ep;obtain⟨rs,c,rk⟩:=xY (P:=X.prog) (w:=X.w) rel;obtain⟨z,hd,L,M,dd⟩:=Gf b.cX e;cases M;refine⟨rs,c,dd,λh' g hs=>⟨.ref s.heap.objs.size,_,?_,rfl,r⟩⟩;have hz:(i8 [] kvs).length<=sizeLine:=by
  have S:=jm kvs [];rw[xy]at S;rw[dW];omega
 have he:∃q,h'.get? s.heap.objs.size=some q:=let⟨q,_,_,hq,_⟩:=g;⟨q,hq⟩
 exact uu b (by rw[e];exact True.intro) hs he (xW hz hd (rk.merge .nil) g)
structure M1(X:Cx)(o:Expr)(m:Str)(b8:Pos)(e:Expr)(dH:Pos):Prop where
 base:attributeBase o m X.env (eval o X.env)=eval o X.env
 V3:((backTo dH (starEach [e] X.env)).all (fun x=>!x.1)&&(backToKw dH (keywordEach [] X.env)).all (fun x=>x.1.isSome)
  &&decide (([e]:List Expr).length+([]:List Keyword).length+(if([]:List Keyword).isEmpty then 0 else 1)<30))=true
 line:(b8.endLine==dH.line)=true
 trees:backTo dH (starEach [e] X.env)=[(false,eval e X.env)]
structure M2(X:Cx)(o:Expr)(m:Str)(b8:Pos)(e f:Expr)(dH:Pos):Prop where
 base:attributeBase o m X.env (eval o X.env)=eval o X.env
 V3:((backTo dH (starEach [e,f] X.env)).all (fun x=>!x.1)&&(backToKw dH (keywordEach [] X.env)).all (fun x=>x.1.isSome)
  &&decide (([e,f]:List Expr).length+([]:List Keyword).length+(if([]:List Keyword).isEmpty then 0 else 1)<30))=true
 line:(b8.endLine==dH.line)=true
 trees:backTo dH (starEach [e,f] X.env)=[(false,eval e X.env),(false,eval f X.env)]
def V4(H:Hp)(a:Addr):Prop:=(∃kvs,Rd H a (.dK kvs))\/∃kvs,Rd H a (.dT kvs)
def A9(I:Inv X U Z H s)(d:V4 H a):
  s.TypeIs (.ref a) "dict"/\(∀b,Value.ref a=.ref b->∃ob,s.heap.get? b=some ob/\ob.dict=none)/\(a==sysModules)=false:=by
 rcases d with⟨kvs,e⟩|⟨kvs,e⟩
 ·obtain⟨_,hd,vs,_,dd⟩:=ur I.cX e;refine⟨dd.typeIs,λb q=>?_,hd⟩;cases q;obtain⟨ob,_,_,h1,h2,_⟩:=dd;exact⟨ob,h1,h2.2.1⟩
 ·obtain⟨_,hd,xs,_,dd⟩:=vQ I.cX e;refine⟨dd.typeIs,λb q=>?_,hd⟩;cases q;obtain⟨ob,_,_,h1,h2,_⟩:=dd;exact⟨ob,h1,h2.2.1⟩
section
variable {y d:V}{r:Value}{o:Option V}
theorem RN(hu:A.units+1<cLine)(I:Inv X U Z H s)(g:pT H a y o)(q:RelV y af)(h:∀w' s',Inv X U Z H s'->RelV (o.getD .cu) w'->Q w' s'):
  wpAny (model X.prog X.w) A (call (.builtin "dict.get") [.ref a,af]) Q E s:=by
 rcases g with⟨kvs,k,e,n,l⟩|⟨kvs,k,b,e,n,r,l⟩
 ·subst n;obtain⟨z,hd,vs,rel,dd⟩:=ur I.cX e;refine jy mz dd.typeIs sZ (PySem.F.args_dict_get_2 _ _) (meets_dict_get (cp X.prog X.w) a (pS q) hd) ⟨_,dd.mapOf,h _ _ (I.tok _) ?_⟩;rw[l];exact(rel.val k).getD rfl
 ·subst n;cases(show af=Value.ref b from q);obtain⟨z,hd,xs,rel,dd⟩:=vQ I.cX e;refine jy mz dd.typeIs sZ (PySem.F.args_dict_get_2 _ _) (meetsH_dict_get (tupleKind (cp X.prog X.w)) a b hd) ⟨mI hu,k,xs,se I.cX r,dd,h _ _ (I.tok _) ?_⟩;rw[l];exact(rel.val k).getD rfl
theorem RO(hu:A.units+1<cLine)(I:Inv X U Z H s)(g:pT H a y o)(q:RelV y af)(rd:RelV d r)(h:∀w' s',Inv X U Z H s'->RelV (o.getD d) w'->Q w' s'):
  wpAny (model X.prog X.w) A (call (.builtin "dict.get") [.ref a,af,r]) Q E s:=by
 rcases g with⟨kvs,k,e,n,l⟩|⟨kvs,k,b,e,n,L,l⟩
 ·subst n;obtain⟨z,hd,vs,rel,dd⟩:=ur I.cX e;refine jy mz dd.typeIs sZ (PySem.F.args_dict_get_3 _ _ _) (meets_dict_get_default (cp X.prog X.w) a (pS q) hd r) ⟨_,dd.mapOf,h _ _ (I.tok _) ?_⟩;rw[l];exact(rel.val k).getD rd
 ·subst n;cases(show af=Value.ref b from q);obtain⟨z,hd,xs,rel,dd⟩:=vQ I.cX e;refine jy mz dd.typeIs sZ (PySem.F.args_dict_get_3 _ _ _) (meetsH_dict_get_default (tupleKind (cp X.prog X.w)) a b hd r) ⟨mI hu,k,xs,se I.cX L,dd,h _ _ (I.tok _) ?_⟩;rw[l];exact(rel.val k).getD rd
end
def RP(td ty:TE):TE:=λZ H Q=>td Z H λx H1=>∃a,x=.ref a/\V4 H1 a/\ty Z H1 λy H2=>∃o,pT H2 a y o/\Q (o.getD .cu) H2
def RQ(td ty tx:TE):TE:=λZ H Q=>td Z H λx H1=>∃a,x=.ref a/\V4 H1 a/\ty Z H1 λy H2=>tx Z H2 λz b=>∃o,pT b a y o/\Q (o.getD z) b
def RR(td ty:TE):TE:=λZ H Q=>td Z H λx H1=>∃a,x=.ref a/\V4 H1 a/\ty Z H1 λy H2=>∃kvs k v,H2 a=some (.dK kvs)/\y=kV k/\mX kvs k=some v/\Q v (upd H2 a (.dK (rH kvs k)))
def RS(td ty tx:TE):TE:=λZ H Q=>td Z H λx H1=>∃a,x=.ref a/\V4 H1 a/\ty Z H1 λy H2=>tx Z H2 λz b=>∃kvs k,b a=some (.dK kvs)/\y=kV k/\
 (∀v,mX kvs k=some v->Q v (upd b a (.dK (rH kvs k))))/\(mX kvs k=none->Q z b)
section
variable {td ty tx:TE}
theorem Kk(q:X.A.units+1<cLine)(ho:PE X o td)(he:PE X e ty)(m:M1 X o "get" b8 e p):PE X (.Call (.Attribute o "get" b8) [e] [] p) (RP td ty):=by
 intro U s Z H Q I h;refine tU m.base m.V3 m.line qL mz PySem.F.type_dict_get (eJ (ho U s Z H _ I h) λu s1 ⟨x,H1,b,l,a,ex,d,n⟩=>?_);subst ex;obtain rfl:u=Value.ref a:=l;obtain⟨t1,r,_⟩:=A9 b d;refine⟨t1,r,?_⟩;rw[m.trees];refine nF rfl (nK (kI (eJ (he U s1 Z H1 _ b n) λiv s2 ⟨y,H2,L,M,ov,g,S⟩=>pz ?_)));exact RN q L g M λw' s3 I3 pP=>⟨_,H2,I3,pP,S⟩
theorem Kl(q:X.A.units+1<cLine)(ho:PE X o td)(he:PE X e ty)(hf:PE X tg tx)(m:M2 X o "get" b8 e tg p):PE X (.Call (.Attribute o "get" b8) [e,tg] [] p) (RQ td ty tx):=by
 intro U s Z H Q I h;refine tU m.base m.V3 m.line qL mz PySem.F.type_dict_get (eJ (ho U s Z H _ I h) λu s1 ⟨x,H1,b,l,a,ex,d,n⟩=>?_);subst ex;obtain rfl:u=Value.ref a:=l;obtain⟨t1,r,_⟩:=A9 b d;refine⟨t1,r,?_⟩;rw[m.trees];refine nF rfl (nK (kI (eJ (he U s1 Z H1 _ b n) λiv s2 ⟨y,H2,L,M,S⟩=>
  kI (eJ (hf U s2 Z H2 _ L S) λfv s3 ⟨z,H3,I3,rz,ov,g,q3⟩=>pz ?_))))
 exact RO q I3 g M rz λw' s4 I4 pP=>⟨_,H3,I4,pP,q3⟩
theorem Km(q:PE X o td)(he:PE X e ty)(m:M1 X o "pop" b8 e p):PE X (.Call (.Attribute o "pop" b8) [e] [] p) (RR td ty):=by
 intro U s Z H Q I h;refine tU m.base m.V3 m.line qL s_ PySem.F.type_dict_pop (eJ (q U s Z H _ I h) λu s1 ⟨x,H1,b,g,a,ex,d,n⟩=>?_);subst ex;obtain rfl:u=Value.ref a:=g;obtain⟨t1,r,_⟩:=A9 b d;refine⟨t1,r,?_⟩;rw[m.trees];refine nF rfl (nK (kI (eJ (he U s1 Z H1 _ b n) λiv s2 ⟨y,H2,L,M,kvs,k,v,S,ey,l,q2⟩=>pz ?_)));subst ey;exact Qa L S M l (.inl rfl) λw' s3 I3 pP=>⟨v,_,I3,pP,q2⟩
theorem Kn(q:PE X o td)(he:PE X e ty)(hf:PE X tg tx)(m:M2 X o "pop" b8 e tg p):PE X (.Call (.Attribute o "pop" b8) [e,tg] [] p) (RS td ty tx):=by
 intro U s Z H Q I h;refine tU m.base m.V3 m.line qL s_ PySem.F.type_dict_pop (eJ (q U s Z H _ I h) λu s1 ⟨x,H1,g,M,a,ex,d,S⟩=>?_);subst ex;obtain rfl:u=Value.ref a:=M;obtain⟨t1,t2,_⟩:=A9 g d;refine⟨t1,t2,?_⟩;rw[m.trees];refine nF rfl (nK (kI (eJ (he U s1 Z H1 _ g S) λiv s2 ⟨y,H2,I2,n,q2⟩=>
  kI (eJ (hf U s2 Z H2 _ I2 q2) λfv s3 ⟨z,H3,r,rz,kvs,k,L,ey,q3,q4⟩=>pz ?_))))
 subst ey;cases l:mX kvs k with
 |some v=>exact Qa r L n l (.inr ⟨fv,rfl⟩) λw' s4 b pP=>⟨v,_,b,pP,q3 v l⟩
 |none=>exact RL r L n l λs4 b=>⟨z,H3,b,rz,q4 l⟩
end
theorem zS:∀{vs:List Value} {ns:List Int},IntsAre vs ns->Vals (ns.map V.int) vs
 |_,_,.nil=>.nil
 |_,_,.cons n t h=>.cons ⟨t,rfl⟩ (zS h)
def RT(H:Hp):Prop:=∀b,H b=none\/∃o xs,H b=some (.lD o (.lst xs))
theorem Ko{mb:Str->Option Value}{CX:Cz}{fd:FuncData}{sp:Sp}{dr:Shared}{ns:List Int}
  (KX:K.In dr.heap) (RU:dr.heap.Ns mainGlobals mg) (hb:dr.heap.Ns builtinsNs mb) (hbb:∀x:Str,x≠"__name__"->mb x=bootBuiltins x) (aaI:dr.heap.NoLimit) (hg:dr.gens=#[])
  (ha:dr.heap.get? a=some {cls:=.type "list",data:=.seq am.toArray}) (hi:IntsAre am ns) (hl:ns.length<=sizeLine) (hr:di i callerA)
  (F:∀base:Heap,K.In base->base.Ns mainGlobals mg->eC P w K mg base CX i ar fd [x] sp) (V5:∀(s:Shared) (u:Value),BindsTo s fd ⟨[u],[]⟩ [(x,u)])
  (Ke:∀H:Hp,RT H->l0 K H a (ns.map V.int)->sp [.ref a] H (λv _=>v=.bl true) λ_ _ _=>False)
  (hCX:∀H e s',CX [] H dr (λ_ _ _=>False) e s'->False):
  codeAny (model P w) callerA (.call (.ref ar) ⟨[.ref a],[]⟩) (λr s'=>r=.ok (.ret (.bool true))/\OldK dr.heap s'.heap/\s'.os=dr.os/\AllBare s'.gens) dr:=by
 have rv:=zS hi;have L:=hi.length;have core:∀H:Hp,RT H->l0 K H a (ns.map V.int)->r8 P w H dr.heap->(∀b,H b≠none->b=a)->(H a≠none->K.lookup a=none)->
   codeAny (model P w) callerA (.call (.ref ar) ⟨[.ref a],[]⟩) (λr s'=>r=.ok (.ret (.bool true))/\OldK dr.heap s'.heap/\s'.os=dr.os/\AllBare s'.gens) dr:=by
  intro H hO hS cX hA hK;have Gj:∀{b:Addr} {o:Obj},dr.heap.get? b=some o->H b=none->(AR dr.heap H).get? b=some o:=λe n=>JM e n;have VS:∀{b:Addr} {o:Obj} {es:Array DictEntry} {ep:Nat},dr.heap.get? b=some o->o.data=.dict es ep->H b=none:=λ{b o es ep} e d=>by
   cases q:H b with
   |none=>rfl
   |some u=>
    have M:b=a:=hA b (by rw[q];simp);subst M;rw[ha]at e;cases e;have d':Data.seq am.toArray _=Data.dict es ep:=d;cases d'
  have I:∀{b:Addr} {m:Str->Option Value},dr.heap.Ns b m->(AR dr.heap H).Ns b m:=λ{b m} ⟨o,es,ep,e,d,r⟩=>⟨o,es,ep,Gj e (VS e d),d,r⟩;have g:K.In (AR dr.heap H):=λb o e=>Gj (KX b o e) (by
   cases q:H b with
   |none=>rfl
   |some u=>
    have M:b=a:=hA b (by rw[q];simp);subst M;rw[hK (by rw[q];simp)]at e;cases e)
  have hM:Mod K mg (AR dr.heap H):=⟨g,I RU,⟨mb,I hb,hbb⟩,let⟨mc,h1,h2⟩:=aaI;⟨mc,I h1,h2⟩⟩;have e0:zu P w K mg (AR dr.heap H) callerA [] dr H:=⟨rfl,hM,λb o e=>Nh e,Nat.le_of_eq (HN _ _),trivial,λb hb=>absurd (show b∈([]:List Addr)from hb) (by simp),cX,.of_eq hg⟩;refine iE ((F _ g (I RU)).run callerA [] dr H ⟨[.ref a],[]⟩ [.ref a] [.ref a] _ _ hr e0 (V5 dr (.ref a)) (.cons rfl .nil) (Ke H hO hS)) λr s' h=>?_
  cases r with
  |error e=>exact(hCX H e s' h).elim
  |ok fl=>
   cases fl with
   |next=>exact False.elim h
   |brk=>exact False.elim h
   |cont=>exact False.elim h
   |ret u=>
    obtain⟨v,H',os,bare,un,S,r',q⟩:=h;have q':v=.bl true:=q;subst q';obtain rfl:u=Value.bool true:=r';refine⟨rfl,OldK.of_keep λb o e=>?_,os,bare⟩;cases q:H b with
    |none=>exact un.keep b o e q (by intro z;exact absurd (show b∈([]:List Addr)from z) (by simp)) (by simp)
    |some u=>
     rcases hO b with z|⟨ob,xs,z⟩
     ·rw[q]at z;cases z
     ·have z2:=un.lE b ob _ z;obtain⟨e1,_⟩:=cX b _ z;obtain⟨e2,_⟩:=S b _ z2;rw[e]at e1;cases e1;exact e2
 cases hk:K.lookup a with
 |some o=>
  have e:=KX a o hk;rw[ha]at e;cases e;refine core (λ_=>none) (λ_=>.inl rfl) (.inr ⟨_,am.toArray,_,hk,rfl,rfl,rfl,by rw[cU,L];exact hl,by simpa using rv⟩) (λb u z=>by have l:(none:Option HO)=some u:=z;cases l) (λb z=>absurd rfl z) λz=>absurd rfl z
 |none=>
  refine core (λb=>if b=a then some (.lD {cls:=.type "list",data:=.seq am.toArray} (.lst (ns.map V.int)))else none) (λb=>?_) (.inl (.inr ⟨{cls:=.type "list",data:=.seq am.toArray},aX rfl⟩)) (λb u z=>?_) (λb z=>?_) λ_=>hk
  ·by_cases hb:b=a
   ·exact .inr ⟨_,_,aX hb⟩
   ·exact .inl (ba hb)
  ·by_cases hb:b=a
   ·have l:=(aX hb).symm.trans z;cases l;subst hb;exact⟨ha,by rw[bt];exact hl,am,_,rv,ha⟩
   ·have l:=(ba hb).symm.trans z;cases l
  ·by_cases hb:b=a
   ·exact hb
   ·exact absurd (ba hb) z
def NO{l:PySem.W.OpenLaw}{n k:Nat}{XP:(Str->Option Value)->Heap->Prop}{YP:World->Heap->Prop}{d:DefRec}{K:Params->Frag}{CX:World->Cz}{sp:World->Sp}{x:Str}
  (hn:l.most=some n) (Rt:n<=sizeLine) (Vm:d.params.defaults=[]) (hr:di k callerA)
  (hY:∀(w:World) (h:Heap),YP w h->(K w.params).In h)
  (F:∀(w:World) (mg:Str->Option Value) (fa:Addr) (h:Heap),(K w.params).In h->h.Ns mainGlobals mg->mg d.name=some (.ref fa)->
   ∃fd:FuncData,(∀(s:Shared) (u:Value),BindsTo s fd ⟨[u],[]⟩ [(x,u)])/\
    ∀base:Heap,(K w.params).In base->base.Ns mainGlobals mg->eC l.prog w (K w.params) mg base (CX w) k fa fd [x] (sp w))
  (Ke:∀(w:World) (H:Hp) (a:Addr) (ns:List Int),ns.length<=n->RT H->l0 (K w.params) H a (ns.map V.int)->sp w [.ref a] H (λv _=>v=.bl true) λ_ _ _=>False)
  (q:∀(w:World) (H:Hp) (s:Shared) (e:Value) (s':Shared),CX w [] H s (λ_ _ _=>False) e s'->False):
  PySem.W.WalkO P ps XP YP l.row.toRowW d [] (λf vs=>PySem.call f vs):=by
 refine Att.Cr hn Vm λw gD L mg mb fa o pm cd doc a vs ns G M ho hd Et S Q2 hints r hg=>?_
 have I:=hY w _ M;obtain⟨fd,hb,hF⟩:=F w mg fa _ I G.T.g S;exact Ko I G.T.g G.T.b G.T.builtins G.T.nolimit hg Q2 hints (cC r Rt) hr hF hb (λH hO hS=>Ke w H a ns r hO hS) λH e s'=>q w H L e s'
noncomputable def wH(s:Stmt):Arguments:=match s with
 |.FunctionDef _ a _ _ _ _ _ _ _ _=>a
 |_=>{posonlyargs:=[],args:=[],vararg:=none,kwonlyargs:=[],kw_defaults:=[],kwarg:=none,defaults:=[]}
noncomputable def f_(s:Stmt):List Stmt:=match s with
 |.FunctionDef _ _ b _ _ _ _ _ _ _=>b
 |_=>[]
noncomputable def bJ(s:Stmt):Scope:=match s with
 |.FunctionDef _ _ _ _ _ _ sc _ _ _=>sc
 |_=>{kind:=.function,names:=[],isGenerator:=false,isCoroutine:=false}
abbrev mv:Cz:=fun _ _ _ _ _ _=>False
abbrev E0:XK:=fun _ _ _=>False
def Kp:Passes mv X E0:=λ_ _ _ _ _ _ _ h=>h.elim
structure zm(K:Frag)(x qual:Str)(st:Stmt)(f:Addr)(fd:FuncData):Prop where
 ex:∃(oc:Value) (od:Option Addr) (kV doc pm:Value) (an:Option Addr) (gf ct:Value) (Kd:Array (Option Value)),
  fd=PySem.W.fnOf x qual (wH st) (f_ st) (bJ st) .none kV doc pm an gf ct/\K.lookup f=some ⟨oc,od,.func fd,Kd⟩/\PySem.W.codeIn K gf qual=true
 kp:PySem.W.keepIn K (.ref f)=true
def zm.ok {qual:Str}{st:Stmt}{f:Addr}{fd:FuncData}{N:List Str}{k:Nat}{sp:Sp}(F:zm K x qual st f fd)(S:g_ N ps (bJ st))(len:∀vs H Q E,sp vs H Q E->vs.length=ps.length)
  (kR:∀(gf:Value) (A:Around) (outer:List Env) (s:Shared) (H:Hp) (vs:List V) (Q:VK) (E:XK),di k (A.deeper (envOfC qual (bJ st) s.heap.objs.size f gf))->sp vs H Q E->
   ∃t,o5 (oY mv P w K mg aa N qual (bJ st) f gf A outer s H E).JE (f_ st) t/\t {nx:=λ_ H'=>Q .cu H',rt:=Q} (start N vs) H):eC P w K mg aa mv (k+1) f fd ps sp:=by
 obtain⟨n,od,kV,doc,pm,an,gf,ct,Kd,rfl,lk,b⟩:=F.ex;refine P7 lk b S len λA outer s H vs Q E g l=>?_
 obtain⟨t,h,q⟩:=kR gf A outer s H vs Q E g l;exact⟨t,h.JE,q⟩
def zm.binds {qual:Str}{st:Stmt}{f:Addr}{fd:FuncData}(F:zm K x qual st f fd)
  (h:∀(kV doc pm:Value) (an:Option Addr) (gf ct:Value) (us:List Value),us.length=ps.length->bindArgs (PySem.W.fnOf x qual (wH st) (f_ st) (bJ st) .none kV doc pm an gf ct) ⟨us,[]⟩=pure (ps.zip us)):Binds K fd ps []:=by
 obtain⟨b,od,kV,doc,pm,an,gf,ct,Kd,rfl,lk,g⟩:=F.ex;exact .all (h kV doc pm an gf ct)
theorem a_(q:di i A):A.units+1<cLine:=tD (Nat.add_le_add_left (by decide:1<=64) _) q.units
def RV{A B:Prop}(h:B):if false=true then A else B:=by
 rw[ba fI];exact h
def RW{A B:Prop}(h:A):if true=true then A else B:=by
 rw[aX rfl];exact h
def bj(H H':Hp):Prop:=∀b o,H b=some o->H' b=some o
def bj.refl (H:Hp):bj H H:=λ_ _ h=>h
def bj.trans {H1 H2:Hp}(a:bj H H1)(b:bj H1 H2):bj H H2:=λc o h=>b c o (a c o h)
def bj.free {H':Hp}(e:bj H H'){l:Addr}(h:H' l=Option.none):H l=Option.none:=by
 cases q:H l with
 |none=>rfl
 |some o=>
  rw[e l o q]at h;cases h
def bj.seq {H':Hp}{xs:List V}(e:bj H H')(h:l0 K H a xs):l0 K H' a xs:=by
 rcases h with(h|⟨o,h⟩)|h
 ·exact .inl (.inl (e _ _ h))
 ·exact .inl (.inr ⟨o,e _ _ h⟩)
 ·exact .inr h
theorem xZ{α β:Type}{f:α->β->Sem (ForInStep β)}{g:β->α->β}:∀(l:List α) (c:β),(∀x∈l,∀c,f x c=pure (.yield (g c x)))->forIn l c f=(pure (l.foldl g c):Sem β)
 |[],c,_=>rfl
 |x::l,c,h=>by
  rw[pA,h x cB,pure_bind];exact xZ l _ λy b=>h y (cx _ b)
noncomputable def l6(env:Env)(cs:List (Str×Addr))(x:Str×NameKind):List (Str×Addr):=if x.2== .free then(x.1,(env.cells.lookup x.1).getD 0)::cs else cs
def EJ(scope:Scope)(env:Env):List (Str×Addr):=scope.names.foldl (l6 env) []
def uv{env:Env}(h:∀x∈aw.names,x.2=.free->∃c,env.cells.lookup x.1=some c):closureFor aw env=pure (EJ aw env):=by
 simp only[closureFor];rw[xZ (g:=l6 env) aw.names [] (λx l c=>by
  obtain⟨n,k⟩:=x;by_cases b:k=.free
  ·subst b;obtain⟨a,ha⟩:=h _ l rfl;have r:env.cells.lookup n=some a:=ha;simp[cellOf,r,l6]
  ·have e:(k==NameKind.free)=false:=by simpa using b
   simp[e,l6])]
 rfl
theorem x6{env:Env}:∀(names:List (Str×NameKind)) (acc:List (Str×Addr)),(∀x∈names,x.2=.free->∃c,env.cells.lookup x.1=some c)->(∀x c,acc.lookup x=some c->env.cells.lookup x=some c)->
  ∀x c,(names.foldl (l6 env) acc).lookup x=some c->env.cells.lookup x=some c
 |[],_,_,ha,x,c,e=>ha x c e
 |(n,k)::r,acc,hf,ha,x,c,e=>by
  refine x6 r (l6 env acc (n,k)) (λy g=>hf y (cx _ g)) (λy d b=>?_) x c e;unfold l6 at b;by_cases l:k=.free
  ·subst l;obtain⟨a,hn⟩:=hf (n,.free) cB rfl;have I:env.cells.lookup n=some a:=hn;simp only[bR,bX,I,pw,cP]at b;split at b
   ·rename_i g;have:y=n:=by simpa using g
    subst this;rw[I];exact b
   ·exact ha y d b
  ·have e:(k==NameKind.free)=false:=by simpa using l
   simp only[e,cE,bZ]at b;exact ha y d b
theorem x8{env:Env}:∀(names:List (Str×NameKind)) (acc:List (Str×Addr)) (x:Str),((acc.lookup x).isSome=true\/(x,NameKind.free)∈names)->((names.foldl (l6 env) acc).lookup x).isSome=true
 |[],_,_,h=>h.elim (λz=>z) λz=>absurd z (by simp)
 |(n,k)::r,acc,x,h=>by
  refine x8 r (l6 env acc (n,k)) x ?_
  unfold l6;rcases h with h|h
  ·left;split
   ·rw[cP];split<;>simp_all
   ·exact h
  ·rcases bI.mp h with h|h
   ·left;cases h;simp[cP]
   ·exact .inr h
theorem sf{env:Env}:∀{names:List (Str×NameKind)} {x:Str} {k:NameKind},(names.map λ(n,k)=>if(k==NameKind.free&&env.scope.kind== .function&&env.kindOf n==some .cell)then(n,NameKind.cell)else(n,k)).lookup x=some k->
  names.lookup x=some k\/names.lookup x=some .free
 |[],_,_,h=>by simp at h
 |(n,j)::r,x,k,h=>by
  simp only[bB]at h;by_cases g:x=n
  ·subst g;by_cases b:(j==NameKind.free&&env.scope.kind== .function&&env.kindOf x==some .cell)=true
   ·rw[aX b]at h;simp only[bW,fo]at b;right;rw[cP,bR,b.1.1]
   ·rw[ba b]at h;left;rw[cP,bR]at h⊢;exact h
  ·have e:(x==n)=false:=by simpa using g
   have h':(r.map λ(n,k)=>if(k==NameKind.free&&env.scope.kind== .function&&env.kindOf n==some .cell)then(n,NameKind.cell)else(n,k)).lookup x=some k:=by
    split at h<;>(rw[cP,e]at h;exact h)
   rcases sf h' with z|z
   ·left;rw[cP,e];exact z
   ·right;rw[cP,e];exact z
theorem uw{env:Env}:∀{names:List (Str×NameKind)} {x:Str},names.lookup x=some .free->
  (names.map λ(n,k)=>if(k==NameKind.free&&env.scope.kind== .function&&env.kindOf n==some .cell)then(n,NameKind.cell)else(n,k)).lookup x=some .cell\/
  (names.map λ(n,k)=>if(k==NameKind.free&&env.scope.kind== .function&&env.kindOf n==some .cell)then(n,NameKind.cell)else(n,k)).lookup x=some .free
 |[],_,h=>by simp at h
 |(n,j)::r,x,h=>by
  simp only[bB];by_cases b:x=n
  ·subst b;rw[cP,bR]at h;have l:j=.free:=Option.some.inj h;by_cases g:(j==NameKind.free&&env.scope.kind== .function&&env.kindOf x==some .cell)=true
   ·left;rw[aX g,cP,bR]
   ·right;rw[ba g,cP,bR,l]
  ·have e:(x==n)=false:=by simpa using b
   rw[cP,e]at h;rcases uw (env:=env) h with z|z
   ·left;split<;>(rw[cP,e];exact z)
   ·right;split<;>(rw[cP,e];exact z)
def ux(X:Cx)(scope:Scope)(N:List Str)(s:Shared)(H:Hp)(ex:List Addr):Cx where
 prog:=X.prog
 w:=X.w
 K:=X.K
 mg:=X.mg
 base:=X.base
 A:=X.A
 N:=N
 gD:=s
 Cu:=H
 env:=compEnvC scope (EJ scope X.env) s.heap.objs.size X.env
 outer:=X.stack
 stack:=X.stack
 ex:=ex
 fn:=λ_=>false
 calm:=X.calm
 pn:=[]
 xe:=λ_ _=>False
noncomputable def V6(N N':List Str)(ix:List (Option Nat))(sc scope:Scope):Bool:=
 decide (N'.length=ix.length)&&(N'.zip ix).all (λp=>match p.2 with
  |none=>true
  |some j=>decide (N[j]?=some p.1)&&decide (scope.names.lookup p.1=some .free))&&
 scope.names.all (λy=>y.2 != .cell&&(y.2 != .free||decide (sc.names.lookup y.1=some .cell))&&(y.2 != .local||decide (scope.names.lookup y.1=some .local)))&&(scope.kind== .function)
structure gX(X:Cx)(N':List Str)(ix:List (Option Nat))(scope:Scope):Prop where
 len:N'.length=ix.length
 free:∀(i:Nat) (x:Str) (j:Nat),N'[i]?=some x->ix[i]?=some (some j)->X.N[j]?=some x/\scope.names.lookup x=some .free
 Kq:∀y∈scope.names,y.2≠ .cell
 cell:∀y∈scope.names,y.2=.free->X.env.scope.names.lookup y.1=some .cell
 loc:∀y∈scope.names,y.2=.local->scope.names.lookup y.1=some .local
 kind:scope.kind=.function
def gX.of {N N':List Str}{ix:List (Option Nat)}{sc scope:Scope}(hN:X.N=N)(hs:X.env.scope=sc)(h:V6 N N' ix sc scope=true):gX X N' ix scope:=by
 unfold V6 at h;simp only[bW,j8,dD]at h;obtain⟨⟨⟨l,h2⟩,g⟩,n⟩:=h;refine⟨l,λi x j r I=>?_,λy b z=>?_,λy b z=>?_,λy b z=>?_,by simpa using n⟩
 ·have m:(x,some j)∈N'.zip ix:=d6 (i:=i) (by rw[List.getElem?_zip_eq_some];exact⟨r,I⟩);have q:=h2 _ m;simp only[bW,j8]at q;rw[hN];exact q
 ·have q:=(g y b).1.1;rw[z]at q;simp at q
 ·have q:=(g y b).1.2;rw[z]at q;simp only[tK,jk,j8]at q;rw[hs];exact q
 ·have q:=(g y b).2;rw[z]at q;simp only[tK,jk,j8]at q;exact q
noncomputable def jn(ix:List (Option Nat))(Z:St):St:=ix.map λo=>o.bind λj=>(Z[j]?).join
theorem EK{ix:List (Option Nat)}{fp:List Addr}(L:gX X ps ix aw)(I:Inv X U Z H s)
  (RU:aa.Ns s.heap.objs.size (λ_=>none)) (NP:∀b o,s.heap.get? b=some o->aa.get? b=some o)
  (hf:∀b∈fp,kQ X U H b) (hfo:∀b∈fp,b<s.heap.objs.size):Inv (ux X aw ps s H fp) [] (jn ix Z) H {s with heap:=aa,toks:=ay}:=by
 have x9:∀y∈aw.names,y.2=.free->∃c,X.env.cells.lookup y.1=some c:=λy hy z=>I.ok.has y.1 (.inl (L.cell y hy z));have sub:∀x c,(EJ aw X.env).lookup x=some c->X.env.cells.lookup x=some c:=x6 aw.names [] x9 (λx c e=>by simp at e);have has:∀x,aw.names.lookup x=some .free->∃c,(EJ aw X.env).lookup x=some c:=λx e=>
  sU.mp (x8 aw.names [] x (.inr (lK e)))
 have M7:∀b∈fp,b∉jU X.stack:=λb hb z=>by
  obtain⟨_,f1,f2,_⟩:=hf b hb;rcases bI.mp (I.xK b z)with q|q
  ·exact f1 q
  ·exact f2 q
 refine⟨⟨I.ok.mod,L.kind,I.ok.glob,I.ok.blt,bu _,λx y c M g=>I.ok.inj x y c (sub x c M) (sub y c g),λx S=>?_,λx c z=>absurd (show false=true from z) fI,I.ok.hd,I.ok.frames,.inl rfl,
   λb hb=>⟨cc (hfo b hb),λx c e=>(hf b hb).2.2.2.2.1 x c (sub x c e)⟩,I.bs,cC I.ok.HP I.sz,λb o e hb=>?_,M7,I.stack,I.wG⟩,
  rfl,I.bare,Un.kept NP,⟨_,RU,λi x v M g e3=>?_⟩,λx c e=>?_,I.fresh,λx c e=>I.gg x c (sub x c e),λp hp=>absurd (show p∈([]:List (Addr×Obj))from hp) (by simp),I.cX.kept NP,?_⟩
 ·have S:(relabel aw X.env).names.lookup x=some .cell\/(relabel aw X.env).names.lookup x=some .free:=S;have F3:aw.names.lookup x=some .free:=by
   rcases S with z|z
   ·rcases sf z with q|q
    ·exact absurd rfl (L.Kq _ (lK q))
    ·exact q
   ·rcases sf z with q|q
    ·exact q
    ·exact q
  exact has x F3
 ·obtain⟨_,_,_,q,_⟩:=hf b hb;rcases q with q|q
  ·exact I.ok.AS b o e q
  ·exact absurd (dg (bA (I.ok.bs b o e).1) q) (fb _)
 ·
  unfold jn at g;rw[ck]at g;cases eo:ix[i]? with
  |none=>rw[eo]at g;cases g
  |some o=>
   rw[eo]at g;cases o with
   |none=>exact absurd (show(some none:Option (Option V))=some (some v)from g) (by simp)
   |some j=>
    obtain⟨n1,n2⟩:=L.free i x j M eo;have n:(Z[j]?).join=some v:=Option.some.inj (show some ((Z[j]?).join)=some (some v)from g);have e4:Z[j]?=some (some v):=by
     cases q:Z[j]? with
     |none=>rw[q]at n;cases n
     |some z=>
      rw[q]at n;have:z=some v:=n;rw[this]
    have Gk:X.env.scope.names.lookup x=some .cell:=L.cell _ (lK n2) rfl;obtain⟨m,hn,hl⟩:=I.loc;obtain⟨u,r,l⟩:=hl j x v n1 e4 (.inr (.inl Gk));refine⟨u,r,?_⟩;rcases l with⟨k,_⟩|⟨k,c,ec,z⟩
    ·have k':X.env.scope.names.lookup x=some .local:=k;rw[Gk]at k';cases k'
    ·obtain⟨c',Vy⟩:=has x n2;have ecc:c'=c:=by
      have q:=sub x c' Vy;rw[ec]at q;exact(Option.some.inj q).symm
     subst ecc;refine .inr ⟨?_,c',Vy,?_⟩
     ·exact uw n2
     ·obtain⟨o',Ni,Nj⟩:=z;exact⟨o',NP _ _ Ni,Nj⟩
 ·obtain⟨v,o,ho,hd⟩:=I.cell x c (sub x c e);exact⟨v,o,NP _ _ ho,hd⟩
 ·show(jn ix Z).length=ps.length;unfold jn;rw[bt];exact L.len.symm
noncomputable abbrev Gm(ifs:List Expr)(env:Env):Sem Bool:=forIn ifs true fun c r=>if r=true then do let ok<-isTrue c env (eval c env);pure (ForInStep.yield ok)else pure (ForInStep.yield r)
theorem NQ{acc:Value}{env:Env}(I:Nat->Shared->Prop)
  (turn:∀n s,I n s->wpAny (model P w) A (pyNext af) (λr q=>match r with
   |none=>av (.ok .next) q
   |some v=>wpAny (model P w) A (letOwnedTupleGo o af v) (λ_ Qb=>wpAny (model P w) A (assign o env v) (λ_ ug=>
     wpAny (model P w) A (Gm es env) (λok CG=>
      if ok=true then wpAny (model P w) A (eval e env) (λx NR=>
       wpAny (model P w) A (call (.builtin "list.append") [acc,x]) (λ_ V7=>∃m,m<n/\I m V7) (λ_ _=>False) NR) (λ_ _=>False) CG
      else∃m,m<n/\I m CG) (λ_ _=>False) ug) (λ_ _=>False) Qb) (λ_ _=>False) q) (λ_ _=>False) s)
  (n:Nat) (h:I n s):codeAny (model P w) A (.compLoop (.ListComp e [⟨o,tg,es,0⟩] aw pos) 0 af acc env) av s:=by
 refine codeAny_loop rfl I (λn s l=>?_) n h;show wpAny _ A ((compTurn (.ListComp e [⟨o,tg,es,0⟩] aw pos) 0 af acc env).onRaise (λx=>do noteFrame x env;theTreesLotGoes x)) _ _ s;refine wpAny_noted ?_
 rw[compTurn_list];refine aS (wpAny_standAt (aS (d7 (turn n s l) (λr q b=>?_) λ_ _ f=>f.elim)));cases r with
 |none=>exact bg b
 |some v=>
  refine aS (d7 b (λ_ Qb L=>?_) λ_ _ f=>f.elim);refine aS (d7 L (λ_ ug M=>aS (d7 M (λok CG g=>?_) λ_ _ f=>f.elim)) λ_ _ f=>f.elim);cases ok with
  |false=>exact bg ⟨rfl,g⟩
  |true=>exact aS (aS (d7 g (λx NR S=>aS (d7 S (λ_ V7 rA=>bg (bg ⟨rfl,rA⟩)) λ_ _ f=>f.elim)) λ_ _ f=>f.elim))
def PF(X:Cx)(ifs:List Expr)(t:TT):Prop:=
 ∀(U:List (Addr×Obj)) (s:Shared) (Z:St) (H:Hp) (Q:Bool->Hp->Prop),Inv X U Z H s->t Z H Q->wpAny (model X.prog X.w) X.A (Gm ifs X.env) (TP X U Z Q) X.xe s
def RY:PF X [] (λ_ H Q=>Q true H):=λ_ _ _ H _ I h=>wpAny_tests_nil ⟨H,I,h⟩
theorem RZ{t:TT}(h:PT X e t):PF X [e] t:=λU s Z H Q I q=>wpAny_tests_one (h U s Z H Q I q)
def LcW(J:It)(D:Addr)(q:St)(H0:Hp)(g:TG)(tc:TT)(te:TE)(Q:Hp->Prop):Prop:=
 ∃W:Nat->Nat->St->Hp->Prop,(∃m,W 0 m q H0)/\∀i m Z H,W i m Z H->(J.stop i H/\Q H)\/
  (J.go i H/\∃N:St->Hp->Prop,(∀n H',N n H'->∃r,r<m/\W (i+1) r n H')/\∀x H',J.HR i H x H'->g x Z H' λl H2=>tc l H2 λb I=>
    if b=true then te l I λy L=>∃ys,L D=some (.lst ys)/\ys.length<sizeLine/\N l (upd L D (.lst (ys++[y])))else N l I)
def U1(q:TI)(ix:List (Option Nat))(g:TG)(tc:TT)(te:TE):TE:=λZ H Q=>q Z H λJ H1=>∀D,H1 D=none->LcW J D (jn ix Z) (upd H1 D (.lst [])) g tc te λH'=>Q (.ref D) H'
section
variable {scope:Scope}{ix:List (Option Nat)}{elt:Expr}{g:TG}{tc:TT}{te:TE}
theorem Gn{use:Option (Value->Sem Unit)}{QD:Addr->Hp->Prop}{s2:Shared}{fp:List Addr}{tn:Nat->Heap->Prop}{J:It}
  (L:gX X ps ix scope) (hc:X.calm=true) (mw:∀s H ex,PG (ux X scope ps s H ex) tg g/\PF (ux X scope ps s H ex) az tc/\PE (ux X scope ps s H ex) elt te)
  (I2:Inv X U Z ac s2) (T:Turn X.prog X.w X.K tg J fp a tn) (Nr:tn 0 s2.heap) (f2:∀b∈fp,kQ X U ac b)
  (hw:∀D,ac D=none->LcW J D (jn ix Z) (upd ac D (.lst [])) g tc te (QD D))
  (aaL:∀D C H' s' m,Inv X U Z H' s'->kQ X U H' C->s'.heap.Ns C m->QD D H'->compPost (model X.prog X.w) X.A X.xe use E (.ref D) C (.ok .next) s'):
  wpAny (model X.prog X.w) X.A (newList []) (λacc CG=>wpAny (model X.prog X.w) X.A (newFunctionEnv scope X.env.globals (EJ scope X.env) [] X.env.qual none .none (some X.env)) (λV9 NR=>
   codeAny (model X.prog X.w) X.A (.compStart (.ListComp elt [⟨tg,al,az,0⟩] scope pos) 0 (.ref a) acc {V9 with scope:=relabel scope X.env}) (compPost (model X.prog X.w) X.A X.xe use E acc V9.locals) NR) X.xe CG) X.xe s2:=by
 refine kJ (wpAny_newFunctionEnv L.Kq (by intro y hy;simp at hy) (λgj EL EM=>?_) L.kind);dsimp only at EL EM⊢;have hD:ac s2.heap.objs.size=none:=I2.fresh;have I3:Inv X U Z (upd ac s2.heap.objs.size (.lst [])) {s2 with heap:=s2.heap.push {cls:=.type "list",data:=.seq ([]:List Value).toArray},toks:=s2.toks}:=I2.NH (cw:=[]) .nil (eP _);generalize hs3:({s2 with heap:=s2.heap.push {cls:=.type "list",data:=.seq ([]:List Value).toArray},toks:=s2.toks}:Shared)=s3 at I3;have e3:({s2 with heap:=s2.heap.push {cls:=.type "list",dict:=none,data:=.seq ([]:List Value).toArray}}:Shared)=s3:=hs3;have eh:s2.heap.push {cls:=.type "list",dict:=none,data:=.seq ([]:List Value).toArray}=s3.heap:=dh Shared.heap e3;have eos:s3.os=s2.os:=by rw[<-e3]
 have ek:∀b o,s2.heap.get? b=some o->s3.heap.get? b=some o:=λb o e=>by rw[<-eh];exact bS _ e
 have R0:s2.heap.objs.size<=s3.heap.objs.size:=by rw[<-eh,jw];exact pJ _
 rw[eh]at EL EM⊢;have f3:∀b∈fp,kQ X U (upd ac s2.heap.objs.size (.lst [])) b:=λb hb=>by
  obtain⟨o,eo,_⟩:=T.obj _ _ Nr b hb;refine⟨?_,(f2 b hb).2⟩;rw[bo (cc (bA eo))];exact(f2 b hb).1
 have xJ:∀b∈fp,b<s3.heap.objs.size:=λb hb=>by
  obtain⟨o,eo,_⟩:=T.obj _ _ Nr b hb;exact dg (bA eo) R0
 have k4:∀b o,s3.heap.get? b=some o->gj.get? b=some o:=λb o e=>EM.extBut b o (cc (bA e)) (bS _ e);have st4:tn 0 gj:=T.keep _ _ _ Nr λb _ o e=>k4 b o (ek b o e);obtain⟨W,⟨m0,w0⟩,turn⟩:=hw s2.heap.objs.size hD;have I4:∀l,Inv (ux X scope ps s3 (upd ac s2.heap.objs.size (.lst [])) fp) [] (jn ix Z) (upd ac s2.heap.objs.size (.lst [])) {s3 with heap:=gj,toks:=l}:=λl=>
  EK L I3 EL k4 f3 xJ
 obtain⟨hg,hf,he⟩:=mw s3 (upd ac s2.heap.objs.size (.lst [])) fp;have Ey:∀{H':Hp},(∀b∈fp,H' b=none)->∀b∈fp,kQ (ux X scope ps s3 (upd ac s2.heap.objs.size (.lst [])) fp) [] H' b:=λ{H'} hn b hb=>by
  have ok:=(I4 0).ok;obtain⟨x1,x2⟩:=ok.UU b hb;exact⟨hn b hb,x1,ok.Cv b hb,.inl hb,x2,λp hp=>absurd (show p∈([]:List (Addr×Obj))from hp) (by simp)⟩
 have loop:∀l,codeAny (model X.prog X.w) X.A (.compLoop (.ListComp elt [⟨tg,al,az,0⟩] scope pos) 0 (.ref a) (.ref s2.heap.objs.size) (compEnvC scope (EJ scope X.env) s3.heap.objs.size X.env))
   (compPost (model X.prog X.w) X.A X.xe use E (.ref s2.heap.objs.size) s3.heap.objs.size) {s3 with heap:=gj,toks:=l}:=λl=>by
  refine NQ (λn s'=>∃i dF H',Inv (ux X scope ps s3 (upd ac s2.heap.objs.size (.lst [])) fp) [] dF H' s'/\tn i s'.heap/\(∀b∈fp,H' b=none)/\W i n dF H') ?_ m0
   ⟨0,_,_,I4 l,st4,λb hb=>(f3 b hb).1,w0⟩
  rintro n s5 ⟨i,ZM,S,I5,UW,ZI,w5⟩
  rcases turn i n ZM S w5 with⟨stop,qn⟩|⟨go,N,hN,step⟩
  ·refine eJ (T.done (ux X scope ps s3 (upd ac s2.heap.objs.size (.lst [])) fp) rfl rfl rfl hc i [] s5 ZM S _ I5 (Ey ZI) UW stop) λr s6 ⟨hr,q⟩=>?_
   subst hr;have u:Un (jU X.stack) fp ac S s2.heap s6.heap:=(Un.laid (o:=.lst []) ek (bu _) hD).trans q.base;have J6:Inv X U Z S s6:=I2.Vz (ch:=fp) (q.os.trans eos) u q.cX q.bare λb hb=>by
    obtain⟨_,x1,_,x3,x4,x5⟩:=f2 b hb;exact⟨x3,x1,x4,x5⟩
   obtain⟨m,hm,_⟩:=q.loc;exact aaL _ _ S s6 m J6 (I2.zr R0 q.free) hm qn
  ·refine eJ (T.item (ux X scope ps s3 (upd ac s2.heap.objs.size (.lst [])) fp) rfl rfl rfl hc i [] s5 ZM S _ I5 (Ey ZI) UW go) λr s6 ⟨v,hr,h6⟩=>?_
   subst hr;refine eJ h6 λ_ s7 ⟨x,H7,I7,r7,y7,I,fr7⟩=>?_
   have I7':=I7.pinned (Ey fr7) (T.obj _ _ I);refine eJ (hg _ s7 ZM H7 x v _ I7' r7 (step x H7 y7)) λ_ s8 ⟨ZN,H8,I8,q8⟩=>?_
   have again:∀{V_:St} {M:Hp} {s9:Shared},Inv (ux X scope ps s3 (upd ac s2.heap.objs.size (.lst [])) fp) ([]++xO fp s7.heap) V_ M s9->N V_ M->
     ∃m,m<n/\∃i dF H',Inv (ux X scope ps s3 (upd ac s2.heap.objs.size (.lst [])) fp) [] dF H' s9/\tn i s9.heap/\(∀b∈fp,H' b=none)/\W i m dF H':=λ{V_ M s9} I9 n9=>by
    obtain⟨m',hm,w9⟩:=hN V_ M n9;refine⟨m',hm,i+1,V_,M,I9.uf,T.keep _ _ _ I λb hb o e=>(I9.pin (b,o) (dC _ (dC _ (nN hb e)))).1,λb hb=>?_,w9⟩;obtain⟨o,e,d⟩:=T.obj _ _ I b hb;exact(I9.pin (b,o) (dC _ (dC _ (nN hb e)))).2.1
   refine eJ (hf _ s8 ZN H8 _ I8 q8) λok s9 ⟨M,I9,q9⟩=>?_
   cases ok with
   |false=>exact again I9 q9
   |true=>
    refine eJ (he _ s9 ZN M _ I9 q9) λy s10 ⟨v10,H10,I10,r10,ys,hy,hz,n10⟩=>?_
    refine eJ (i7 _ s10 ZN H10 (.ref s2.heap.objs.size) [v10] (.ref s2.heap.objs.size) [y] (λ_ H'=>N ZN H') I10 rfl (.cons r10 .nil) ⟨_,ys,v10,rfl,rfl,hy,hz,n10⟩) λ_ s11 ⟨_,H11,I11,_,q11⟩=>?_
    exact again I11 q11
 have es:∀l,({s2 with heap:=gj,toks:=l}:Shared)={s3 with heap:=gj,toks:=l}:=λl=>by rw[<-e3]
 have Qc:∀l,codeAny (model X.prog X.w) X.A (.compLoop (.ListComp elt [⟨tg,al,az,0⟩] scope pos) 0 (.ref a) (.ref s2.heap.objs.size) (compEnvC scope (EJ scope X.env) s3.heap.objs.size X.env))
   (compPost (model X.prog X.w) X.A X.xe use E (.ref s2.heap.objs.size) s3.heap.objs.size) {s2 with heap:=gj,toks:=l}:=λl=>by
  rw[es l];exact loop l
 exact codeAny_compStart_list (Qc _) (T.self _ 0 _ _ _ st4 (Qc _))
theorem Kr{wi:TI}(L:gX X ps ix scope)(hc:X.calm=true)(hi:PI X tg al wi)(mw:∀s H ex,PG (ux X scope ps s H ex) tg g/\PF (ux X scope ps s H ex) az tc/\PE (ux X scope ps s H ex) elt te)
  (hs:∀x,foldedSetIterable al X.env x=pure x:=by intro _;rfl):PE X (.ListComp elt [⟨tg,al,az,0⟩] scope pos) (U1 wi ix g tc te):=by
 intro U s Z H Q I h;have l:∀y∈scope.names,y.2=.free->∃c,X.env.cells.lookup y.1=some c:=λy n z=>I.ok.has y.1 (.inl (L.cell y n z));rw[eval_ListComp];refine wpAny_comprehension_free (use:=none) rfl hs (uv l) L.kind L.loc (eJ (hi U s Z H _ I h) λv s1 r=>eJ r λZG s2 h2=>?_);obtain⟨it,fp,tn,J,H2,e,M,T,S,f2,hw⟩:=h2;subst e;refine Gn (QD:=λD H'=>Q (.ref D) H') L hc mw M T S f2 hw λD C H' s' m I' fC hm q=>⟨m,hm,λh' NP=>?_⟩;obtain⟨x0,x1,x2,x3,x4,x5⟩:=fC;exact⟨.ref D,H',I'.turned (t':=s'.toks) (λb o hb e=>(NP.2 b hb).trans e) x0 x1 x3 x4 x5,rfl,q⟩
def x_{wi:TI}(L:gX X ps ix scope)(hc:X.calm=true)(hN:X.N.Nodup)(hi:X.N[i]?=some x)(hx:Loc X.env.scope x)(hit:PI X tg al wi)
  (mw:∀s H ex,PG (ux X scope ps s H ex) tg g/\PF (ux X scope ps s H ex) az tc/\PE (ux X scope ps s H ex) elt te)
  (Ie:swapsWith (.ListComp elt [⟨tg,al,az,0⟩] scope pos) (some (.Name x p)) b8.line X.env=pure true:=by rfl)
  (hs:∀x,foldedSetIterable al X.env x=pure x:=by intro _;rfl) (hf:zl X x:=by first|exact .inl rfl|exact .inr rfl|assumption):
  PS X (.Assign [.Name x p] (.ListComp elt [⟨tg,al,az,0⟩] scope pos) b8) (λD Z H=>U1 wi ix g tc te Z H λv H'=>D.nx (Z.set i (some v)) H'):=by
 intro U s Z H D I h;have x9:∀y∈scope.names,y.2=.free->∃c,X.env.cells.lookup y.1=some c:=λy hy z=>I.ok.has y.1 (.inl (L.cell y hy z));rw[exec_Assign_Name_used _ _ _ _ Ie];refine aS (wpAny_standAt (aS ?_));show wpAny _ X.A (do let _<-comprehension (.ListComp elt [⟨tg,al,az,0⟩] scope pos) scope X.env _ (newList []) false (eval al X.env) (some (assign (.Name x p) X.env))) _ _ s;refine aS (d7 (wpAny_comprehension_free (use:=some (assign (.Name x p) X.env)) (Q:=λ_ s'=>SP X U D .next s') rfl hs (uv x9) L.kind L.loc
  (eJ (hit U s Z H _ I h) λv s1 h1=>eJ h1 λZG s2 h2=>?_)) (λ_ s' hq=>bg (bg hq)) λ_ _ e=>e)
 obtain⟨it,fp,tn,J,H2,e,I2,T,Nr,f2,hw⟩:=h2;subst e;refine Gn (QD:=λl H'=>D.nx (Z.set i (some (.ref l))) H') L hc mw I2 T Nr f2 hw λl C H' s' m I' fC hm q=>?_
 obtain⟨x0,S,x2,x3,x4,x5⟩:=fC;show wpAny _ X.A (assign (.Name x p) X.env (.ref l)) _ _ _;refine wpAny_assign_Name (zK I' hN hi hx (v:=.ref l) rfl (λRB n zJ=>?_) hf);obtain⟨a,NP,ha⟩:=zJ;have r:C≠a:=by
  rcases ha with ha|ha
  ·rw[ha];exact S
  ·exact λz=>x4 _ _ ha z.symm
 refine⟨m,hm.sameBut NP r,λh' M=>?_⟩;exact⟨_,H',n.turned (t':=RB.toks) (λb o hb e=>(M.2 b hb).trans e) x0 S x3 x4 x5,q⟩
end
def ZO(z:Str):It:=⟨λi _=>i<z.cps.size,λi H x H'=>H'=H/\∃c,z.cps[i]?=some c/\x=.str ⟨#[c]⟩,λi _=>i=z.cps.size⟩
theorem CK{t:Tok}{it:Addr}{n:String}(hn:["enumerate","zip","dict_itemiterator","dict_reverseitemiterator","odict_iterator","itertools.zip_longest","itertools.pairwise"].contains n=false)
  (W:∀A':Around,A'.handled=none->Walks P w A' it [it] [it] x.cps.size (SignAt x) (λi h=>h.IsStrIter it n x t i))
  (self:∀(A:Around) (i:Nat) (s:Shared) (Q:Value->Shared->Prop) (E:Value->Shared->Prop),s.heap.IsStrIter it n x t i->Q (.ref it) s->wpAny (model P w) A (pyIter (.ref it)) Q E s):
  Turn P w K tg (ZO x) [it] it (λi h=>h.IsStrIter it n x t i) where
 mem:=by simp
 obj:=λi h st b hb=>by
  have e:b=it:=by simpa using hb
  subst e;obtain⟨o,e,c,d⟩:=st;exact⟨o,e,λv q=>by rw[d]at q;cases q⟩
 keep:=λi h h' st k=>by
  obtain⟨o,e,c,d⟩:=st;exact⟨o,k it (by simp) o e,c,d⟩
 item:=by
  intro X g hw l r i U s Z H E I hf st L;subst g hw l;obtain⟨f0,f1,f2,M,f4,S⟩:=hf it (by simp);refine(W X.A (I.ok.hd r)).item i s _ _ L st λv h' tk hv xN kk=>?_
  obtain⟨c,u,hcu,rfl⟩:=hv;have I1:Inv X U Z H {s with heap:=h',toks:=tk}:=I.turned (λb o hb e=>kk b o (by simpa using hb) e) f0 f1 M f4 S;obtain⟨o,e,cl,d⟩:=id xN;exact⟨_,rfl,zL (s:={s with heap:=h',toks:=tk}) e cl d hn ⟨.str ⟨#[c]⟩,H,I1,⟨u,rfl⟩,⟨rfl,c,hcu,rfl⟩,xN,λb hb=>(hf b hb).1⟩⟩
 done:=by
  intro X g hw l r i U s Z H E I hf st L;subst g hw l;obtain⟨f0,f1,f2,M,f4,S⟩:=hf it (by simp);have e:i=x.cps.size:=L;subst e;exact(W X.A (I.ok.hd r)).done s _ _ st λh' tk kk=>⟨rfl,I.turned (λb o hb e=>kk b o (by simpa using hb) e) f0 f1 M f4 S⟩
 self:=self
theorem l0.upd {xs:List V}{o:HO}(q:H ar=none)(h:l0 K H a xs):l0 K (upd H ar o) a xs:=by
 rcases h with(h|⟨b,h⟩)|h
 ·exact .inl (.inl (by rw[bo (bT h q)];exact h))
 ·exact .inl (.inr ⟨b,by rw[bo (bT h q)];exact h⟩)
 ·exact .inr h
theorem jl.upd {xs:List V}{o:HO}(q:H ar=none)(h:jl K H a xs):jl K (upd H ar o) a xs:=by
 rcases h with(h|⟨b,h⟩)|h
 ·exact .inl (.inl (by rw[bo (bT h q)];exact h))
 ·exact .inl (.inr ⟨b,by rw[bo (bT h q)];exact h⟩)
 ·exact .inr h
theorem R3:wm X (compareOp .Is) (λx y H Q=>∃c d,x=.bl c/\y=.bl d/\Q (.bl (c==d)) H):=by
 intro U s Z H x y v u Q I b g h;obtain⟨c,d,rfl,rfl,q⟩:=h;cases b;cases g;exact is_bool (xQ I q rfl)
theorem NS:wm X (binaryOp .Mult) (λx y H Q=>∃z n,x=.str z/\y=.int n/\MulOk z n/\Q (.str (Txt.mul z n)) H):=by
 intro U s Z H x y v u Q I b g h;obtain⟨z,n,rfl,rfl,cX,q⟩:=h;obtain⟨t,rfl⟩:=b;obtain⟨t',rfl⟩:=g;exact SB.mul cX λt' k=>⟨.str _,H,I.tok _,⟨_,rfl⟩,q⟩
theorem Ks(hc:X.calm=true):gP X (.builtin "all") (λxs H Q=>∃(p:Addr) (bs:List Bool),xs=[.ref p]/\l0 X.K H p (bs.map V.bl)/\Q (.bl (bs.all id)) H):=by
 intro U s Z H xs us Q I r h;obtain⟨p,bs,rfl,L,q⟩:=h;obtain⟨u,rfl,S⟩:=vals1 r;cases(show u=Value.ref p from S);obtain⟨cw,rv,pl,hz⟩:=I.list L;have hb:cw=bs.map Value.bool:=by
  clear hz pl L q I
  induction bs generalizing cw with
  |nil=>cases rv;rfl
  |cons b r ih=>
   cases rv with
   |cons r1 r2=>
    rw[bB,<-ih _ (by exact r2)];cases(show _=Value.bool b from r1)
    rfl
 subst hb;have hZ:p<s.heap.objs.size:=by obtain⟨o,n,e,_⟩:=pl;exact bA e
 refine call_all_walk (mL pl.isList ?_);refine⟨s.heap.objs.size,[s.heap.objs.size,p],[s.heap.objs.size],(bs.map Value.bool).toArray.size,_,_,λi=>(bs[i]?).getD true,rfl,Walks.list (A:=X.A.in1) (I.ok.hd hc) _ p (cc hZ) _,
  ⟨⟨_,cy _ rfl,rfl,rfl⟩,pl.isList.push _⟩,λi v s' Q' E' hP M=>?_,λh' tk hk=>?_⟩
 ·have g:(bs.map Value.bool)[i]?=some v:=by simpa using hP
  rw[ck]at g;cases l:bs[i]? with
  |none=>rw[l]at g;cases g
  |some b=>
   rw[l]at g;cases g;simp only[l,pw]at M;exact px M
 ·have e:((List.range (bs.map Value.bool).toArray.size).all λi=>(bs[i]?).getD true)=bs.all id:=by
   rw[cU,bt];exact LSm.range_all bs
  rw[e];exact⟨.bl _,H,I.kept (LSm.kept_iter hk),rfl,q⟩
def bj.tup {H':Hp}{xs:List V}(e:bj H H')(h:jl K H a xs):jl K H' a xs:=by
 rcases h with(h|⟨o,h⟩)|h
 ·exact .inl (.inl (e _ _ h))
 ·exact .inl (.inr ⟨o,e _ _ h⟩)
 ·exact .inr h
theorem bj.upd {o:HO}(q:H a=none):bj H (upd H a o):=λb u e=>by rw[bo (bT e q)];exact e
def bj.CL {H':Hp}{D:Addr}{o:HO}(s:bj H H')(q:H D=none):bj H (L2.upd H' D o):=λb u e=>by rw[bo (bT e q)];exact s b u e
structure zT(K:Frag)(mg:Str->Option Value)(x:Str)(st:Stmt)(ps:List Str)(f:Addr)(fd:FuncData):Prop where
 fn:zm K x x st f fd
 bd:Binds K fd ps []
 mg:mg x=some (.ref f)
def R4{fd:FuncData}{sp:Sp}{t:TA}(D:zT X.K X.mg x ai ps a fd)(G:eC X.prog X.w X.K X.mg X.base mv i a fd ps sp)(hr:di i X.A)
  (ha:PA X (e::es) t) (hg:Gl X x:=by rfl) (fR:Db x:=by decide) (he:starEach (e::es) X.env=(false,eval e X.env)::starEach es X.env:=by rfl)
  (oX:(backTo pos (starEach es X.env)).any (·.1)=false:=by rfl):PE X (.Call (.Name x p) (e::es) [] pos) (P4 sp [] E0 t):=by
 have q:=F_ (p:=p) (pos:=pos) G hr hg D.mg D.fn.kp D.bd .nil Kp ha (fR:=fR) (he:=he) (oX:=oX);exact q
def aaN:V->Option Int->Option Int->Hp->VK->Prop:=λx lo hi H Q=>∃z,x=.str z/\z.length<=sizeLine/\Q (.str (Txt.slice z lo hi)) H
theorem R5:UY X aaN:=by
 intro U s Z H x v S vu lo hi sl Q I n hs pl pu h;obtain⟨z,rfl,hz,q⟩:=h;obtain⟨t,rfl⟩:=n;refine⟨"str",_,F.slot_str_getitem.lookup,typeIs_str _ _ _,?_⟩;have go:∀(l u:Option (Int×Tok)),s.heap.IsSlice sl l u none->lo=l.map (·.1)->hi=u.map (·.1)->wpAny (model X.prog X.w) X.A (getItem (.str z t) (.ref sl)) (EP X U Z Q) X.xe s:=λl u r L M=>by
  subst L M;exact wpAny_getItem_str_slice r rfl (post_val_or_str ⟨cC (Txt.slice_le z _ _) hz,λt' k=>⟨.str _,H,I.tok _,⟨_,rfl⟩,q⟩⟩)
 cases pl with
 |none=>
  cases pu with
  |none=>exact go none none hs rfl rfl
  |int j b=>exact go none (some (j,b)) hs rfl rfl
 |int i g=>
  cases pu with
  |none=>exact go (some (i,g)) none hs rfl rfl
  |int j b=>exact go (some (i,g)) (some (j,b)) hs rfl rfl
theorem CM:∀{cs:List String} {us:List Value},Vals (cs.map V.ty) us->us=cs.map Value.type
 |[],_,.nil=>rfl
 |c::cs,_,.cons r t=>by
  rw[CM t];cases(show _=Value.type c from r)
  rfl
def vj(q:aa.IsTuple a ak):∃dd n sl,aa.get? a=some ⟨.type "tuple",dd,.seq ak n,sl⟩:=by
 obtain⟨⟨cls,dd,data,sl⟩,h1,h2,n,b⟩:=q;dsimp only at h2 b;subst h2 b;exact⟨dd,n,sl,h1⟩
theorem Ig:gP X (.builtin "isinstance") (λxs H Q=>∃(x:V) (p:Addr) (cs:List String) (t:Value) (b:Bool),xs=[x,.ref p]/\P_ x=true/\jl X.K H p (cs.map V.ty)/\uj X.K H x t/\PySem.W.kitAny X.K t (cs.map Value.type)=some b/\Q (.bl b) H):=by
 intro U s Z H xs us Q I r h;obtain⟨x,p,cs,t,b,rfl,M,hp,ty,e,q⟩:=h;obtain⟨u,v,rfl,g,rv⟩:=vals2 r;cases(show v=Value.ref p from rv);obtain⟨cw,r1,p1,_⟩:=I.tuple hp;obtain⟨dd,n,sl,l⟩:=vj p1;cases CM r1;have fin:∀L,EP X U Z Q (.bool b) {s with toks:=L}:=λL=>⟨.bl b,H,I.tok _,rfl,q⟩;cases ty with
 |cu=>
  cases(show u=Value.none from g);exact tV PySem.W.kitx_none I.lZ .intro l e (by simp) fin
 |bl y=>
  cases(show u=Value.bool y from g);exact tV PySem.W.kitx_bool I.lZ .intro l e (by simp) fin
 |int i=>
  obtain⟨t,rfl⟩:=(show∃t,u=Value.int i t from g);exact tV PySem.W.kitx_int I.lZ .intro l e (by simp) fin
 |str y=>
  obtain⟨t,rfl⟩:=(show∃t,u=Value.str y t from g);exact tV PySem.W.kitx_str I.lZ .intro l e (by simp) fin
 |_=>exact absurd (show false=true from M) fI
def CN(K:Frag)(w:World)(a:Addr)(kvs:List (Str×Value)):Prop:=
 (a==sysModules)=false/\∃o es ep,K.lookup a=some o/\o.ExactDict/\o.data=.dict es ep/\∀prog,KeysOf (PySem.strKind prog w) es/\Pairs (PySem.strKind prog w) es.toList kvs/\(kvs.map (·.1)).Nodup
def CN.of {kvs:List (Str×Value)}(D:CN X.K X.w a kvs)(I:Inv X U Z H s):s.heap.DictOf (PySem.strKind X.prog X.w) a kvs:=by
 obtain⟨_,o,es,ep,h1,h2,b,g⟩:=D;obtain⟨k1,k2,k3⟩:=g X.prog;exact⟨o,es,ep,I.lZ _ _ h1,h2,b,k1,k2,k3⟩
theorem Kt{to ti:TE}(ho:PE X o to)(hi:PE X e ti)(hs:NK e):
  PE X (.Subscript o e pos) (Rj (λx y H Q=>∃(a:Addr) (z:Str) (kvs:List (Str×Value)) (u:Value) (v:V),x=.ref a/\y=.str z/\CN X.K X.w a kvs/\valueAt kvs z=some u/\RelV v u/\Q v H) to ti):=by
 intro U s Z H Q I h;refine NL PySem.F.slot_dict_getitem.lookup hs (eJ (ho U s Z H _ I h) λu s1 ⟨x,H1,g,l,n⟩=>eJ (hi U s1 Z H1 _ g n) λiv s2 ⟨y,H2,b,r,L⟩=>?_);obtain⟨a,z,kvs,u',v,rfl,rfl,D,M,rv,q⟩:=L;cases(show u=Value.ref a from l);obtain⟨t,rfl⟩:=r;have dd:=D.of b;refine⟨?_,wpAny_getItem_of (knd:=PySem.strKind X.prog X.w) (k:=z) (by simp[PySem.strKind,Value.isStrOf]) dd.mapOf M ⟨v,H2,b.tok _,rv,q⟩⟩;obtain⟨S,es,ep,h1,h2,_⟩:=dd;exact⟨S,h1,h2.1⟩
inductive Tr where
 |cu|bl (b:Bool)|int (i:Int)|str (z:Str)|ty (n:String)
 |vR (ns:List Int)|tup (ts:List Tr)|lst (ts:List Tr)|bU (bE:List (Key×Tr))|at(i:Nat)
 |vS (bE:List (List Key×Tr))|ob (x:Str) (fs:List (Str×Tr))|zU (x:Str)
variable {aA:Tr->Prop}{aB:Tr}{aF:List (Key×Tr)}
variable {ts:List Tr}
noncomputable def cZ:Nat:=1000000
noncomputable def clsAt(K:Frag)(x:Str):Addr:=match PySem.W.nsIn K mainGlobals x with
 |some (some (.ref C))=>C
 |_=>0
structure Vw where
 H:Hp
 ix:Addr->Option Nat
instance:Coe Vw Hp:=⟨Vw.H⟩
instance:CoeFun Vw (fun _=>Addr->Option HO):=⟨Vw.H⟩
structure fk(W W':Vw):Prop where
 h:bj W.H W'.H
 x:∀a i,W.ix a=some i->W'.ix a=some i
theorem fk.refl (W:Vw):fk W W:=⟨bj.refl _,λ_ _ e=>e⟩
theorem fk.trans {W W1 W2:Vw}(a:fk W W1)(b:fk W1 W2):fk W W2:=⟨a.h.trans b.h,λc i e=>b.x c i (a.x c i e)⟩
mutual
inductive Rep(K:Frag)(H:Vw):V->Tr->Prop where
 |cu:Rep K H .cu .cu
 |bl (b:Bool):Rep K H (.bl b) (.bl b)
 |int (i:Int):Rep K H (.int i) (.int i)
 |str (z:Str) (h:z.length<=cZ):Rep K H (.str z) (.str z)
 |ty (n:String):Rep K H (.ty n) (.ty n)
 |vR {a:Addr} {ns:List Int} (h:l0 K H.H a (ns.map V.int)):Rep K H (.ref a) (.vR ns)
 |tup {a:Addr} {vs:List V} {ts:List Tr} (h:jl K H.H a vs) (r:bP K H vs ts):Rep K H (.ref a) (.tup ts)
 |lst {a:Addr} {vs:List V} {ts:List Tr} (h:H.H a=some (.lst vs)) (r:bP K H vs ts):Rep K H (.ref a) (.lst ts)
 |bU {a:Addr} {kvs:List (Key×V)} {bE:List (Key×Tr)} (h:Rd H.H a (.dK kvs)) (e:kvs.map (·.1)=bE.map (·.1)) (r:bP K H (kvs.map (·.2)) (bE.map (·.2))):Rep K H (.ref a) (.bU bE)
 |at{a:Addr} {i:Nat} (h:H.ix a=some i):Rep K H (.ref a) (.at i)
 |vS {a:Addr} {kvs:List (List Key×V)} {bE:List (List Key×Tr)} (h:H.H a=some (.dT kvs)) (e:kvs.map (·.1)=bE.map (·.1)) (r:bP K H (kvs.map (·.2)) (bE.map (·.2))):Rep K H (.ref a) (.vS bE)
 |ob {a dx:Addr} {x:Str} {il:List (Str×V)} {fs:List (Str×Tr)} (h:H.H a=some (.ins (clsAt K x) dx il)) (e:il.map (·.1)=fs.map (·.1)) (r:bP K H (il.map (·.2)) (fs.map (·.2))):Rep K H (.ref a) (.ob x fs)
 |zU {a:Addr} {oe:Obj} {x:Str} (h:H.H a=some (.ext fun h=>h.get? a=some oe)) (c:oe.cls=.ref (clsAt K x)):Rep K H (.ref a) (.zU x)
inductive bP(K:Frag)(H:Vw):List V->List Tr->Prop where
 |nil:bP K H [] []
 |cons {v:V} {t:Tr} {vs:List V} {ts:List Tr} (h:Rep K H v t) (r:bP K H vs ts):bP K H (v::vs) (t::ts)
end
section
def Rd.same {H H':Hp}{u:HO}(s:bj H H')(h:Rd H a u):Rd H' a u:=by
 rcases h with h|⟨o,h⟩
 ·exact .inl (s _ _ h)
 ·exact .inr ⟨o,s _ _ h⟩
variable {H H':Vw}
theorem Rep.same (s:fk H H'){v:V}{t:Tr}(h:Rep K H v t):Rep K H' v t:=by
 refine Rep.rec (motive_1:=λv t _=>Rep K H' v t) (motive_2:=λvs ts _=>bP K H' vs ts) ?_ ?_ ?_ ?_ ?_ ?_ ?_ ?_ ?_ ?_ ?_ ?_ ?_ ?_ ?_ h
 ·exact .cu
 ·exact λb=>.bl b
 ·exact λi=>.int i
 ·exact λz h=>.str z h
 ·exact λn=>.ty n
 ·exact λh=>.vR (s.h.seq h)
 ·exact λh _ r=>.tup (s.h.tup h) r
 ·exact λh _ r=>.lst (s.h _ _ h) r
 ·exact λh e _ r=>.bU (Rd.same s.h h) e r
 ·exact λh=>.at (s.x _ _ h)
 ·exact λh e _ r=>.vS (s.h _ _ h) e r
 ·exact λh e _ r=>.ob (s.h _ _ h) e r
 ·exact λh c=>.zU (s.h _ _ h) c
 ·exact .nil
 ·exact λ_ _ h r=>.cons h r
theorem bP.same (s:fk H H'):∀{vs:List V} {ts:List Tr},bP K H vs ts->bP K H' vs ts
 |[],_,h=>by cases h;exact .nil
 |_::_,_,h=>by cases h with|cons h r=>exact .cons (h.same s) (bP.same s r)
theorem bP.length:∀{vs:List V} {ts:List Tr},bP K H vs ts->vs.length=ts.length
 |[],_,h=>by cases h;rfl
 |_::_,_,h=>by cases h with|cons h r=>rw[dw,dw,bP.length r]
theorem bP.get:∀{vs:List V} {ts:List Tr} {i:Nat} {t:Tr},bP K H vs ts->ts[i]?=some t->∃v,vs[i]?=some v/\Rep K H v t
 |[],_,i,t,h,e=>by cases h;simp at e
 |_::_,_,0,t,h,e=>by cases h with|cons h r=>simp at e;subst e;exact⟨_,rfl,h⟩
 |_::_,_,i+1,t,h,e=>by
  cases h with
  |cons h r=>
   obtain⟨v,b,r1⟩:=bP.get (i:=i) (t:=t) r (by simpa using e);exact⟨v,by simpa using b,r1⟩
theorem bP.ya:∀{vs:List V} {ts:List Tr} {i:Nat} {v:V},bP K H vs ts->vs[i]?=some v->∃t,ts[i]?=some t/\Rep K H v t
 |[],_,i,t,h,e=>by simp at e
 |_::_,_,0,t,h,e=>by cases h with|cons h r=>simp at e;subst e;exact⟨_,rfl,h⟩
 |_::_,_,i+1,t,h,e=>by
  cases h with
  |cons h r=>
   obtain⟨v,b,r1⟩:=bP.ya (i:=i) r (by simpa using e);exact⟨v,by simpa using b,r1⟩
theorem bP.append:∀{vs ws:List V} {ts us:List Tr},bP K H vs ts->bP K H ws us->bP K H (vs++ws) (ts++us)
 |[],_,_,_,h,q=>by cases h;exact q
 |_::_,_,_,_,h,q=>by cases h with|cons h r=>exact .cons h (bP.append r q)
theorem bP.take:∀{vs:List V} {ts:List Tr} (n:Nat),bP K H vs ts->bP K H (vs.take n) (ts.take n)
 |_,_,0,_=>by rw[List.take_zero,List.take_zero];exact .nil
 |[],_,_+1,h=>by cases h;exact .nil
 |_::_,_,n+1,h=>by cases h with|cons h r=>exact .cons h (bP.take n r)
theorem bP.drop:∀{vs:List V} {ts:List Tr} (n:Nat),bP K H vs ts->bP K H (vs.drop n) (ts.drop n)
 |_,_,0,h=>h
 |[],_,_+1,h=>by cases h;exact .nil
 |_::_,_,n+1,h=>by cases h with|cons h r=>exact bP.drop n r
theorem bP.rep {vs:List V}(h:bP K H vs ts):∀n:Nat,bP K H (List.replicate n vs).flatten (List.replicate n ts).flatten
 |0=>.nil
 |n+1=>by
  rw[nL,nL,mF,mF];exact h.append (bP.rep h n)
theorem zV:∀{zs:List Str},(∀z∈zs,z.length<=cZ)->bP K H (zs.map V.str) (zs.map Tr.str)
 |[],_=>.nil
 |z::zs,h=>.cons (.str z (h z (cB ..))) (zV λy b=>h y (cx _ b))
end
structure fy where
 hd:Addr->Bool
 ix:Addr->Option Nat
variable {B:fy}
instance:CoeFun fy (fun _=>Addr->Bool):=⟨fy.hd⟩
def cn(B:fy)(H:Hp):Vw:=⟨λb=>if B.hd b=true then none else H b,B.ix⟩
def HB(B:fy)(H:Hp):Prop:=∀b,B.hd b=true->∃o,H b=some o
section
variable {B':fy}{H':Hp}
def gS{b:Addr}(h:B.hd b=false):(cn B H).H b=H b:=by show(if B.hd b=true then none else H b)=_;rw[h,ba fI]
def bM:bj (cn B H).H H:=λb o (e:(if B.hd b=true then none else H b)=some o)=>by
 split at e
 ·cases e
 ·exact e
def bK(s:bj H H'):fk (cn B H) (cn B H'):=⟨λb o (e:(if B.hd b=true then none else H b)=some o)=>by
 show(if B.hd b=true then none else H' b)=some o;split at e
 ·cases e
 ·rw[ba (by assumption)];exact s b o e,λ_ _ e=>e⟩
def raw(B:fy)(H:Hp):Vw:=⟨H,B.ix⟩
def fL:fk (cn B H) (raw B H):=⟨bM,λ_ _ e=>e⟩
def HB.same (h:HB B H)(s:bj H H'):HB B H':=λb e=>by obtain⟨o,q⟩:=h b e;exact⟨o,s b o q⟩
def HB.free {p:Addr}(h:HB B H)(hp:H p=none):B.hd p=false:=by
 cases e:B.hd p with
 |false=>rfl
 |true=>obtain⟨o,q⟩:=h p e;rw[hp]at q;cases q
def HB.new {p:Addr}{o:HO}(h:HB B H)(hp:H p=none):(cn B (upd H p o)).H p=some o:=by rw[gS (h.free hp)];exact bO
structure vU(B B':fy):Prop where
 hd:∀b,B.hd b=true->B'.hd b=true
 ix:∀b i,B'.ix b=some i->B.ix b=some i
def yb(h:vU B B'):fk (cn B' H) (cn B H):=⟨λb o (e:(if B'.hd b=true then none else H b)=some o)=>by
 show(if B.hd b=true then none else H b)=some o;split at e
 ·cases e
 ·rename_i n;rw[ba λz=>n (h.hd b z)];exact e,h.ix⟩
end
inductive Rs(α:Type) where
 |bad|ok (a:α)|exc (c:Tr)
variable {aC:Tr->Tr->Rs Tr}
variable {h:List Tr->Rs Tr}
noncomputable def Rs.bind {α β:Type}(r:Rs α)(f:α->Rs β):Rs β:=match r with
 |.ok a=>f a
 |.exc c=>.exc c
 |.bad=>.bad
def XA(X:Cx)(c:Tr)(H:Hp):Prop:=False
def qO(xc:Tr->Prop){α:Type}(r:Rs α)(k:α->Prop):Prop:=match r with
 |.ok a=>k a
 |.exc c=>xc c
 |.bad=>False
def xP(X:Cx)(H:Hp):Tr->Prop:=λc=>∀H',bj H H'->XA X c H'
def Fi(X:Cx)(H:Hp){α:Type}(r:Rs α)(k:α->Prop):Prop:=qO (xP X H) r k
section
variable {β:Type}{r:Rs ag}{k k':ag->Prop}{U2:Tr->Prop}
def qO.mono (h:qO aA r k)(w:∀a,k a->k' a):qO aA r k':=by
 cases r with
 |ok a=>exact w a h
 |_=>exact h
def qO.imp (h:qO aA r k)(w:∀c,aA c->U2 c):qO U2 r k:=by
 cases r with
 |ok a=>exact h
 |exc c=>exact w c h
 |bad=>exact h
theorem qO.bind {f:ag->Rs β}{k:β->Prop}(h:qO aA (r.bind f) k):qO aA r λa=>qO aA (f a) k:=by
 cases r with
 |_=>exact h
theorem Fi.mono (h:Fi X H r k)(w:∀a,k a->k' a):Fi X H r k':=qO.mono h w
def Fi.same (h:Fi X H r k)(s:bj H ac):Fi X ac r k:=qO.imp h λ_ q H2 s2=>q H2 (s.trans s2)
theorem Fi.bind {f:ag->Rs β}{k:β->Prop}(h:Fi X H (r.bind f) k):Fi X H r λa=>Fi X H (f a) k:=qO.bind h
end
set_option genInjectivity true in
inductive Cell where
 |no|sh (t:Tr)|ow (ts:List Tr)
abbrev bY:=List Cell
variable {aE:bY->Rs Bool}
variable {F G:bY->Rs Tr}{L:bY->Rs (List Tr)}
structure cL(K:Frag)(B:fy)(H:Hp)(Z:St)(Y:bY):Prop where
 len:Y.length=Z.length
 sh:∀(i:Nat) (t:Tr),Y[i]?=some (.sh t)->∃v,Z[i]?=some (some v)/\Rep K (cn B H) v t
 ow:∀(i:Nat) (ts:List Tr),Y[i]?=some (.ow ts)->∃D ys,Z[i]?=some (some (.ref D))/\B D=true/\H D=some (.lst ys)/\bP K (cn B H) ys ts
 ap:∀(i j:Nat) (ts us:List Tr) (D:Addr),i≠j->Y[i]?=some (.ow ts)->Y[j]?=some (.ow us)->Z[i]?=some (some (.ref D))->Z[j]? ≠some (some (.ref D))
section
variable {B':fy}{Y:bY}
theorem cL.same (h:cL K B H Z Y)(s:bj H ac):cL K B ac Z Y:=
 ⟨h.len,λi t e=>by obtain⟨v,b,r⟩:=h.sh i t e;exact⟨v,b,r.same (bK s)⟩,
   λi ts e=>by obtain⟨D,ys,b,g,l,r⟩:=h.ow i ts e;exact⟨D,ys,b,g,s _ _ l,r.same (bK s)⟩,h.ap⟩
theorem fU{l:List ag}{j:Nat}{x y:ag}(e:(l.set i x)[j]?=some y):(i=j/\i<l.length/\y=x)\/(i≠j/\l[j]?=some y):=by
 rw[mG]at e;by_cases b:i=j
 ·rw[aX b]at e;by_cases g:i<l.length
  ·rw[aX g]at e;exact .inl ⟨b,g,(Option.some.inj e).symm⟩
  ·rw[ba g]at e;cases e
 ·rw[ba b]at e;exact .inr ⟨b,e⟩
theorem cL.set {v:V}{t:Tr}(h:cL K B H Z Y)(i:Nat)(r:Rep K (cn B H) v t):cL K B H (Z.set i (some v)) (Y.set i (.sh t)):=by
 refine⟨by rw[kM,kM];exact h.len,λj u e=>?_,λj us e=>?_,λj k us ws D n b M L=>?_⟩
 ·rcases fU e with⟨rfl,l,q⟩|⟨g,q⟩
  ·cases q;exact⟨v,by rw[mG,aX rfl,aX (by rw[<-h.len];exact l)],r⟩
  ·obtain⟨w,b,r1⟩:=h.sh j u q;exact⟨w,by rw[mG,ba g];exact b,r1⟩
 ·rcases fU e with⟨rfl,l,q⟩|⟨g,q⟩
  ·cases q
  ·obtain⟨D,ys,b,r1⟩:=h.ow j us q;exact⟨D,ys,by rw[mG,ba g];exact b,r1⟩
 ·rcases fU b with⟨rfl,l,q⟩|⟨g,q⟩
  ·cases q
  ·rcases fU M with⟨rfl,l,I⟩|⟨S,I⟩
   ·cases I
   ·rw[mG,ba g]at L;rw[mG,ba S];exact h.ap j k us ws D n q I L
end
def startT(n:Nat)(ts:List Tr):bY:=ts.map Cell.sh++List.replicate (n - ts.length) .no
theorem qP{c:Cell}(e:(startT ay ts)[i]?=some c):c=.no\/∃t,ts[i]?=some t/\c=.sh t:=by
 unfold startT at e;by_cases hi:i<ts.length
 ·rw[o7 (by rw[bt];exact hi),ck]at e;cases q:ts[i]? with
  |none=>rw[q]at e;cases e
  |some u=>rw[q]at e;exact .inr ⟨u,rfl,(Option.some.inj e).symm⟩
 ·rw[w8 (by rw[bt];omega),sW]at e;split at e
  ·exact .inl (Option.some.inj e).symm
  ·cases e
theorem cL.start (h:bP K (cn B H) aq ts):cL K B H (start ps aq) (startT ps.length ts):=by
 have l:=h.length;refine⟨by unfold L2.start startT;simp only[eZ,bt,xj];omega,λi t e=>?_,λi us e=>?_,λi j us ws D _ e _ _=>?_⟩
 ·rcases qP e with q|⟨u,q,b⟩
  ·cases q
  ·cases b;obtain⟨v,g,r⟩:=h.get q;have hi:i<aq.length:=(gx.mp g).1;refine⟨v,?_,r⟩;unfold L2.start;rw[o7 (by rw[bt];exact hi),ck,g]
   rfl
 ·rcases qP e with q|⟨u,q,b⟩
  ·cases q
  ·cases b
 ·rcases qP e with q|⟨u,q,b⟩
  ·cases q
  ·cases b
noncomputable def isStar:Expr->Bool
 |.Starred .. =>true
 |_=>false
def bL(es:List Expr)(env:Env)(h:isStar e=false):starEach (e::es) env=(false,eval e env)::starEach es env:=by
 cases e<;>first|rfl|cases h
def bC(es:List Expr):Bool:=es.all λe=>!isStar e
theorem cS{env:Env}:∀{es:List Expr},bC es=true->(backTo pos (starEach es env)).any (·.1)=false
 |[],_=>by rw[starEach];rfl
 |e::es,h=>by
  unfold bC at h;rw[iD,bW]at h;have b:isStar e=false:=by simpa using h.1
  rw[bL es env b];exact cS (es:=es) h.2
theorem jB{env:Env}:∀{es:List Expr},bC es=true->(backTo pos (starEach es env)).all (λx=>!x.1)=true
 |[],_=>by rw[starEach];rfl
 |e::es,h=>by
  unfold bC at h;rw[iD,bW]at h;have b:isStar e=false:=by simpa using h.1
  rw[bL es env b];exact jB (es:=es) h.2
def bp{es:List Expr}(h:bC (e::es)=true):isStar e=false/\bC es=true:=by
 unfold bC at h;rw[iD,bW]at h;exact⟨by simpa using h.1,h.2⟩
def sg:Expr->Bool
 |.ListComp .. =>true
 |.SetComp .. =>true
 |.DictComp .. =>true
 |_=>false
def yc{t:Option Expr}{env:Env}(h:sg e=false):swapsWith e t i env=pure false:=by
 cases e<;>first|rfl|cases h
noncomputable def mZ:Expr->Bool
 |.UnaryOp .. =>false
 |.BoolOp .. =>false
 |.IfExp .. =>false
 |.Compare .. =>false
 |_=>true
def yd{env:Env}(h:mZ e=true):∀whole,isTrue e env whole=(do let v<-whole;standAt e.pos;holding [v] (truthy v)):=by
 intro whole;cases e<;>first|rfl|cases h
def isSet:Expr->Bool
 |.Set .. =>true
 |_=>false
def ip{env:Env}(h:isSet e=false):∀x,foldedSetIterable e env x=pure x:=by
 intro x;cases e<;>first|rfl|cases h
def isCall:Expr->Bool
 |.Call .. =>true
 |_=>false
def gE{env:Env}{w:Sem Value}(h:isCall o=false):attributeBase o x env w=w:=by
 cases o<;>first|rfl|cases h
inductive tP(X:Cx)(F:bY->Rs Tr)(Z:St)(H:Hp)(Q:VK):Prop
 |mk (B:fy) (Y:bY):HB B H->cL X.K B H Z Y->(Fi X H (F Y) fun t=>∀v H',bj H H'->Rep X.K (cn B H') v t->Q v H')->tP X F Z H Q
inductive tQ(X:Cx)(F:bY->Rs Bool)(Z:St)(H:Hp)(Q:Bool->Hp->Prop):Prop
 |mk (B:fy) (Y:bY):HB B H->cL X.K B H Z Y->(Fi X H (F Y) fun b=>∀H',bj H H'->Q b H')->tQ X F Z H Q
inductive CO(X:Cx)(F:bY->Rs (List Tr))(Z:St)(H:Hp)(Q:List V->Hp->Prop):Prop
 |mk (B:fy) (Y:bY):HB B H->cL X.K B H Z Y->(Fi X H (F Y) fun ts=>∀vs H',bj H H'->bP X.K (cn B H') vs ts->Q vs H')->CO X F Z H Q
inductive Out where
 |nx (Y:bY)|ret (t:Tr)|bk (Y:bY)|ct (Y:bY)
structure d_(C B0:fy)(H0:Hp)(B:fy)(H:Hp):Prop where
 kp:∀b o,C b=true->H0 b=some o->H b=some o
 kE:fk (cn B0 H0) (cn B H)
 sub:vU C B
 hb:HB B H
section
variable {C B0 B1 B2:fy}{H' H1 H2:Hp}
def d_.go (h:d_ C B0 ac B H)(s:bj H H'):d_ C B0 ac B H':=⟨λb o c e=>s _ _ (h.kp b o c e),h.kE.trans (bK s),h.sub,h.hb.same s⟩
def vU.refl:vU B B:=⟨λ_ e=>e,λ_ _ e=>e⟩
theorem d_.refl (h:HB B H)(c:vU C B):d_ C B H B H:=⟨λ_ _ _ e=>e,fk.refl _,c,h⟩
theorem d_.trans (h:d_ C B0 ac B1 H1)(q:d_ C B1 H1 B2 H2):d_ C B0 ac B2 H2:=⟨λb o c e=>q.kp b o c (h.kp b o c e),h.kE.trans q.kE,q.sub,q.hb⟩
def d_.same (h:d_ C C ac B H):bj ac H:=λb o e=>by
 cases q:C b with
 |true=>exact h.kp b o q e
 |false=>exact bM _ _ (h.kE.h b o (by rw[gS q];exact e))
end
def EN(X:Cx)(D:Ends)(C B0:fy)(H0:Hp):Out->Prop
 |.nx Y=>∀b B' H',d_ C B0 H0 B' H'->cL X.K B' H' b Y->D.nx b H'
 |.ret t=>∀v B' H',d_ C B0 H0 B' H'->Rep X.K (cn C H') v t->D.rt v H'
 |.bk Y=>∀b B' H',d_ C B0 H0 B' H'->cL X.K B' H' b Y->D.bk b H'
 |.ct Y=>∀b B' H',d_ C B0 H0 B' H'->cL X.K B' H' b Y->D.ct b H'
def xS(X:Cx)(C B0:fy)(H0:Hp):Tr->Prop:=λc=>∀B' H',d_ C B0 H0 B' H'->XA X c H'
inductive tS(X:Cx)(G:bY->Rs Out)(D:Ends)(Z:St)(H:Hp):Prop
 |mk (C:fy) (B0:fy) (H0:Hp) (B:fy) (Y:bY):d_ C B0 H0 B H->cL X.K B H Z Y->qO (xS X C B0 H0) (G Y) (EN X D C B0 H0)->tS X G D Z H
def PE.weak {t t':TE}(h:PE X e t)(w:∀Z H Q,t' Z H Q->t Z H Q):PE X e t':=λU s Z H Q I q=>h U s Z H Q I (w Z H Q q)
def PT.weak {t t':TT}(h:PT X e t)(w:∀Z H Q,t' Z H Q->t Z H Q):PT X e t':=λU s Z H Q I q=>h U s Z H Q I (w Z H Q q)
def PW.weak {t t':TT}(h:PW X e t)(w:∀Z H Q,t' Z H Q->t Z H Q):PW X e t':=λwh U s Z H Q I q=>h wh U s Z H Q I (w Z H Q q)
def PA.weak {t t':TA}(h:PA X es t)(w:∀Z H Q,t' Z H Q->t Z H Q):PA X es t':=λpos U s Z H Q I q=>h pos U s Z H Q I (w Z H Q q)
def PS.weak {st:Stmt}{t t':TS}(h:PS X st t)(w:∀D Z H,t' D Z H->t D Z H):PS X st t':=λU s Z H D I q=>h U s Z H D I (w D Z H q)
def o5.weak {st:List Stmt}{t t':TS}(h:o5 X st t)(w:∀D Z H,t' D Z H->t D Z H):o5 X st t':=λU s Z H D I q=>h U s Z H D I (w D Z H q)
def ye(Y:bY)(i:Nat):Rs Tr:=match Y[i]? with
 |some (.sh t)=>.ok t
 |_=>.bad
def Ku{Y:bY}(r:cL X.K B H Z Y)(h:Fi X H (ye Y i) aA):∃v t,Z[i]?=some (some v)/\Rep X.K (cn B H) v t/\aA t:=by
 unfold ye at h;split at h
 ·rename_i t e;obtain⟨v,b,r1⟩:=r.sh i t e;exact⟨v,t,b,r1,h⟩
 ·exact h.elim
section
variable {b:Expr}{E:bY->Rs Tr}
theorem Wb(i:Nat)(hN:X.N[i]?=some x:=by rfl) (hv:Zz X.env.scope x:=by first|exact Or.inl rfl|exact Or.inr (Or.inl rfl)|exact Or.inr (Or.inr rfl)) (hd:Db x:=by decide)
  (Et:(x==("__classdict__":Str))=false:=by decide):PE X (.Name x pos) (tP X λY=>ye Y i):=
 (Ra hN hv hd Et).weak λZ H Q ⟨B,Y,hb,r,q⟩=>by
  obtain⟨v,t,e,r1,k⟩:=Ku r q;exact⟨v,e,k v H (bj.refl H) r1⟩
theorem CQ{v:V}(h:PE X e (tC v))(r:∀H,Rep X.K H v aB):PE X e (tP X λ_=>.ok aB):=
 h.weak λZ H Q ⟨B,Y,_,_,q⟩=>q v H (bj.refl H) (r _)
def Wc{i:Int}{j pos}:PE X (.Constant (.int i) j pos) (tP X λ_=>.ok (.int i)):=CQ Rb λH=>.int i
def aaO{b:Bool}{j pos}:PE X (.Constant (.bool b) j pos) (tP X λ_=>.ok (.bl b)):=CQ VA λH=>.bl b
def Wd{j pos}:PE X (.Constant .none j pos) (tP X λ_=>.ok .cu):=CQ Rc λH=>.cu
def We{j pos}(hz:x.length<=cZ:=by decide):PE X (.Constant (.str x) j pos) (tP X λ_=>.ok (.str x)):=CQ Rf λH=>.str x hz
def Wf(K:Frag)(mg:Str->Option Value)(x:Str)(t:Tr):Prop:=∃v u,mg x=some u/\RelV v u/\∀H,Rep K H v t
def aaP(hm:X.mg x=none)(q:bootBuiltins x=some (.type ax):=by rfl) (hg:Gl X x:=by rfl) (hn:x≠"__name__":=by decide) (hd:Db x:=by decide):PE X (.Name x pos) (tP X λ_=>.ok (.ty ax)):=
 CQ (F5 (v:=.ty ax) hg hm q rfl hn hd) λH=>.ty ax
def Kv(h:Tr->Tr->Rs Tr)(o b:Rs Tr):Rs Tr:=o.bind λx=>b.bind λy=>h x y
inductive rT(X:Cx)(h:Tr->Tr->Rs Tr)(x:V)(y:V)(H:Hp)(Q:VK):Prop
 |mk (B:fy) (tx:Tr) (ty:Tr):HB B H->Rep X.K (cn B H) x tx->Rep X.K (cn B H) y ty->(Fi X H (h tx ty) fun t=>∀v H',bj H H'->Rep X.K (cn B H') v t->Q v H')->rT X h x y H Q
abbrev CT(X:Cx)(f:Value->Value->Sem Value)(h:Tr->Tr->Rs Tr):Prop:=wm X f (rT X h)
def uy{Q:VK}(q:tP X (λY=>Kv aC (F Y) (G Y)) Z H Q):Rj (rT X aC) (tP X F) (tP X G) Z H Q:=by
 obtain⟨B,Y,hb,r,q⟩:=q;refine⟨B,Y,hb,r,q.bind.mono λx b v H1 s1 r1=>⟨B,Y,hb.same s1,r.same s1,(b.bind.same s1).mono λy g u H2 s2 r2=>⟨B,x,y,(hb.same s1).same s2,r1.same (bK s2),r2,?_⟩⟩⟩;exact(g.same (s1.trans s2)).mono λt l w n s3 I=>l w n ((s1.trans s2).trans s3) I
def Wg{op:Operator}(ho:CT X (binaryOp op) aC)(ha:PE X o (tP X F))(hb:PE X b (tP X G)):PE X (.BinOp o op b pos) (tP X λY=>Kv aC (F Y) (G Y)):=
 (VH ho ha hb).weak λ_ _ _ q=>uy q
def Wh{op:CmpOp}(ho:CT X (compareOp op) aC)(ha:PE X o (tP X F))(hb:PE X b (tP X G))(hm:behindInMarks op b=false:=by first|exact AY _|rfl|with_unfolding_all rfl):PE X (.Compare o [op] [b] pos) (tP X λY=>Kv aC (F Y) (G Y)):=
 (Nt ho ha hb hm).weak λ_ _ _ q=>uy q
def ZP(r:Rs Tr):Rs Bool:=r.bind λt=>match t with
 |.bl b=>.ok b
 |_=>.bad
def Rep.yf {H:Vw}{v:V}{b:Bool}(h:Rep K H v (.bl b)):v=.bl b:=by cases h;rfl
def gm{W:Vw}{t:Tr}(r:bP K W aq [t]):∃x,aq=[x]/\Rep K W x t:=by
 cases r with
 |cons o r=>cases r;exact⟨_,rfl,o⟩
def zW{W:Vw}{u:Tr}(r:bP K W aq [aB,u]):∃x y,aq=[x,y]/\Rep K W x aB/\Rep K W y u:=by
 cases r with
 |cons o r=>
  obtain⟨y,rfl,b⟩:=gm r;exact⟨_,_,rfl,o,b⟩
def Rep.Gp {H:Vw}{v:V}{ns:List Int}(h:Rep K H v (.vR ns)):∃o,v=.ref o/\l0 K H.H o (ns.map V.int):=by cases h;exact⟨_,rfl,by assumption⟩
def Rep.nO {H:Vw}{v:V}{bE:List (Key×Tr)}(h:Rep K H v (.bU bE)):∃o kvs,v=.ref o/\Rd H.H o (.dK kvs)/\kvs.map (·.1)=bE.map (·.1)/\bP K H (kvs.map (·.2)) (bE.map (·.2)):=by cases h;exact⟨_,_,rfl,by assumption,by assumption,by assumption⟩
def Rep.nP {H:Vw}{v:V}(h:Rep K H v (.at i)):∃o,v=.ref o/\H.ix o=some i:=by cases h;exact⟨_,rfl,by assumption⟩
def Rep.Ba {H:Vw}{v:V}{fs:List (Str×Tr)}(h:Rep K H v (.ob x fs)):∃o dx q,v=.ref o/\H.H o=some (.ins (clsAt K x) dx q)/\q.map (·.1)=fs.map (·.1)/\bP K H (q.map (·.2)) (fs.map (·.2)):=by cases h;exact⟨_,_,_,rfl,by assumption,by assumption,by assumption⟩
def Rep.NT {H:Vw}{v:V}(h:Rep K H v .cu):v=.cu:=by cases h;rfl
def Rep.int_inv {H:Vw}{v:V}{i:Int}(h:Rep K H v (.int i)):v=.int i:=by cases h;rfl
def Rep.str_inv {H:Vw}{v:V}{z:Str}(h:Rep K H v (.str z)):v=.str z/\z.length<=cZ:=by cases h;exact⟨rfl,by assumption⟩
def Rep.dX {H:Vw}{v:V}(h:Rep K H v (.tup ts)):∃o vs,v=.ref o/\jl K H.H o vs/\bP K H vs ts:=by cases h;exact⟨_,_,rfl,by assumption,by assumption⟩
def Rep.lst_inv {H:Vw}{v:V}(h:Rep K H v (.lst ts)):∃o vs,v=.ref o/\H.H o=some (.lst vs)/\bP K H vs ts:=by cases h;exact⟨_,_,rfl,by assumption,by assumption⟩
theorem hide{G:Prop}(k:∀P:Prop,(G->P)->P):G:=k G id
def NU{r:Rs Tr}{k:Bool->Prop}(h:Fi X H (ZP r) k):Fi X H r λt=>∃b,t=.bl b/\k b:=by
 refine h.bind.mono λt q=>?_
 cases t with
 |bl b=>exact⟨b,rfl,q⟩
 |_=>exact q.elim
theorem Wi{op:CmpOp}(ho:CT X (compareOp op) aC)(ha:PE X o (tP X F))(hb:PE X b (tP X G))(hm:behindInMarks op b=false:=by first|exact AY _|rfl|with_unfolding_all rfl):PT X (.Compare o [op] [b] pos) (tQ X λY=>ZP (Kv aC (F Y) (G Y))):=
 (Nu ho ha hb hm).weak λZ H Q ⟨B,Y,hb,r,q⟩=>by
  refine uy (Q:=λx H'=>∃k,x=.bl k/\Q k H') ⟨B,Y,hb,r,(NU q).mono λt g v H' s' l=>?_⟩;obtain⟨b,rfl,k⟩:=g;exact⟨b,l.yf,k H' s'⟩
noncomputable def uz:Tr->Rs Bool
 |.cu=>.ok false
 |.bl b=>.ok b
 |.int i=>.ok (i !=0)
 |.str z=>.ok ((z.length:Int) !=0)
 |.tup ts=>.ok (!ts.isEmpty)
 |.lst ts=>.ok (!ts.isEmpty)
 |.bU bE=>.ok (!bE.isEmpty)
 |_=>.bad
theorem bP.isEmpty {H:Vw}{vs:List V}(h:bP K H vs ts):vs.isEmpty=ts.isEmpty:=by cases h<;>rfl
def lP:cZ<=sizeLine:=by rw[dW];decide
def NV{H:Vw}{v:V}{b:Bool}(r:Rep K H v aB)(e:uz aB=.ok b):Nv K v H b:=by
 cases r with
 |cu=>cases e;rfl
 |bl tg=>cases e;rfl
 |int i=>cases e;rfl
 |str z h=>cases e;exact⟨cC h lP,rfl⟩
 |ty n=>cases e
 |tup h r=>cases e;exact .inr (.inl ⟨_,h,by rw[r.isEmpty]⟩)
 |lst h r=>cases e;exact .inl ⟨_,.of h,by rw[r.isEmpty]⟩
 |vR h=>cases e
 |«at» h=>cases e
 |vS h g l=>cases e
 |ob h g l=>cases e
 |zU h tg=>cases e
 |bU h g r=>
  cases e;refine .inr (.inr ⟨_,h,?_⟩);rename_i kvs bE;cases kvs<;>cases bE<;>first|rfl|cases g
def yg{H:Vw}{v:V}{t:Tr}{k:Bool->Prop}(r:Rep X.K H v t)(h:Fi X H (uz t) k):∃b,Nv X.K v H b/\k b:=by
 cases e:uz t with
 |ok b=>rw[e]at h;exact⟨b,NV r e,h⟩
 |exc tg=>cases t<;>cases e
 |bad=>rw[e]at h;exact h.elim
theorem Wj(ha:PE X o (tP X F))(he:mZ o=true:=by rfl):PT X o (tQ X λY=>(F Y).bind uz):=
 (Cy ha (yd he)).weak λZ H Q ⟨B,Y,hb,r,q⟩=>⟨B,Y,hb,r,q.bind.mono λt g v H' s' l=>by
  obtain⟨b,h1,h2⟩:=yg (l.same fL) (g.same s');exact⟨b,h1,h2 H' s'⟩⟩
def Ih(r:Rs Bool):Rs Bool:=r.bind λb=>.ok (!b)
variable {A B:bY->Rs Bool}{c8:List Expr}
theorem Wk(ha:PT X o (tQ X A)):PT X (.UnaryOp .Not o pos) (tQ X λY=>Ih (A Y)):=
 (JS ha).weak λZ H Q ⟨B,Y,hb,r,q⟩=>⟨B,Y,hb,r,q.bind⟩
def Kw(o b:Rs Bool):Rs Bool:=o.bind λtg=>if tg then b else .ok false
def ZQ(o b:Rs Bool):Rs Bool:=o.bind λtg=>if tg then .ok true else b
def R6(q:PT X o (tQ X A)):PW X (.BoolOp .And [o] pos) (tQ X A):=pw_and1 q
def Wl(q:PT X o (tQ X A)):PW X (.BoolOp .Or [o] pos) (tQ X A):=pw_or1 q
theorem w_and(ha:PT X o (tQ X A))(hb:PW X (.BoolOp .And (b::c8) pos) (tQ X B)):PW X (.BoolOp .And (o::b::c8) pos) (tQ X λY=>Kw (A Y) (B Y)):=
 (pw_and ha hb).weak λZ H Q ⟨g,Y,hb,r,q⟩=>⟨g,Y,hb,r,q.bind.mono λtg l H1 s1=>by
  cases tg with
  |true=>exact⟨g,Y,hb.same s1,r.same s1,(Fi.same l s1).mono λb n H2 s2=>n H2 (s1.trans s2)⟩
  |false=>exact l H1 s1⟩
theorem w_or(ha:PT X o (tQ X A))(hb:PW X (.BoolOp .Or (b::c8) pos) (tQ X B)):PW X (.BoolOp .Or (o::b::c8) pos) (tQ X λY=>ZQ (A Y) (B Y)):=
 (pw_or ha hb).weak λZ H Q ⟨g,Y,hb,r,q⟩=>⟨g,Y,hb,r,q.bind.mono λtg l H1 s1=>by
  cases tg with
  |false=>exact⟨g,Y,hb.same s1,r.same s1,(Fi.same l s1).mono λb n H2 s2=>n H2 (s1.trans s2)⟩
  |true=>exact l H1 s1⟩
def R7{op}(h:PW X (.BoolOp op es pos) (tQ X A)):PT X (.BoolOp op es pos) (tQ X A):=h.pt
def Wm(o b:Rs Tr):Rs Tr:=o.bind λt=>(uz t).bind λtg=>if tg then b else .ok t
theorem Wn(ha:PE X o (tP X F))(hb:PE X (.BoolOp .And (b::c8) pos) (tP X G)):PE X (.BoolOp .And (o::b::c8) pos) (tP X λY=>Wm (F Y) (G Y)):=by
 intro U s Z H Q I ⟨B,Y,n,r,q⟩;refine BoolOp_and (eJ (ha U s Z H _ I ⟨B,Y,n,r,q.bind.mono λt l v H1 s1 r1=>(show∃t,Rep X.K (cn B H1) v t/\bj H H1/\Fi X H ((uz t).bind λtg=>if tg then G Y else .ok t) (λt=>∀v H',bj H H'->Rep X.K (cn B H') v t->Q v H')from⟨t,r1,s1,l⟩)⟩) λv s1 ⟨x,H1,M,r1,t,rt,g,l⟩=>?_);obtain⟨tg,h1,h2⟩:=yg (rt.same fL) (l.bind.same g);refine eJ (J7 U s1 Z H1 x v (λk H'=>k=tg/\H'=H1) M r1 ⟨tg,h1,rfl,rfl⟩) λk s2 ⟨H2,L,S,e2⟩=>?_
 subst S e2;cases k with
 |true=>exact hb U s2 Z _ Q L ⟨B,Y,n.same g,r.same g,(Fi.same h2 g).mono λt q v H' s' r'=>q v H' (g.trans s') r'⟩
 |false=>exact⟨x,_,L,r1,h2 x _ g rt⟩
def Wo{op}(h:PE X o (tP X F)):PE X (.BoolOp op [o] pos) (tP X F):=Rg h
def R8(r:Rs Bool):Rs Tr:=r.bind λb=>.ok (.bl b)
def Kx(tg:Rs Bool)(o b:Rs Tr):Rs Tr:=tg.bind λk=>if k then o else b
theorem aaQ(hc:PT X tg (tQ X A))(ha:PE X o (tP X F))(hb:PE X b (tP X G)):PE X (.IfExp tg o b pos) (tP X λY=>Kx (A Y) (F Y) (G Y)):=
 (JT hc ha hb).weak λZ H Q ⟨B,Y,hb,r,q⟩=>⟨B,Y,hb,r,q.bind.mono λk l H1 s1=>by
  cases k with
  |true=>exact⟨B,Y,hb.same s1,r.same s1,(Fi.same l s1).mono λt q v H2 s2 g=>q v H2 (s1.trans s2) g⟩
  |false=>exact⟨B,Y,hb.same s1,r.same s1,(Fi.same l s1).mono λt q v H2 s2 g=>q v H2 (s1.trans s2) g⟩⟩
def yh(o:Rs Tr)(l:Rs (List Tr)):Rs (List Tr):=o.bind λx=>l.bind λxs=>.ok (x::xs)
theorem Gq:PA X [] (CO X λ_=>.ok []):=r_.weak λZ H Q ⟨B,Y,hb,r,q⟩=>q [] H (bj.refl H) .nil
theorem Bc(ha:PE X o (tP X F))(hr:PA X es (CO X L))(hs:isStar o=false:=by rfl):PA X (o::es) (CO X λY=>yh (F Y) (L Y)):=
 (lO ha hr (bL _ _ hs)).weak λZ H Q ⟨B,Y,hb,r,q⟩=>⟨B,Y,hb,r,q.bind.mono λx b v H1 s1 g=>⟨B,Y,hb.same s1,r.same s1,(b.bind.same s1).mono λxs l vs H2 s2 n=>l _ H2 (s1.trans s2) (.cons (g.same (bK s2)) n)⟩⟩
noncomputable def dU:Nat:=16777216
def jO:dU=sizeLine:=dW.symm
def Be(l:Rs (List Tr)):Rs Tr:=l.bind λts=>if ts.length<=dU then .ok (.tup ts)else .bad
def CU(l:Rs (List Tr)):Rs Tr:=l.bind λts=>if ts.length<=dU then .ok (.lst ts)else .bad
theorem Wq{x1}(h:PA X es (CO X L)):PE X (.Tuple es x1 pos) (tP X λY=>Be (L Y)):=
 (Rw h).weak λZ H Q ⟨B,Y,hb,r,q⟩=>⟨B,Y,hb,r,q.bind.mono λts b vs H1 s1 g=>by
  by_cases hz:ts.length<=dU
  ·rw[aX hz]at b;refine⟨by rw[g.length,<-jO];exact hz,λp hp=>b (.ref p) _ (s1.CL (s1.free hp)) (.tup (.of ((hb.same s1).new hp)) (g.same (bK (bj.upd hp))))⟩
  ·rw[ba hz]at b;exact b.elim⟩
theorem Wr(h:PA X es (CO X L)):PE X (.List es pos) (tP X λY=>CU (L Y)):=
 (Kb h).weak λZ H Q ⟨B,Y,hb,r,q⟩=>⟨B,Y,hb,r,q.bind.mono λts b vs H1 s1 g=>by
  by_cases hz:ts.length<=dU
  ·rw[aX hz]at b;refine⟨by rw[g.length,<-jO];exact hz,λp hp=>b (.ref p) _ (s1.CL (s1.free hp)) (.lst ((hb.same s1).new hp) (g.same (bK (bj.upd hp))))⟩
  ·rw[ba hz]at b;exact b.elim⟩
def d4(h:List Tr->Rs Tr)(l:Rs (List Tr)):Rs Tr:=l.bind h
inductive rC(X:Cx)(h:List Tr->Rs Tr)(xs:List V)(H:Hp)(Q:VK):Prop
 |mk (B:fy) (ts:List Tr):HB B H->bP X.K (cn B H) xs ts->(Fi X H (h ts) fun t=>∀v H',bj H H'->Rep X.K (cn B H') v t->Q v H')->rC X h xs H Q
abbrev lQ(X:Cx)(f:Value)(h:List Tr->Rs Tr):Prop:=gP X f (rC X h)
def zX{Q:VK}(q:tP X (λY=>d4 h (L Y)) Z H Q):tCB (rC X h) (CO X L) Z H Q:=by
 obtain⟨B,Y,hb,r,q⟩:=q;exact⟨B,Y,hb,r,q.bind.mono λts b vs H1 s1 r1=>⟨B,ts,hb.same s1,r1,(b.same s1).mono λt b v H2 s2 g=>b v H2 (s1.trans s2) g⟩⟩
def NW(hc:lQ X (.builtin ax) h)(hm:X.mg x=none)(ha:PA X (e::es) (CO X L))(hv:bootBuiltins x=some (.builtin ax):=by rfl) (hg:Gl X x:=by rfl) (hn:x≠"__name__":=by decide) (fR:Db x:=by decide)
  (cH:bC (e::es)=true:=by rfl):PE X (.Call (.Name x p) (e::es) [] pos) (tP X λY=>d4 h (L Y)):=
 (pO hc hg hm hv ha hn fR (bL _ _ (bp cH).1) (cS (bp cH).2)).weak λ_ _ _ q=>zX q
def Ky(hc:lQ X (.type ax) h)(hm:X.mg x=none)(ha:PA X (e::es) (CO X L))(hv:bootBuiltins x=some (.type ax):=by rfl) (hg:Gl X x:=by rfl) (hn:x≠"__name__":=by decide) (fR:Db x:=by decide)
  (cH:bC (e::es)=true:=by rfl):PE X (.Call (.Name x p) (e::es) [] pos) (tP X λY=>d4 h (L Y)):=
 (vh hc hg hm hv ha hn fR (bL _ _ (bp cH).1) (cS (bp cH).2)).weak λ_ _ _ q=>zX q
inductive spT(K:Frag)(f:List Tr->Rs Tr)(vs:List V)(H:Hp)(Q:VK)(_w3:XK):Prop
 |mk (B:fy) (ts:List Tr):HB B H->bP K (cn B H) vs ts->(∃t,f ts=.ok t/\∀v H',bj H H'->Rep K (cn B H') v t->Q v H')->spT K f vs H Q _w3
theorem Ws{fd:FuncData}(D:zT X.K X.mg x ai ps a fd)(G:eC X.prog X.w X.K X.mg X.base mv i a fd ps (spT X.K h))(hr:di i X.A)
  (ha:PA X (e::es) (CO X L)) (hg:Gl X x:=by rfl) (fR:Db x:=by decide) (cH:bC (e::es)=true:=by rfl):PE X (.Call (.Name x p) (e::es) [] pos) (tP X λY=>d4 h (L Y)):=
 (R4 D G hr ha hg fR (bL _ _ (bp cH).1) (cS (bp cH).2)).weak λZ H Q ⟨B,Y,hb,r,q⟩=>⟨B,Y,hb,r,q.bind.mono λts b vs H1 s1 g=>by
  cases e:h ts with
  |ok t=>rw[e]at b;exact⟨B,ts,hb.same s1,by rw[j9];exact g,t,e,λv H2 s2 l=>b v H2 (s1.trans s2) l⟩
  |exc tg=>rw[e]at b;exact(b _ (bj.refl _)).elim
  |bad=>rw[e]at b;exact b.elim⟩
end
section
variable {a b c:Expr}{G G':bY->Rs Out}{A:bY->Rs Bool}
def CV(r:Rs Out)(G:bY->Rs Out):Rs Out:=r.bind λo=>match o with
 |.nx Y=>G Y
 |.ret t=>.ok (.ret t)
 |.bk Y=>.ok (.bk Y)
 |.ct Y=>.ok (.ct Y)
theorem Wt:o5 X [] (tS X λY=>.ok (.nx Y)):=F6.weak λD Z H ⟨C,B0,H0,B,Y,b,r,q⟩=>q Z B H b r
theorem R9(h1:PS X ai (tS X G))(h2:o5 X ah (tS X G')):o5 X (ai::ah) (tS X λY=>CV (G Y) G'):=
 (Cw h1 h2).weak λD Z H ⟨C,B0,H0,B,Y,g,r,q⟩=>⟨C,B0,H0,B,Y,g,r,q.bind.mono λo b=>by
  cases o with
  |nx iX=>exact λI B' H' l n=>⟨C,B0,H0,B',iX,l,n,b⟩
  |ret t=>exact b
  |bk iX=>exact b
  |ct iX=>exact b⟩
def Wu(q:PS X ai (tS X G)):o5 X [ai] (tS X G):=F7 q
def Kz(i:Nat)(r:Rs Tr)(Y:bY):Rs Out:=r.bind λt=>.ok (.nx (Y.set i (.sh t)))
def qO.here {α:Type}{C B0:fy}{H0:Hp}{r:Rs α}{k:α->Prop}(h:qO (xS X C B0 H0) r k)(si:d_ C B0 H0 B H):Fi X H r k:=h.imp λ_ q H' s'=>q B H' (si.go s')
def Gr{C B0:fy}{Y:bY}(si:d_ C B0 ac B H)(r:cL X.K B H Z Y)(q:qO (xS X C B0 ac) (F Y) aA){Q:VK}(hq:∀t v H',aA t->bj H H'->d_ C B0 ac B H'->cL X.K B H' Z Y->Rep X.K (cn B H') v t->Q v H'):tP X F Z H Q:=
 ⟨B,Y,si.hb,r,(q.here si).mono λt b v H' s' g=>hq t v H' b s' (si.go s') (r.same s') g⟩
def Wv{C B0:fy}{Y:bY}{k:Bool->Prop}(si:d_ C B0 ac B H)(r:cL X.K B H Z Y)(q:qO (xS X C B0 ac) (A Y) k){Q:Bool->Hp->Prop}(hq:∀b H',k b->bj H H'->d_ C B0 ac B H'->cL X.K B H' Z Y->Q b H'):tQ X A Z H Q:=
 ⟨B,Y,si.hb,r,(q.here si).mono λb g H' s'=>hq b H' g s' (si.go s') (r.same s')⟩
def Rep.out {C B0:fy}{H0:Hp}{v:V}{t:Tr}(r:Rep K (cn B H) v t)(q:d_ C B0 H0 B H):Rep K (cn C H) v t:=r.same (yb q.sub)
theorem Ww(he:PE X e (tP X F))(hN:X.N.Nodup:=by assumption) (hi:X.N[i]?=some x:=by rfl) (hx:Loc X.env.scope x:=by first|exact Or.inl rfl|exact Or.inr rfl) (hs:sg e=false:=by rfl) (hf:zl X x:=by first|exact .inl rfl|exact .inr rfl|assumption):
  PS X (.Assign [.Name x p] e pos) (tS X λY=>Kz i (F Y) Y):=
 (JY hN hi hx he (yc hs) hf).weak λD Z H ⟨C,B0,H0,B,Y,b,r,q⟩=>Gr b r q.bind λt v H1 g s1 l n I=>g _ B H1 l (n.set i I)
def KA(r:Rs Tr):Rs Out:=r.bind λt=>.ok (.ret t)
theorem Wx(he:PE X e (tP X F)):PS X (.Return (some e) pos) (tS X λY=>KA (F Y)):=
 (JV he).weak λD Z H ⟨C,B0,H0,B,Y,g,r,q⟩=>Gr g r q.bind λt v H1 l s1 b I n=>l v B H1 b (n.out b)
def U3(c:Rs Bool)(a b:Rs Out):Rs Out:=c.bind λk=>if k then a else b
theorem aaR(hc:PT X c (tQ X A))(ha:o5 X ah (tS X G))(hb:o5 X aj (tS X G')):PS X (.If c ah aj pos) (tS X λY=>U3 (A Y) (G Y) (G' Y)):=
 (PY hc ha hb).weak λD Z H ⟨C,B0,H0,B,Y,l,r,q⟩=>Wv l r q.bind λk H1 b s1 g r1=>by
  cases k with
  |true=>exact RW ⟨C,B0,H0,B,Y,g,r1,b⟩
  |false=>exact RV ⟨C,B0,H0,B,Y,g,r1,b⟩
abbrev o6:=Tr->bY->Rs bY
inductive tG(X:Cx)(T:o6)(v:V)(Z:St)(H:Hp)(Q:St->Hp->Prop):Prop
 |mk (B:fy) (Y:bY) (t:Tr):HB B H->cL X.K B H Z Y->Rep X.K (cn B H) v t->(Fi X H (T t Y) fun iX=>∀dF H',bj H H'->cL X.K B H' dF iX->Q dF H')->tG X T v Z H Q
def gN(i:Nat):o6:=λt Y=>.ok (Y.set i (.sh t))
theorem R_(i:Nat)(hN:X.N.Nodup:=by assumption) (hi:X.N[i]?=some x:=by rfl) (hx:Loc X.env.scope x:=by first|exact Or.inl rfl|exact Or.inr rfl) (hf:zl X x:=by first|exact .inl rfl|exact .inr rfl|assumption):PG X (.Name x pos) (tG X (gN i)):=by
 intro U s Z H v u Q I r ⟨B,Y,t,hb,rs,rt,q⟩;exact F8 hN hi hx hf U s Z H v u Q I r (q _ H (bj.refl H) (rs.set i rt))
noncomputable def EO:List Nat->List Tr->bY->Rs bY
 |[],[],Y=>.ok Y
 |i::is,t::ts,Y=>EO is ts (Y.set i (.sh t))
 |_,_,_=>.bad
inductive U4(X:Cx)(T:List Tr->bY->Rs bY)(vs:List V)(Z:St)(H:Hp)(Q:St->Hp->Prop):Prop
 |mk (B:fy) (Y:bY) (ts:List Tr):HB B H->cL X.K B H Z Y->bP X.K (cn B H) vs ts->(Fi X H (T ts Y) fun iX=>∀dF H',bj H H'->cL X.K B H' dF iX->Q dF H')->U4 X T vs Z H Q
theorem Wy:Np X [] (U4 X (EO [])):=by
 intro U s Z H vs us Q I r ⟨B,Y,ts,hb,rs,rt,q⟩
 match ts,rt,q with
 |[],.nil,q=>exact Nq U s Z H [] us Q I r ⟨rfl,q Z H (bj.refl H) rs⟩
 |_::_,_,q=>exact q.elim
theorem R'{is:List Nat}(h2:Np X es (U4 X (EO is)))(hN:X.N.Nodup:=by assumption) (hi:X.N[i]?=some x:=by rfl) (hx:Loc X.env.scope x:=by first|exact Or.inl rfl|exact Or.inr rfl) (hf:zl X x:=by first|exact .inl rfl|exact .inr rfl|assumption)
  (hs:(assignEach (.Name x pos::es) X.env).map (·.2)=assign (.Name x pos) X.env::(assignEach es X.env).map (·.2):=by rfl):Np X (.Name x pos::es) (U4 X (EO (i::is))):=by
 intro U s Z H vs us Q I r ⟨B,Y,ts,hb,rs,rt,q⟩
 match ts,rt,q with
 |[],_,q=>exact q.elim
 |t::ts,.cons b r2,q=>
  exact JW (F8 hN hi hx hf) h2 hs U s Z H _ us Q I r ⟨_,_,rfl,⟨B,_,ts,hb,rs.set i b,r2,q⟩⟩
def gT(is:List Nat):o6:=λt Y=>match t with
 |.tup ts=>EO is ts Y
 |_=>.bad
theorem Gs:∀{is:List Nat} {ts:List Tr} {Y q:bY},EO is ts Y=.ok q->ts.length=is.length
 |[],[],_,_,_=>rfl
 |[],_::_,_,_,h=>by cases h
 |_::_,[],_,_,h=>by cases h
 |_::is,_::ts,_,_,h=>by rw[dw,dw,Gs (is:=is) (ts:=ts) h]
theorem zY:∀{is:List Nat} {ts:List Tr} {Y:bY} {c:Tr},EO is ts Y≠ .exc c
 |[],[],_,_=>λh=>by cases h
 |[],_::_,_,_=>λh=>by cases h
 |_::_,[],_,_=>λh=>by cases h
 |_::is,_::ts,_,_=>zY (is:=is) (ts:=ts)
theorem Wz{is:List Nat}(h:Np X es (U4 X (EO is)))(hc:X.calm=true:=by rfl) (hn:(assignEach es X.env).length=is.length:=by rfl) (cH:(assignEach es X.env).findIdx? (·.1)=none:=by rfl):PG X (.Tuple es i pos) (tG X (gT is)):=by
 intro U s Z H v u Q I r ⟨B,Y,t,hb,rs,rt,q⟩;cases rt with
 |tup g rv=>
  refine Ri hc h hn cH U s Z H _ u Q I r ⟨_,_,rfl,(bj.tup bM g),?_,B,Y,_,hb,rs,rv,q⟩;have b:Fi X H (EO is _ Y) _:=q;cases e:EO is _ Y with
  |ok l=>rw[rv.length];exact Gs e
  |exc c=>exact(zY e).elim
  |bad=>rw[e]at b;exact b.elim
 |_=>exact q.elim
def Ij(T:o6)(r:Rs Tr)(Y:bY):Rs Out:=r.bind λt=>(T t Y).bind λb=>.ok (.nx b)
theorem WA{T:o6}(hg:PG X tg (tG X T))(he:PE X e (tP X F))(hs:swapsWithSole [tg] e pos.line X.env=pure false:=by rfl) (hw:swappedStores [tg] e X.env=pure none:=by rfl)
  (h1:(assignEach [tg] X.env).map (·.2)=[assign tg X.env]:=by rfl):PS X (.Assign [tg] e pos) (tS X λY=>Ij T (F Y) Y):=
 (JX he hg hs hw h1).weak λD Z H ⟨C,B0,H0,B,Y,g,r,q⟩=>Gr g r q.bind λt v H1 l s1 b r1 rv=>⟨B,Y,t,b.hb,r1,rv,(l.bind.here b).mono λM n I H2 s2 L=>n I B H2 (b.go s2) L⟩
structure oM(K:Frag)(B:fy)(J:It)(H:Hp)(ts:List Tr):Prop where
 go:∀i B' H',i<ts.length->fk (cn B H) (cn B' H')->HB B' H'->J.go i H'
 HR:∀i B' H' x M9,i<ts.length->fk (cn B H) (cn B' H')->HB B' H'->J.HR i H' x M9->bj H' M9/\∃t,ts[i]?=some t/\Rep K (cn B' M9) x t
 stop:∀B' H',fk (cn B H) (cn B' H')->J.stop ts.length H'
inductive tI(X:Cx)(W:bY->Rs (List Tr))(Z:St)(H:Hp)(R:It->Hp->Prop):Prop
 |mk (B:fy) (Y:bY):HB B H->cL X.K B H Z Y->(Fi X H (W Y) fun ts=>∀J H',bj H H'->oM X.K B J H' ts->R J H')->tI X W Z H R
def zy(T:o6)(G:bY->Rs Out):List Tr->bY->Rs Out
 |[],Y=>.ok (.nx Y)
 |t::ts,Y=>(T t Y).bind λg=>(G g).bind λo=>match o with
  |.nx b=>zy T G ts b
  |.ct b=>zy T G ts b
  |.bk b=>.ok (.nx b)
  |.ret t=>.ok (.ret t)
def Gu(T:o6)(G:bY->Rs Out)(l:Rs (List Tr))(Y:bY):Rs Out:=l.bind λts=>zy T G ts Y
noncomputable def Ik(z:Str):List Tr:=z.cps.toList.map λc=>Tr.str ⟨#[c]⟩
def KC(r:Rs Tr):Rs (List Tr):=r.bind λt=>match t with
 |.tup ts=>.ok ts
 |.lst ts=>.ok ts
 |.str z=>.ok (Ik z)
 |_=>.bad
def ER(h:cn B H ar=some (.lst aq))(r:bP K (cn B H) aq ts):oM K B (Itl K ar) H ts where
 go:=λi B' H' hi s hb=>by
  have b:i<aq.length:=by rw[r.length];exact hi
  exact⟨aq,aq[i],l0.of (bM _ _ (s.h _ _ h)),by simp[b]⟩
 HR:=λi B' H' x l hi s hb ⟨e,y⟩=>by
  subst e;have q:=y aq (l0.of (bM _ _ (s.h _ _ h)));obtain⟨t,g,r1⟩:=r.ya q;exact⟨bj.refl _,t,g,r1.same s⟩
 stop:=λB' H' s=>⟨aq,l0.of (bM _ _ (s.h _ _ h)),by rw[r.length];exact bu _⟩
def Il(h:jl K (cn B H) ar aq)(r:bP K (cn B H) aq ts):oM K B (Itt K ar) H ts where
 go:=λi B' H' hi s hb=>by
  have b:i<aq.length:=by rw[r.length];exact hi
  exact⟨aq,aq[i],bj.tup bM (s.h.tup h),by simp[b]⟩
 HR:=λi B' H' x l hi s hb ⟨e,y⟩=>by
  subst e;have q:=y aq (bj.tup bM (s.h.tup h));obtain⟨t,g,r1⟩:=r.ya q;exact⟨bj.refl _,t,g,r1.same s⟩
 stop:=λB' H' s=>⟨aq,bj.tup bM (s.h.tup h),by rw[r.length];exact bu _⟩
def Im(z:Str):oM K B (ZO z) H (Ik z) where
 go:=λi B' H' hi _ _=>by
  have h:i<z.cps.size:=by simpa[Ik]using hi
  exact h
 HR:=λi B' H' x l hi s hb ⟨e,c,b,g⟩=>by
  subst e;subst g;refine⟨bj.refl _,.str ⟨#[c]⟩,?_,.str _ (by show 1<=cZ;decide)⟩;unfold Ik;rw[ck,nJ,b]
  rfl
 stop:=λB' H' s=>by simp[Ik,ZO]
def NY{s1:Shared}{R:It->Hp->Prop}{t:Tok}(I1:Inv X U Z H s1)(q:R (ZO x) H):wpAny (model X.prog X.w) X.A (pyIter (.str x t)) (ZF X U Z tg R) X.xe s1:=by
 have fin:∀b∈[s1.heap.objs.size],kQ X U H b:=λb hb=>by
  have e:b=s1.heap.objs.size:=by simpa using hb
  rw[e];exact I1.zr (bu _) (I1.cX.fresh (bu _))
 cases r:x.cps.all (· <128)
 ·exact wpAny_pyIter_wide r ⟨s1.heap.objs.size,[s1.heap.objs.size],_,_,H,rfl,I1.kept (t':=s1.toks) λb o e=>bS _ e,
   CK (n:="str_iterator") (t:=t) (by decide) (λA' g=>Walks.strWide g _ x t) λ_ _ _ _ _ ai l=>wpAny_pyIter_striter_wide ai l,⟨_,cy _ rfl,rfl,rfl⟩,fin,q⟩
 ·exact wpAny_pyIter_ascii r ⟨s1.heap.objs.size,[s1.heap.objs.size],_,_,H,rfl,I1.kept (t':=s1.toks) λb o e=>bS _ e,
   CK (n:="str_ascii_iterator") (t:=t) (by decide) (λA' g=>Walks.strAscii g _ x t) λ_ _ _ _ _ ai l=>wpAny_pyIter_striter_ascii ai l,⟨_,cy _ rfl,rfl,rfl⟩,fin,q⟩
theorem WB(hl:PE X al (tP X F)):PI X tg al (tI X λY=>KC (F Y)):=by
 intro U s Z H R I ⟨B,Y,hb,r,q⟩;refine eJ (hl U s Z H (λx H1=>∃t,bj H H1/\Rep X.K (cn B H1) x t/\Fi X H (KC (.ok t)) λts=>∀J H',bj H H'->oM X.K B J H' ts->R J H') I ⟨B,Y,hb,r,q.bind.mono λt n v H1 s1 r1=>⟨t,s1,r1,n⟩⟩) λv s1 ⟨x,H1,g,r1,t,l,rt,k⟩=>?_
 have k:Fi X H (match t with
  |.tup ts=>.ok ts
  |.lst ts=>.ok ts
  |.str z=>.ok (Ik z)
  |_=>.bad) _:=k
 have fin:∀b∈[s1.heap.objs.size],kQ X U H1 b:=λb hb=>by
  rw[cQ.mp hb];exact g.zr (bu _) (g.cX.fresh (bu _))
 split at k
 ·obtain⟨a,vs,rfl,h,rr⟩:=rt.dX;cases r1;obtain⟨cw,rv,p,hz⟩:=g.tuple (bj.tup bM h);exact wpAny_pyIter_tuple (show s1.heap.IsTuple a cw.toArray from p) ⟨s1.heap.objs.size,[s1.heap.objs.size],_,_,H1,rfl,g.kept (t':=s1.toks) λb o e=>bS _ e,Ew a _,⟨_,cy _ rfl,rfl,rfl⟩,fin,k _ H1 l (Il h rr)⟩
 ·obtain⟨a,vs,rfl,h,rr⟩:=rt.lst_inv;cases r1;obtain⟨cw,rv,p,hz⟩:=g.list (l0.of (bM _ _ h));exact mL p.isList ⟨s1.heap.objs.size,[s1.heap.objs.size],_,_,H1,rfl,g.kept (t':=s1.toks) λb o e=>bS _ e,HS a _,⟨_,cy _ rfl,rfl,rfl⟩,fin,k _ H1 l (ER h rr)⟩
 ·obtain⟨rfl,_⟩:=rt.str_inv;obtain⟨t,rfl⟩:=(show∃t,v=Value.str _ t from r1);exact NY g (k _ H1 l (Im _))
 ·exact k.elim
noncomputable def CW(lo:Int)(n:Nat):List Tr:=(List.range n).map λk=>Tr.int (lo+(k:Nat))
def pV(lo:Int)(n:Nat):(CW lo n).length=n:=by simp[CW]
theorem CY(lo:Int)(n:Nat):oM K B (ZH lo n) H (CW lo n) where
 go:=λi B' H' hi _ _=>by rw[pV]at hi;exact hi
 HR:=λi B' H' x b hi s hb ⟨e,y⟩=>by
  subst e;subst y;rw[pV]at hi;refine⟨bj.refl _,.int (lo+i),?_,.int _⟩;unfold CW;rw[ck,List.getElem?_range hi]
  rfl
 stop:=λB' H' s=>by rw[pV];exact bu _
def Gv(l:Rs (List Tr)):Rs (List Tr):=l.bind λts=>match ts with
 |[.int j]=>if-4611686018427387904<=j/\j<4611686018427387904 then .ok (CW 0 j.toNat)else .bad
 |_=>.bad
def PI.weak {c0:Expr}{t t':TI}(h:PI X tg c0 t)(w:∀Z H R,t' Z H R->t Z H R):PI X tg c0 t':=λU s Z H R I q=>h U s Z H R I (w Z H R q)
theorem KD(hm:X.mg "range"=none)(ha:PA X [a] (CO X L))(hg:Gl X "range":=by rfl) (hs:bC [a]=true:=by rfl):PI X tg (.Call (.Name "range" p) [a] [] pos) (tI X λY=>Gv (L Y)):=
 (HU hg hm ha (by rw[bL _ _ (bp hs).1];rfl)).weak λZ H R ⟨B,Y,hb,r,q⟩=>⟨B,Y,hb,r,q.bind.mono λts b vs H1 s1 g=>by
  split at b
  ·rename_i j;cases g with
   |cons l g=>
    cases l;cases g;split at b
    ·rename_i n;exact⟨j,rfl,by omega,by omega,b _ H1 s1 (CY 0 _)⟩
    ·exact b.elim
  ·exact b.elim⟩
def NZ{α:Type}(r:Rs α):Rs α:=match r with
 |.ok a=>.ok a
 |_=>.bad
noncomputable def uA(ix:List (Option Nat))(Y:bY):bY:=ix.map λo=>match o with
 |none=>.no
 |some j=>match Y[j]? with
  |some (.sh t)=>.sh t
  |_=>.no
def cL.comp {B':fy}{H':Hp}{Y:bY}(ix:List (Option Nat))(h:cL K B H Z Y)(s:fk (cn B H) (cn B' H')):cL K B' H' (jn ix Z) (uA ix Y):=by
 have no:∀(i:Nat) (c:Cell),(uA ix Y)[i]?=some c->c=.no\/∃j t,ix[i]?=some (some j)/\Y[j]?=some (.sh t)/\c=.sh t:=λi c e=>by
  unfold uA at e;rw[ck]at e;cases q:ix[i]? with
  |none=>rw[q]at e;cases e
  |some o=>
   rw[q]at e;cases o with
   |none=>exact .inl (Option.some.inj e).symm
   |some j=>
    have l:(match Y[j]? with|some (Cell.sh t)=>Cell.sh t|_=>Cell.no)=c:=Option.some.inj e;split at l
    ·rename_i t b;exact .inr ⟨j,t,rfl,b,l.symm⟩
    ·exact .inl l.symm
 refine⟨by unfold uA jn;rw[bt,bt],λi t e=>?_,λi ts e=>?_,λi j ts us D _ e=>?_⟩
 ·rcases no i _ e with q|⟨j,u,n,b,g⟩
  ·cases q
  ·cases g;obtain⟨v,r,r1⟩:=h.sh j t b;refine⟨v,?_,r1.same s⟩;unfold jn;rw[ck,n];show some ((Z[j]?).join)=_;rw[r]
   rfl
 ·rcases no i _ e with q|⟨j,u,n,b,g⟩
  ·cases q
  ·cases g
 ·rcases no i _ e with q|⟨j,u,n,b,g⟩
  ·cases q
  ·cases g
def ES(T:o6)(A:bY->Rs Bool)(F:bY->Rs Tr):List Tr->bY->Rs (List Tr)
 |[],_=>.ok []
 |t::ts,Y=>(NZ (T t Y)).bind λb=>(NZ (A b)).bind λk=>if k then(NZ (F b)).bind λy=>(ES T A F ts b).bind λys=>.ok (y::ys)else ES T A F ts b
def vV(ix:List (Option Nat))(T:o6)(A:bY->Rs Bool)(F:bY->Rs Tr)(l:Rs (List Tr))(Y:bY):Rs Tr:=l.bind λts=>if ts.length<=dU then(ES T A F ts (uA ix Y)).bind λys=>.ok (.lst ys)else .bad
def m3(B:fy)(D:Addr):fy:=⟨λb=>B.hd b||b==D,B.ix⟩
def kS{D:Addr}{o:HO}(hD:H D=none):fk (cn B H) (cn (m3 B D) (upd H D o)):=⟨λb u e=>by
 have g:=bM b u e;have l:b≠D:=bT g hD;have r:B.hd b=false:=by
  cases q:B.hd b with
  |false=>rfl
  |true=>
   have n:(if B.hd b=true then none else H b)=some u:=e;rw[q,aX rfl]at n;cases n
 rw[gS (show(B.hd b||b==D)=false by rw[r,kc l];rfl),bo l];exact g,λ_ _ e=>e⟩
def Gw{o:HO}(h:HB B H)(hD:H ar=none):HB (m3 B ar) (upd H ar o):=λb e=>by
 by_cases q:b=ar
 ·subst q;exact⟨o,bO⟩
 ·have g:(B.hd b||b==ar)=true:=e;rw[kc q,jx]at g;rw[bo q];exact h b g
def zZ:(m3 B ar).hd ar=true:=by show(B.hd ar||ar==ar)=true;rw[bR,mP]
def uB{o:HO}:cn (m3 B ar) (upd H ar o)=cn (m3 B ar) H:=by
 unfold cn;congr 1;funext b;by_cases q:b=ar
 ·subst q;rw[aX zZ,aX zZ]
 ·rw[bo q]
def Gx:vU B (m3 B ar):=⟨λb e=>by show(B.hd b||b==ar)=true;rw[e,t9],λ_ _ e=>e⟩
def C0:fk (cn (m3 B ar) H) (cn B H):=yb Gx
def gF(Y:bY):Prop:=∀(i:Nat) (ts:List Tr),Y[i]? ≠some (.ow ts)
def kg(T:o6):Prop:=∀t Y b,gF Y->T t Y=.ok b->gF b
theorem gF.set {Y:bY}(h:gF Y)(i:Nat)(t:Tr):gF (Y.set i (.sh t)):=λj ts e=>by
 rcases fU e with⟨_,_,q⟩|⟨_,q⟩
 ·cases q
 ·exact h j ts q
def gn(i:Nat):kg (gN i):=λt Y b h e=>by cases e;exact h.set i t
theorem Gy:∀{is:List Nat} {ts:List Tr} {Y q:bY},gF Y->EO is ts Y=.ok q->gF q
 |[],[],_,_,h,e=>by cases e;exact h
 |[],_::_,_,_,_,e=>by cases e
 |_::_,[],_,_,_,e=>by cases e
 |i::is,t::ts,_,_,h,e=>Gy (is:=is) (ts:=ts) (h.set i t) e
def ET(is:List Nat):kg (gT is):=λt Y b h e=>by
 cases t with
 |tup ts=>exact Gy h e
 |_=>cases e
def wI(ix:List (Option Nat))(Y:bY):gF (uA ix Y):=λi ts e=>by
 unfold uA at e;rw[ck]at e;cases q:ix[i]? with
 |none=>rw[q]at e;cases e
 |some o=>
  rw[q]at e;cases o with
  |none=>cases e
  |some j=>
   have b:(match Y[j]? with|some (Cell.sh t)=>Cell.sh t|_=>Cell.no)=.ow ts:=Option.some.inj e;split at b<;>cases b
def EU{r:Rs ag}{k:ag->Prop}(h:qO aA (NZ r) k):∃a,r=.ok a/\k a:=by
 cases r with
 |ok a=>exact⟨a,rfl,h⟩
 |_=>exact h.elim
inductive Qd(K:Frag)(F:bY->Rs Tr)(Z:St)(H:Hp)(Q:VK):Prop
 |mk (B:fy) (Y:bY):HB B H->cL K B H Z Y->(∃t,F Y=.ok t/\∀v H',bj H H'->Rep K (cn B H') v t->Q v H')->Qd K F Z H Q
inductive Qe(K:Frag)(F:bY->Rs Bool)(Z:St)(H:Hp)(Q:Bool->Hp->Prop):Prop
 |mk (B:fy) (Y:bY):HB B H->cL K B H Z Y->(∃b,F Y=.ok b/\∀H',bj H H'->Q b H')->Qe K F Z H Q
inductive Qf(K:Frag)(T:o6)(v:V)(Z:St)(H:Hp)(Q:St->Hp->Prop):Prop
 |mk (B:fy) (Y:bY) (t:Tr):HB B H->cL K B H Z Y->Rep K (cn B H) v t->(∃iX,T t Y=.ok iX/\∀dF H',bj H H'->cL K B H' dF iX->Q dF H')->Qf K T v Z H Q
def Sa{Q:VK}:Qd X.K F Z H Q->tP X F Z H Q:=λ⟨B,Y,hb,r,t,e,q⟩=>⟨B,Y,hb,r,by rw[e];exact q⟩
def Sb{Q:Bool->Hp->Prop}:Qe X.K aE Z H Q->tQ X aE Z H Q:=λ⟨B,Y,hb,r,t,e,q⟩=>⟨B,Y,hb,r,by rw[e];exact q⟩
def Sd{T:o6}{v:V}{Q:St->Hp->Prop}:Qf X.K T v Z H Q->tG X T v Z H Q:=λ⟨B,Y,t,hb,r,rt,iX,e,q⟩=>⟨B,Y,t,hb,r,rt,by rw[e];exact q⟩
theorem wJ{J:It}{D:Addr}{ZK:St}{N0:bY}{T:o6}{Q:Hp->Prop}(hT:kg T)(h0:gF N0)(hb:HB B H)(gt:oM K B J H ts)(hz:ts.length<=dU)(r:cL K (m3 B D) (upd H D (.lst [])) ZK N0)(hD:H D=none)
  {k:List Tr->Prop} (q:qO aA (ES T A F ts N0) k) (hQ:∀ys H',k ys->bj H H'->Rep K (cn B H') (.ref D) (.lst ys)->Q H'):LcW J D ZK (upd H D (.lst [])) (Qf K T) (Qe K A) (Qd K F) Q:=by
 refine⟨λi m Z H'=>m=ts.length - i/\i<=ts.length/\bj H H'/\HB (m3 B D) H'/\fk (cn B H) (cn (m3 B D) H')/\∃Y vs us,gF Y/\cL K (m3 B D) H' Z Y/\H' D=some (.lst vs)/\vs.length<=i/\bP K (cn (m3 B D) H') vs us/\qO aA (ES T A F (ts.drop i) Y) (λys=>k (us++ys)),
  ⟨_,rfl,eP _,bj.upd hD,Gw hb hD,kS hD,N0,[],[],h0,r,bO,bu _,.nil,q⟩,?_⟩
 rintro i m Z H' ⟨rfl,hi,sm,g,kE,Y,vs,us,no,rs,hd,hl,rv,M⟩
 by_cases S:i<ts.length
 ·rw[sT S]at M;refine .inr ⟨gt.go i _ H' S kE g,λzt H2=>bj H H2/\HB (m3 B D) H2/\fk (cn B H) (cn (m3 B D) H2)/\∃Y vs us,gF Y/\cL K (m3 B D) H2 zt Y/\H2 D=some (.lst vs)/\vs.length<=i+1/\bP K (cn (m3 B D) H2) vs us/\qO aA (ES T A F (ts.drop (i+1)) Y) (λys=>k (us++ys)),
   λzt H2 h=>⟨ts.length - (i+1),by omega,rfl,S,h⟩,λx H2 hx=>?_⟩
  obtain⟨s2,t,et,rt⟩:=gt.HR i _ H' x H2 S kE g hx;have WC:ts[i]=t:=by rw[b_ S]at et;exact Option.some.inj et
  rw[WC]at M;obtain⟨L,eT,q1⟩:=EU (qO.bind M);have l:=hT t Y L no eT;refine⟨_,Y,t,g.same s2,rs.same s2,rt,L,eT,λP0 H3 s3 r3=>?_⟩;have s23:=s2.trans s3;obtain⟨c,eA,qc⟩:=EU (qO.bind q1);refine⟨_,L,g.same s23,r3,c,eA,λH4 s4=>?_⟩;have n:=s23.trans s4;have g4:bj H H4:=sm.trans n;cases c with
  |false=>
   exact RV ⟨g4,g.same n,kE.trans (bK n),L,vs,us,l,r3.same s4,n _ _ hd,by omega,rv.same (bK n),qc⟩
  |true=>
   obtain⟨y,eF,qy⟩:=EU (qO.bind qc);refine RW ⟨_,L,g.same n,r3.same s4,y,eF,λv H5 s5 r5=>?_⟩;have WD:=n.trans s5;refine⟨vs,WD _ _ hd,by rw[<-jO];omega,(sm.trans WD).CL hD,?_,?_,L,vs++[v],us++[y],l,?_,bO,by rw[eZ];exact Nat.add_le_add_right hl 1,?_,?_⟩
   ·intro b e;by_cases q:b=D
    ·subst q;exact⟨_,bO⟩
    ·rw[bo q];exact(g.same WD) b e
   ·rw[uB];exact kE.trans (bK WD)
   ·have I:=(r3.same s4).same s5;refine⟨I.len,λi t e=>?_,λi ts e=>(l i ts e).elim,I.ap⟩;rw[uB];exact I.sh i t e
   ·rw[uB];exact(rv.same (bK WD)).append (.cons r5 .nil)
   ·exact(qO.bind qy).mono λys q=>by rw[xp];exact q
 ·have e:i=ts.length:=by omega
  subst e;rw[tR]at M;refine .inl ⟨gt.stop _ H' kE,hQ us H' (by have:=(show k (us++[])from M);rw[j9]at this;exact this) sm (.lst ?_ (rv.same C0))⟩;rw[gS (hb.free hD)];exact hd
variable {scope:Scope}{N':List Str}{ix:List (Option Nat)}{elt c0:Expr}{ifs:List Expr}{T:o6}{W:bY->Rs (List Tr)}
theorem WE:PF X [] (tQ X λ_=>.ok true):=λU s Z H Q I ⟨B,Y,hb,r,q⟩=>RY U s Z H Q I (q H (bj.refl H))
def WG(h:PT X c (tQ X A)):PF X [c] (tQ X A):=RZ h
def C1{Q:VK}(hT:kg T)(q:tP X (λY=>vV ix T A F (W Y) Y) Z H Q):U1 (tI X W) ix (Qf X.K T) (Qe X.K A) (Qd X.K F) Z H Q:=by
 obtain⟨B,Y,hb,r,q⟩:=q;refine⟨B,Y,hb,r,q.bind.mono λts b J H1 s1 gt D g=>?_⟩;by_cases hz:ts.length<=dU
 ·rw[aX hz]at b;exact wJ hT (wI ix Y) (hb.same s1) gt hz ((r.same s1).comp ix (kS g)) g (Fi.bind b) λys H' k s' l=>k _ H' (s1.trans s') l
 ·rw[ba hz]at b;exact b.elim
structure N1(X:Cx)(scope:Scope)(N':List Str)(tg elt:Expr)(ifs:List Expr)(T:o6)(A:bY->Rs Bool)(F:bY->Rs Tr):Prop where
 all:∀s H ex,PG (ux X scope N' s H ex) tg (tG (ux X scope N' s H ex) T)/\PF (ux X scope N' s H ex) ifs (tQ (ux X scope N' s H ex) A)/\PE (ux X scope N' s H ex) elt (tP (ux X scope N' s H ex) F)
theorem N1.U5 {F:bY->Rs Tr}(h:N1 X scope N' tg elt ifs T A F):∀s H ex,PG (ux X scope N' s H ex) tg (Qf X.K T)/\PF (ux X scope N' s H ex) ifs (Qe X.K A)/\PE (ux X scope N' s H ex) elt (Qd X.K F):=λs H ex=>by
 obtain⟨b,h2,g⟩:=h.all s H ex;exact⟨λU s Z H v u Q I r q=>b U s Z H v u Q I r (Sd q),λU s Z H Q I q=>h2 U s Z H Q I (Sb q),λU s Z H Q I q=>g U s Z H Q I (Sa q)⟩
theorem aaS(Lk:gX X N' ix scope)(hi:PI X tg c0 (tI X W))(mw:N1 X scope N' tg elt ifs T A F)(hT:kg T)(hc:X.calm=true:=by rfl) (hs:isSet c0=false:=by rfl):
  PE X (.ListComp elt [⟨tg,c0,ifs,0⟩] scope pos) (tP X λY=>vV ix T A F (W Y) Y):=
 (Kr Lk hc hi mw.U5 (ip hs)).weak λZ H Q q=>C1 hT q
theorem N2(Lk:gX X N' ix scope)(hit:PI X tg c0 (tI X W))(mw:N1 X scope N' tg elt ifs T A F)(hT:kg T)(hN:X.N.Nodup:=by assumption) (hc:X.calm=true:=by rfl) (hi:X.N[i]?=some x:=by rfl) (hx:Loc X.env.scope x:=by first|exact Or.inl rfl|exact Or.inr rfl)
  (Ie:swapsWith (.ListComp elt [⟨tg,c0,ifs,0⟩] scope pos) (some (.Name x p)) b8.line X.env=pure true:=by rfl) (hs:isSet c0=false:=by rfl) (hf:zl X x:=by first|exact .inl rfl|exact .inr rfl|assumption):
  PS X (.Assign [.Name x p] (.ListComp elt [⟨tg,c0,ifs,0⟩] scope pos) b8) (tS X λY=>Kz i (vV ix T A F (W Y) Y) Y):=
 (x_ Lk hc hN hi hx hit mw.U5 Ie (ip hs) hf).weak λD Z H ⟨C,B0,H0,B,Y,b,r,q⟩=>C1 hT (Gr (F:=λY=>vV ix T A F (W Y) Y) b r q.bind λt v H1 g s1 l n I=>g _ B H1 l (n.set i I))
def dG(r:Rs Out):Rs Tr:=r.bind λo=>match o with
 |.nx _=>.ok .cu
 |.ret t=>.ok t
 |_=>.bad
def zm.okT {base:Heap}{qual:Str}{f:Addr}{fd:FuncData}{N:List Str}{k:Nat}(Fn:zm K x qual ai f fd)(S:g_ N ps (bJ ai))(len:∀ts t,h ts=.ok t->ts.length=ps.length)
  (kR:∀(gf:Value) (A:Around) (outer:List Env) (s:Shared) (H:Hp) (E:XK),di k (A.deeper (envOfC qual (bJ ai) s.heap.objs.size f gf))->
   ∃G,o5 (oY mv P w K mg base N qual (bJ ai) f gf A outer s H E).JE (f_ ai) (tS (oY mv P w K mg base N qual (bJ ai) f gf A outer s H E).JE G)/\∀ts t,h ts=.ok t->dG (G (startT N.length ts))=.ok t):eC P w K mg base mv (k+1) f fd ps (spT K h):=by
 refine Fn.ok S (λvs H Q E q=>?_) (λgf A outer s H vs Q E I q=>?_)
 ·obtain⟨B,ts,hb,r,t,e,_⟩:=q;rw[r.length];exact len ts t e
 ·obtain⟨B,ts,hb,r,t,e,q⟩:=q;obtain⟨G,L,M⟩:=kR gf A outer s H E I;refine⟨_,L,B,B,H,B,startT N.length ts,d_.refl hb vU.refl,cL.start r,?_⟩;have b:=M ts t e;cases l:G (startT N.length ts)with
  |ok o=>
   rw[l]at b;cases o with
   |nx Y=>cases b;exact λdF B' H' g n=>q .cu H' g.same .cu
   |ret u=>cases b;exact λv B' H' g n=>q v H' g.same n
   |_=>cases b
  |_=>rw[l]at b;cases b
end
theorem N3:wm X (binaryOp .Add) (λx y H Q=>∃(a b:Addr) (xs ys:List V),x=.ref a/\y=.ref b/\jl X.K H a xs/\jl X.K H b ys/\xs.length+ys.length<=sizeLine/\(xs=[]->Q (.ref b) H)/\(ys=[]->Q (.ref a) H)/\∀p,H p=none->Q (.ref p) (upd H p (.tup (xs++ys)))):=by
 intro U s Z H x y v u Q I g l h;obtain⟨a,b,xs,ys,rfl,rfl,ha,hb,hz,L,M,S⟩:=h;by_cases r:xs=[]
 ·subst r;cases(show v=Value.ref a from g);cases(show u=Value.ref b from l);obtain⟨i1,r1,p1,_⟩:=I.tuple ha;obtain⟨i2,r2,p2,_⟩:=I.tuple hb;cases r1;obtain⟨dd,n,sl,h1⟩:=vj p1;obtain⟨q,n2,Zq,h2⟩:=vj p2;exact concat_meets ⟨_,h1,rfl⟩ ⟨_,h2,rfl⟩ noFill_tuple_add seq_tuple_add PySem.F.slot_tuple_add PySem.F.entry_tuple_add (PySem.F.args_tuple_add_2 _ _) (tuple_addW0 a b _ _ n n2 dd q sl Zq rfl) ⟨h1,h2,⟨.ref b,H,I,rfl,L rfl⟩⟩
 ·exact NB U s Z H _ _ v u Q I g l ⟨a,b,xs,ys,rfl,rfl,ha,hb,r,hz,M,λ_ p hp=>S p hp⟩
def Rep.up {v:V}{t:Tr}(r:Rep K (cn B H) v t):Rep K (raw B H) v t:=r.same fL
def jl.up {xs:List V}(h:jl K (cn B H) a xs):jl K H a xs:=bj.tup bM h
def d8{o:HO}(h:cn B H a=some o):H a=some o:=bM _ _ h
def Rep.Sf {p:Addr}{vs:List V}(hb:HB B H)(hp:H p=none)(r:bP K (cn B H) vs ts):Rep K (cn B (upd H p (.tup vs))) (.ref p) (.tup ts):=.tup (.of (hb.new hp)) (r.same (bK (bj.upd hp)))
def Rep.Bf {p:Addr}{vs:List V}(hb:HB B H)(hp:H p=none)(r:bP K (cn B H) vs ts):Rep K (cn B (upd H p (.lst vs))) (.ref p) (.lst ts):=.lst (hb.new hp) (r.same (bK (bj.upd hp)))
def C5{H:Vw}(h:bP K H [] ts):ts=[]:=by cases h;rfl
def Sg(h:x.length+au.length<=cZ):(x++au).length<=cZ:=by rw[o8];exact h
def vk:Tr->Tr->Rs Tr
 |.int i,.int j=>.ok (.int (i+j))
 |.str a,.str b=>if a.length+b.length<=cZ then .ok (.str (a++b))else .bad
 |.tup a,.tup b=>if a.length+b.length<=dU then .ok (.tup (a++b))else .bad
 |.lst a,.lst b=>if a.length+b.length<=dU then .ok (.lst (a++b))else .bad
 |_,_=>.bad
def iq{c:Prop}[Decidable c]{t:ag}{k:ag->Prop}(h:Fi X H (if c then Rs.ok t else .bad) k):c/\k t:=by
 by_cases b:c
 ·rw[aX b]at h;exact⟨b,h⟩
 ·rw[ba b]at h;exact h.elim
theorem iF:CT X (binaryOp .Add) vk:=by
 intro U s Z H x y v u Q I n r ⟨B,tx,ty,hb,r1,r2,q⟩;unfold vk at q;split at q
 ·exact Rn U s Z H _ _ v u Q I n r ⟨_,_,r1.int_inv,r2.int_inv,q _ H (bj.refl H) (.int _)⟩
 ·have f:=iq q;exact EA U s Z H _ _ v u Q I n r ⟨_,_,r1.str_inv.1,r2.str_inv.1,cC f.1 lP,f.2 _ H (bj.refl H) (.str _ (Sg f.1))⟩
 ·have f:=iq q;obtain⟨a,as,L,h1,g⟩:=r1.dX;obtain⟨b,bs,M,h2,l⟩:=r2.dX;exact N3 U s Z H _ _ v u Q I n r ⟨_,_,_,_,L,M,h1.up,h2.up,by rw[g.length,l.length,<-jO];exact f.1,λe=>f.2 _ H (bj.refl H) (by subst e;rw[C5 g,<-M];exact r2),λe=>f.2 _ H (bj.refl H) (by subst e;rw[C5 l,j9,<-L];exact r1),λp hp=>f.2 _ _ (bj.upd hp) (.Sf hb hp (g.append l))⟩
 ·have f:=iq q;obtain⟨a,as,L,h1,g⟩:=r1.lst_inv;obtain⟨b,bs,M,h2,l⟩:=r2.lst_inv;exact RI U s Z H _ _ v u Q I n r ⟨_,_,_,_,L,M,d8 h1,d8 h2,by rw[g.length,l.length,<-jO];exact f.1,λp hp=>f.2 _ _ (bj.upd hp) (.Bf hb hp (g.append l))⟩
 ·exact fe q
noncomputable def Io:Tr->Tr->Rs Tr
 |.int i,.int j=>if 0<j then .ok (.int (i % j))else .bad
 |_,_=>.bad
theorem C6:CT X (binaryOp .Mod) Io:=by
 intro U s Z H x y v u Q I b g ⟨B,tx,ty,hb,r1,r2,q⟩;unfold Io at q;split at q
 ·have f:=iq q;exact Rp U s Z H _ _ v u Q I b g ⟨_,_,r1.int_inv,r2.int_inv,f.1,f.2 _ H (bj.refl H) (.int _)⟩
 ·exact fe q
def yi(i j:Int):Prop:=(-18446744073709551616<i/\i<18446744073709551616)\/(-18446744073709551616<j/\j<18446744073709551616)
def yi.cm {i j:Int}(h:yi i j):J5 i j:=by
 unfold yi at h;unfold J5;omega
instance (i j:Int):Decidable (yi i j):=by unfold yi;infer_instance
def Ip:Tr->Tr->Rs Tr
 |.int i,.int j=>if yi i j then .ok (.int (i*j))else .bad
 |.str z,.int n=>if 0<=n/\n<=1000/\z.length<=1000 then .ok (.str (Txt.mul z n))else .bad
 |.lst ts,.int n=>if 0<=n/\n<=1000/\ts.length*n.toNat<=dU then .ok (.lst (List.replicate n.toNat ts).flatten)else .bad
 |_,_=>.bad
def N5:wm X (binaryOp .Mult) (λx y H Q=>∃(l:Addr) (k:Int) (xs:List V),x=.ref l/\y=.int k/\H l=some (.lst xs)/\-(2 ^63)<=k/\k<2 ^63/\xs.length*k.toNat<=sizeLine/\∀p,H p=none->Q (.ref p) (upd H p (.lst (List.replicate k.toNat xs).flatten))):=RJ
def N6{n:Int}(h0:0<=n)(q:n<=1000)(hz:x.length<=1000):(Txt.mul x n).length<=cZ:=by
 have e:=PyProof.Rows.len_mul x n;split at e
 ·have:((Txt.mul x n).length:Int)=0:=e;unfold cZ;omega
 ·have h2:(x.length:Int)*n<=1000*1000:=Int.mul_le_mul (by omega) q h0 (by decide);have b:((Txt.mul x n).length:Int)=(x.length:Int)*n:=e;unfold cZ;omega
theorem KH:CT X (binaryOp .Mult) Ip:=by
 intro U s Z H x y v u Q I b g ⟨B,tx,ty,hb,r1,r2,q⟩;unfold Ip at q;split at q
 ·have f:=iq q;exact Ro U s Z H _ _ v u Q I b g ⟨_,_,r1.int_inv,r2.int_inv,f.1.cm,f.2 _ H (bj.refl H) (.int _)⟩
 ·have f:=iq q;exact NS U s Z H _ _ v u Q I b g ⟨_,_,r1.str_inv.1,r2.int_inv,PyProof.Rows.mulOk_of 1000 1000 f.1.2.2 f.1.2.1 (Int.le_trans (by decide) f.1.1) (by decide) (by decide),f.2 _ H (bj.refl H) (.str _ (N6 f.1.1 f.1.2.1 f.1.2.2))⟩
 ·have f:=iq q;obtain⟨a,as,n,h1,l⟩:=r1.lst_inv;exact N5 U s Z H _ _ v u Q I b g ⟨_,_,_,n,r2.int_inv,d8 h1,Int.le_trans (by decide) f.1.1,Int.lt_of_le_of_lt f.1.2.1 (by decide),by rw[l.length,<-jO];exact f.1.2.2,λp hp=>f.2 _ _ (bj.upd hp) (.Bf hb hp (l.rep _))⟩
 ·exact fe q
mutual
noncomputable def eqT:Tr->Tr->Bool
 |.cu,.cu=>true
 |.bl a,.bl b=>a==b
 |.bl a,.int b=>(if a then 1 else 0)==b
 |.int a,.bl b=>a==(if b then 1 else 0)
 |.int a,.int b=>a==b
 |.str a,.str b=>a==b
 |.tup a,.tup b=>EV a b
 |.lst a,.lst b=>EV a b
 |_,_=>false
noncomputable def EV:List Tr->List Tr->Bool
 |[],[]=>true
 |x::xs,y::ys=>eqT x y&&EV xs ys
 |_,_=>false
end
mutual
noncomputable def sj:Tr->Bool
 |.cu=>true
 |.bl _=>true
 |.int _=>true
 |.str _=>true
 |.tup ts=>yj ts
 |.lst ts=>yj ts
 |_=>false
noncomputable def yj:List Tr->Bool
 |[]=>true
 |t::ts=>sj t&&yj ts
end
mutual
noncomputable def dT:Tr->Nat
 |.tup ts=>Si ts+1
 |.lst ts=>Si ts+1
 |_=>0
noncomputable def Si:List Tr->Nat
 |[]=>0
 |t::ts=>max (dT t) (Si ts)
end
theorem pW:∀{ts:List Tr},yj ts=true->∀t∈ts,sj t=true
 |[],_,t,h=>nomatch h
 |u::us,h,t,m=>by
  rw[yj,bW]at h;rcases bI.mp m with rfl|m
  ·exact h.1
  ·exact pW h.2 t m
theorem Bg:∀{ts:List Tr},∀t∈ts,dT t<=Si ts
 |[],t,h=>nomatch h
 |u::us,t,m=>by
  rw[Si];rcases bI.mp m with rfl|m
  ·exact Nat.le_max_left _ _
  ·exact cC (Bg t m) (Nat.le_max_right _ _)
theorem C7:∀(xs ys:List Tr),((List.range (min xs.length ys.length)).all (λj=>eqT (xs.getD j .cu) (ys.getD j .cu))&&xs.length==ys.length)=EV xs ys
 |[],[]=>rfl
 |[],y::ys=>rfl
 |x::xs,[]=>rfl
 |x::xs,y::ys=>by
  have b:=C7 xs ys;rw[EV,<-b,dw,dw,Nat.succ_min_succ,List.range_succ_eq_map,iD,pH,Bool.and_assoc];congr 1;have g:(xs.length+1==ys.length+1)=(xs.length==ys.length):=by rw[tW,fo,fo];omega
  rw[g]
  rfl
def N7{u:Value}{k:Bool}(q:∀b t,af≠Value.float b t)(hs:af=u->k=true)(h:SeqAt.RcAt A s af u k):SeqAt.EqAt A s af u k:=λprog w E Q g=>by
 unfold eqBool;refine fK ?_
 refine mM (λl=>?_) (λ_=>?_)
 ·rw[hs (eq_of_beq l)]at g;exact aS (fQ (bg g))
 ·cases af with
  |float b t=>exact absurd rfl (q b t)
  |_=>exact aS (h prog w E _ (px g))
section
variable {rJ:Addr->Option Nat}
theorem vW(I:Inv X U Z H s){ws:List V}(q:jl X.K H a aq)(h2:H a=some (.lst ws)):False:=by
 obtain⟨_,_,⟨o,e,c,_⟩,_⟩:=I.tuple q;obtain⟨_,cw,n,_,b⟩:=I.cX a _ h2;rw[e]at b;cases b;exact absurd c (by show¬(Value.type "list"=.type "tuple");decide+kernel)
noncomputable def vT:V->Tr
 |.cu=>.cu
 |.bl b=>.bl b
 |.int i=>.int i
 |.str z=>.str z
 |_=>.at 0
def pX{W:Vw}{x:V}{t:Tr}(r:Rep K W x t)(p:sj t=true):(∃ts,t=.tup ts)\/(∃ts,t=.lst ts)\/t=vT x:=by
 cases r<;>first|(cases p;done)|exact .inr (.inr rfl)|exact .inl ⟨_,rfl⟩|exact .inr (.inl ⟨_,rfl⟩)
def uC{W:Vw}{x:V}{t':Tr}(e:aB=vT x)(p:sj aB=true)(p':sj t'=true)(q:Rep K W x t'):aB=t':=by
 rcases pX q p' with⟨ts,rfl⟩|⟨ts,rfl⟩|b
 ·obtain⟨a,_,rfl,_⟩:=q.dX;rw[e]at p;cases p
 ·obtain⟨a,_,rfl,_⟩:=q.lst_inv;rw[e]at p;cases p
 ·rw[e,b]
theorem N8(I:Inv X U Z H s):∀(n:Nat) {x:V} {t t':Tr},dT t<=n->sj t=true->sj t'=true->Rep X.K (⟨H,rJ⟩:Vw) x t->Rep X.K (⟨H,rJ⟩:Vw) x t'->t=t':=by
 intro n
 induction n with
 |zero=>
  intro x t t' hd p p' r b;rcases pX r p with⟨ts,rfl⟩|⟨ts,rfl⟩|e
  ·exact absurd hd (Nat.not_succ_le_zero _)
  ·exact absurd hd (Nat.not_succ_le_zero _)
  ·exact uC e p p' b
 |succ n ih=>
  intro x t t' hd p p' r b;have go:∀{vs:List V} {ts z5:List Tr},Si ts<=n->yj ts=true->yj z5=true->bP X.K (⟨H,rJ⟩:Vw) vs ts->bP X.K (⟨H,rJ⟩:Vw) vs z5->ts=z5:=by
   intro vs ts z5 k1 k2 k3;have l:=λt m=>cC (Bg (ts:=ts) t m) k1;have h2:=pW k2;have L:=pW k3
   clear hd p p' r b k1 k2 k3
   induction vs generalizing ts z5 with
   |nil=>intro q q';cases q;cases q';rfl
   |cons v vs M=>
    intro(.cons qh qr) (.cons S qr');rw[List.forall_mem_cons]at l h2 L;rw[ih l.1 h2.1 L.1 qh S,M l.2 h2.2 L.2 qr qr']
  rcases pX r p with⟨ts,rfl⟩|⟨ts,rfl⟩|e
  ·rcases pX b p' with⟨z5,rfl⟩|⟨z5,rfl⟩|e
   ·obtain⟨a,vs,rfl,h,rr⟩:=r.dX;obtain⟨_,N9,e,h',g⟩:=b.dX;cases e;cases I.qN h h';rw[go (xh hd) p p' rr g]
   ·obtain⟨a,vs,rfl,h,rr⟩:=r.dX;obtain⟨_,N9,e,h',g⟩:=b.lst_inv;cases e;exact(vW I h h').elim
   ·exact(uC e p' p r).symm
  ·rcases pX b p' with⟨z5,rfl⟩|⟨z5,rfl⟩|e
   ·obtain⟨a,vs,rfl,h,rr⟩:=r.lst_inv;obtain⟨_,N9,e,h',g⟩:=b.dX;cases e;exact(vW I h' h).elim
   ·obtain⟨a,vs,rfl,h,rr⟩:=r.lst_inv;obtain⟨_,N9,e,h',g⟩:=b.lst_inv;cases e;cases h.symm.trans h';rw[go (xh hd) p p' rr g]
   ·exact(uC e p' p r).symm
  ·exact uC e p p' b
mutual
theorem C9:∀{t:Tr},sj t=true->eqT t t=true
 |.cu,_=>rfl
 |.bl b,_=>by rw[eqT];exact bR b
 |.int i,_=>by rw[eqT];exact bR i
 |.str z,_=>by rw[eqT];exact bR z
 |.tup ts,h=>by rw[eqT];rw[sj]at h;exact vm h
 |.lst ts,h=>by rw[eqT];rw[sj]at h;exact vm h
 |.ty _,h=>by cases h
 |.vR _,h=>by cases h
 |.bU _,h=>by cases h
 |.at _,h=>by cases h
 |.vS _,h=>by cases h
 |.ob _ _,h=>by cases h
 |.zU _,h=>by cases h
theorem vm:∀{ts:List Tr},yj ts=true->EV ts ts=true
 |[],_=>rfl
 |t::ts,h=>by
  rw[yj,bW]at h;rw[EV,C9 h.1,vm h.2]
  rfl
end
def Gz{l:List ag}{x d:ag}(h:l[i]?=some x):l.getD i d=x:=by rw[eM,h];rfl
inductive Sh(K:Frag)(G:Vw)(h:Heap):Tr->Value->Prop
 |cu:Sh K G h .cu .none
 |bl (b:Bool):Sh K G h (.bl b) (.bool b)
 |int (b:Int) (w:Tok):Sh K G h (.int b) (.int b w)
 |str (b:Str) (w:Tok):Sh K G h (.str b) (.str b w)
 |tup {a:Addr} {vs:List V} {ts:List Tr} {us:List Value} (q:h.IsTuple a us.toArray) (rr:bP K G vs ts) (rv:Vals vs us):Sh K G h (.tup ts) (.ref a)
 |lst {a:Addr} {vs:List V} {ts:List Tr} {us:List Value} (q:h.IsList a us.toArray) (rr:bP K G vs ts) (rv:Vals vs us):Sh K G h (.lst ts) (.ref a)
def Bh(I:Inv X U Z H s){x:V}{v:Value}{t:Tr}(p:sj t=true)(r:Rep X.K (⟨H,rJ⟩:Vw) x t)(rx:RelV x v):Sh X.K ⟨H,rJ⟩ s.heap t v:=by
 cases r with
 |cu=>cases(show v=Value.none from rx);exact .cu
 |bl b=>cases(show v=Value.bool b from rx);exact .bl b
 |int b=>obtain⟨w,rfl⟩:=(show∃t,v=Value.int b t from rx);exact .int b w
 |str b _=>obtain⟨w,rfl⟩:=(show∃t,v=Value.str b t from rx);exact .str b w
 |@tup a _ _ h g=>cases(show v=Value.ref a from rx);obtain⟨_,rv,q,_⟩:=I.tuple h;exact .tup q g rv
 |@lst a _ _ h g=>cases(show v=Value.ref a from rx);obtain⟨_,rv,q,_⟩:=I.list (.of h);exact .lst q.isList g rv
 |_=>cases p
def GA(I:Inv X U Z H s)(n:Nat){x y:V}{u:Value}{t:Tr}(hd:dT t<=n)(p:sj t=true)(p':sj aB=true)(r:Rep X.K (⟨H,rJ⟩:Vw) x t)(r':Rep X.K (⟨H,rJ⟩:Vw) y aB)(rx:RelV x af)(ry:RelV y u)(q:SeqAt.RcAt A s af u (eqT t aB)):SeqAt.EqAt A s af u (eqT t aB):=by
 refine N7 (λb t e=>?_) (λe=>?_) q
 ·subst e;cases r<;>first|(obtain⟨_,z⟩:=rx;cases z;done)|(cases rx;done)
 subst e;rw[rx.inj ry]at r;rw[<-N8 I n hd p p' r r'];exact C9 p
def GB{G:Vw}{A:Around}{u:Value}{t:Tr}(S:Sh K G s.heap t af)(S':Sh K G s.heap aB u)(q:A.units<cLine):(SeqAt.RcAt A s af u (eqT t aB)/\SeqAt.RcNeAt A s af u (!eqT t aB))\/∃ts z5,(t=.tup ts/\aB=.tup z5)\/(t=.lst ts/\aB=.lst z5):=by
 cases S<;>cases S'<;>first|exact .inr ⟨_,_,.inl ⟨rfl,rfl⟩⟩|exact .inr ⟨_,_,.inr ⟨rfl,rfl⟩⟩|(refine .inl ⟨?_,?_⟩<;>simp only[eqT,eO,dv]<;>with_reducible first|exact .none_none|exact .none_bool _|exact .none_int _ _|exact .none_str _ _|exact .none_tuple ‹_› q|exact .none_list ‹_› q|exact .bool_none _|exact .bool_bool _ _|exact .bool_int _ _ _|exact .bool_str _ _ _|exact .bool_tuple _ ‹_› q|exact .bool_list _ ‹_› q|exact .int_none _ _|exact .int_bool _ _ _|exact .int_int _ _ _ _|exact .int_str _ _ _ _|exact .int_tuple _ _ ‹_› q|exact .int_list _ _ ‹_› q|exact .str_none _ _|exact .str_bool _ _ _|exact .str_int _ _ _ _|exact .str_str _ _ _ _|exact .str_tuple _ _ ‹_› q|exact .str_list _ _ ‹_› q|exact .tuple_none ‹_› q|exact .tuple_bool _ ‹_› q|exact .tuple_int _ _ ‹_› q|exact .tuple_str _ _ ‹_› q|exact .tuple_list ‹_› ‹_› q|exact .list_none ‹_› q|exact .list_bool _ ‹_› q|exact .list_int _ _ ‹_› q|exact .list_str _ _ ‹_› q|exact .list_tuple ‹_› ‹_› q)
theorem Sj(I:Inv X U Z H s):∀(n:Nat) {A:Around} {x y:V} {v u:Value} {t t':Tr},dT t<=n->sj t=true->sj t'=true->Rep X.K (⟨H,rJ⟩:Vw) x t->Rep X.K (⟨H,rJ⟩:Vw) y t'->RelV x v->RelV y u->A.units+n<cLine->SeqAt.RcAt A s v u (eqT t t')/\SeqAt.RcNeAt A s v u (!eqT t t'):=by
 intro n
 induction n with
 |zero=>
  intro A x y v u t t' hd p p' r r' rx ry hu;rcases GB (Bh I p r rx) (Bh I p' r' ry) (A:=A) (by omega)with h|⟨_,_,⟨rfl,_⟩|⟨rfl,_⟩⟩
  ·exact h
  all_goals exact absurd hd (by rw[dT];omega)
 |succ n ih=>
  intro A x y v u t t' hd p p' r r' rx ry hu;have M:A.units<cLine:=by omega
  have a8:∀{vs N9:List V} {us EY:List Value} {ts z5:List Tr},Si ts<=n->yj ts=true->yj z5=true->bP X.K (⟨H,rJ⟩:Vw) vs ts->bP X.K (⟨H,rJ⟩:Vw) N9 z5->Vals vs us->Vals N9 EY->∀(j:Nat) (h1:j<us.toArray.size) (h2:j<EY.toArray.size),
    SeqAt.EqAt A.in1 s us.toArray[j] EY.toArray[j] (eqT (ts.getD j .cu) (z5.getD j .cu)):=by
   intro vs N9 us EY ts z5 d1 q1 q2 g L rv b j h1 h2;replace h1:j<us.length:=h1;replace h2:j<EY.length:=h2;have k1:=b_ (Nat.lt_of_lt_of_eq h1 rv.length.symm);have k2:=b_ (Nat.lt_of_lt_of_eq h2 b.length.symm);obtain⟨t1,e1,p1⟩:=g.ya k1;obtain⟨t2,e2,p2⟩:=L.ya k2;obtain⟨w1,f1,g1⟩:=rv.get k1;obtain⟨w2,f2,g2⟩:=b.get k2;rw[b_ h1]at f1;rw[b_ h2]at f2;rw[List.getElem_toArray,List.getElem_toArray,Option.some.inj f1,Option.some.inj f2,Gz e1,Gz e2];have m1:=d6 e1;have q2:=pW q2 _ (d6 e2);have q1:=pW q1 _ m1;have d:=cC (Bg _ m1) d1;exact GA I n d q1 q2 p1 p2 g1 g2 (ih d q1 q2 p1 p2 g1 g2 (by show A.units+1+n<cLine;omega)).1
  have S:=Bh I p r rx;have S':=Bh I p' r' ry;rcases GB S S' M with h|⟨ts,z5,⟨rfl,rfl⟩|⟨rfl,rfl⟩⟩
  ·exact h
  all_goals
   rw[dT]at hd;have it:=λ{vs N9 us EY}=>@a8 vs N9 us EY _ _ (Nat.le_of_add_le_add_right hd) p p';have e:=C7 ts z5;rw[eqT]
  ·cases S with|tup q g rv=>
   cases S' with|tup q' L b=>
   rw[<-e,<-g.length,<-L.length,rv.length,b.length];exact⟨.tuples q q' M (it g L rv b),.tuples q q' M (it g L rv b)⟩
  cases S with|lst q g rv=>
  cases S' with|lst q' L b=>
  have l:=g.length;have l':=L.length;rw[rv.length]at l;rw[b.length]at l';by_cases hz:ts.length=z5.length
  ·rw[hz,Nat.min_self,bR,Bool.and_true,<-hz,<-l]at e;rw[<-e];exact⟨.lists q q' (by simp;omega) M (it g L rv b),.lists q q' (by simp;omega) M (it g L rv b)⟩
  ·rw[kc hz,xE]at e;rw[<-e];exact⟨.lists_lengths q q' (by simp;omega) M,.lists_lengths q q' (by simp;omega) M⟩
end
def eqC(a b:Tr):Rs Tr:=if sj a=true/\sj b=true/\dT a<=40 then .ok (.bl (eqT a b))else .bad
theorem eK(hu:X.A.units+40<cLine):CT X (compareOp .Eq) eqC:=by
 intro U s Z H x y v u Q I b g ⟨B,tx,ty,hb,r1,r2,q⟩;obtain⟨⟨p1,p2,hd⟩,k⟩:=iq q;exact(Sj I 40 hd p1 p2 r1.up r2.up b g hu).1 _ _ _ _ ⟨.bl _,H,I,rfl,k _ H (bj.refl H) (.bl _)⟩
section
variable {rJ:Addr->Option Nat}
def KI(I:Inv X U Z H s)(n:Nat){x y:V}{u:Value}{t:Tr}(hd:dT t<=n)(p:sj t=true)(p':sj aB=true)(r:Rep X.K (⟨H,rJ⟩:Vw) x t)(q:Rep X.K (⟨H,rJ⟩:Vw) y aB)(rx:RelV x af)(ry:RelV y u)(hu:A.units+n<cLine):SeqAt.EqAt A s af u (eqT t aB):=
 GA I n hd p p' r q rx ry (Sj I n hd p p' r q rx ry hu).1
end
def Nk(a b:Tr):Rs Tr:=if sj a=true/\sj b=true/\dT a<=40 then .ok (.bl (!eqT a b))else .bad
theorem Ir(hu:X.A.units+40<cLine):CT X (compareOp .NotEq) Nk:=by
 intro U s Z H x y v u Q I b g ⟨B,tx,ty,hb,r1,r2,q⟩;obtain⟨⟨p1,p2,hd⟩,k⟩:=iq q;exact(Sj I 40 hd p1 p2 r1.up r2.up b g hu).2 _ _ _ _ ⟨.bl _,H,I,rfl,k _ H (bj.refl H) (.bl _)⟩
noncomputable def ltC:Tr->Tr->Rs Tr
 |.int i,.int j=>.ok (.bl (decide (i<j)))
 |.str a,.str b=>.ok (.bl (decide (a.cps.toList<b.cps.toList)))
 |_,_=>.bad
noncomputable def leC:Tr->Tr->Rs Tr
 |.int i,.int j=>.ok (.bl (decide (i<=j)))
 |.str a,.str b=>.ok (.bl (!(decide (b.cps.toList<a.cps.toList))))
 |_,_=>.bad
def gtC:Tr->Tr->Rs Tr
 |.int i,.int j=>.ok (.bl (decide (j<i)))
 |_,_=>.bad
def geC:Tr->Tr->Rs Tr
 |.int i,.int j=>.ok (.bl (decide (j<=i)))
 |_,_=>.bad
theorem KJ:CT X (compareOp .Lt) ltC:=by
 intro U s Z H x y v u Q I b g ⟨B,tx,ty,hb,r1,r2,q⟩;unfold ltC at q;split at q
 ·exact VJ U s Z H _ _ v u Q I b g ⟨_,_,r1.int_inv,r2.int_inv,q _ H (bj.refl H) (.bl _)⟩
 ·exact HW U s Z H _ _ v u Q I b g ⟨_,_,r1.str_inv.1,r2.str_inv.1,q _ H (bj.refl H) (.bl _)⟩
 ·exact fe q
theorem Sk:CT X (compareOp .Gt) gtC:=by
 intro U s Z H x y v u Q I b g ⟨B,tx,ty,hb,r1,r2,q⟩;unfold gtC at q;split at q
 ·exact VL U s Z H _ _ v u Q I b g ⟨_,_,r1.int_inv,r2.int_inv,q _ H (bj.refl H) (.bl _)⟩
 ·exact fe q
theorem Sl:CT X (compareOp .GtE) geC:=by
 intro U s Z H x y v u Q I b g ⟨B,tx,ty,hb,r1,r2,q⟩;unfold geC at q;split at q
 ·exact VM U s Z H _ _ v u Q I b g ⟨_,_,r1.int_inv,r2.int_inv,q _ H (bj.refl H) (.bl _)⟩
 ·exact fe q
noncomputable def ZR:Tr->Bool
 |.cu=>true
 |_=>false
def GC{H:Vw}{x:V}{t:Tr}(r:Rep K H x t):decide (x=.cu)=ZR t:=by
 cases r<;>rfl
def GD:Tr->Tr->Rs Tr
 |a,.cu=>.ok (.bl (ZR a))
 |.bl a,.bl b=>.ok (.bl (a==b))
 |_,_=>.bad
theorem C_:CT X (compareOp .Is) GD:=by
 intro U s Z H x y v u Q I b g ⟨B,tx,ty,hb,r1,r2,q⟩;unfold GD at q;split at q
 ·exact Rr U s Z H _ _ v u Q I b g ⟨r2.NT,by rw[GC r1];exact q _ H (bj.refl H) (.bl _)⟩
 ·exact R3 U s Z H _ _ v u Q I b g ⟨_,_,r1.yf,r2.yf,q _ H (bj.refl H) (.bl _)⟩
 ·exact fe q
noncomputable def fc(bE:List (Key×Tr))(k:Key):Option Tr:=(bE.find? λb=>decide (b.1=k)).map (·.2)
noncomputable def kh:Tr->Option Key
 |.int i=>some (.inl i)
 |.str z=>some (.inr z)
 |_=>none
def nQ{H:Vw}{x:V}{k:Key}(r:Rep K H x aB)(e:kh aB=some k):x=kV k:=by
 cases r with
 |int i=>cases e;rfl
 |str z h=>cases e;rfl
 |_=>cases e
theorem qQ{H:Vw}(k:Key):∀{kvs:List (Key×V)} {bE:List (Key×Tr)},kvs.map (·.1)=bE.map (·.1)->bP K H (kvs.map (·.2)) (bE.map (·.2))->(fc bE k=none/\mX kvs k=none)\/∃t v,fc bE k=some t/\mX kvs k=some v/\Rep K H v t
 |[],[],_,_=>.inl ⟨rfl,rfl⟩
 |[],_::_,e,_=>by cases e
 |_::_,[],e,_=>by cases e
 |(k1,v1)::kvs,(k2,b)::bE,e,r=>by
  rw[bB,bB]at e;injection e with g l
  have n:k1=k2:=g;subst n;cases r with
  |cons h r=>
   by_cases q:k1=k
   ·refine .inr ⟨b,v1,?_,uo q,h⟩;unfold fc;rw[j_,gB (show(k1,b).1=k from q)]
    rfl
   ·rw[uq q];have I:fc ((k1,b)::bE) k=fc bE k:=by
     unfold fc;rw[j_,fJ (show¬(k1,b).1=k from q)]
    rw[I];exact qQ k l r
def yk{H:Vw}{y:V}{t:Tr}{k:Key}(h:Rd H.H a (.dK kvs))(e:kvs.map (·.1)=aF.map (·.1))(r:bP K H (kvs.map (·.2)) (aF.map (·.2)))(q:Rep K H y t)(hk:kh t=some k):
  ∃o,pT H a y o/\((fc aF k=none/\o=none)\/∃t v,fc aF k=some t/\o=some v/\Rep K H v t):=by
 have b:=nQ q hk;subst b;refine⟨_,.inl ⟨kvs,k,h,rfl,rfl⟩,?_⟩;rcases qQ k e r with⟨h1,h2⟩|⟨t,v,h1,h2,g⟩
 ·exact .inl ⟨h1,h2⟩
 ·exact .inr ⟨t,v,h1,h2,g⟩
def yl:Tr->Bool
 |.cu=>true
 |.bl _=>true
 |.int _=>true
 |.str _=>true
 |_=>false
def eU(x:Tr)(u:Value):Bool:=match u with
 |.none=>eqT .cu x
 |.bool b=>eqT (.bl b) x
 |.int i _=>eqT (.int i) x
 |.str z _=>eqT (.str z) x
 |_=>false
theorem EZ{H:Vw}{y:V}{t x:Tr}(r:Rep K H y t)(f:yl t=true)(q:RelV y af):eU x af=eqT t x:=by
 cases r with
 |cu=>cases(show af=Value.none from q);rfl
 |bl b=>cases(show af=Value.bool b from q);rfl
 |int i=>obtain⟨w,rfl⟩:=(show∃t,af=Value.int i t from q);rfl
 |str z _=>obtain⟨w,rfl⟩:=(show∃t,af=Value.str z t from q);rfl
 |_=>cases f
theorem ym{H:Vw}{x:Tr}:∀{vs:List V} {ts:List Tr} {us:List Value},bP K H vs ts->ts.all yl=true->Vals vs us->us.any (eU x)=ts.any λy=>eqT y x
 |[],_,_,r,_,rv=>by cases r;cases rv;rfl
 |_::_,_,_,r,f,rv=>by
  cases r with
  |cons h r=>
   cases rv with
   |cons b rv=>
    rw[iD,bW]at f;rw[jj,jj,EZ h f.1 b,ym r f.2 rv]
def Oa{t:Tr}(f:yl t=true):dT t<=0/\sj t=true:=by cases t<;>first|exact⟨bu _,rfl⟩|cases f
theorem pY{rJ:Addr->Option Nat}{A:Around}{x:V}{t:Tr}{v:Value}(I:Inv X U Z H s)(hu:A.units<cLine)(rx:Rep X.K (⟨H,rJ⟩:Vw) x t)(p:sj t=true)(rv:RelV x v):∀{vs:List V} {ts:List Tr} {us:List Value},bP X.K (⟨H,rJ⟩:Vw) vs ts->ts.all yl=true->Vals vs us->∀u∈us,SeqAt.EqAt A s u v (eU t u)
 |[],_,_,r,_,q=>λu m=>by cases q;cases m
 |_::_,_,_,r,f,q=>λu m=>by
  cases r with
  |cons h r=>
   cases q with
   |cons b q=>
    rw[iD,bW]at f;rcases bI.mp m with rfl|m
    ·rw[EZ h f.1 b];obtain⟨g,l⟩:=Oa f.1;exact KI I 0 g l p h rx b rv hu
    ·exact pY I hu rx p rv r f.2 q u m
def KL(x:Tr)(ts:List Tr):Rs Bool:=if sj x=true/\ts.all yl=true then .ok (ts.any λy=>eqT y x)else .bad
def zo:Tr->Tr->Rs Tr
 |x,.tup ts=>R8 (KL x ts)
 |x,.lst ts=>R8 (KL x ts)
 |x,.bU bE=>match kh x with
  |some k=>.ok (.bl (fc bE k).isSome)
  |none=>.bad
 |.str i,.str j=>.ok (.bl (!(Builtin.Str.occurrences j i 0 j.length 1).isEmpty))
 |_,_=>.bad
def Ob:Tr->Tr->Rs Tr
 |x,.tup ts=>R8 (Ih (KL x ts))
 |x,.lst ts=>R8 (Ih (KL x ts))
 |x,.bU bE=>match kh x with
  |some k=>.ok (.bl (!(fc bE k).isSome))
  |none=>.bad
 |.str i,.str j=>.ok (.bl (!(!(Builtin.Str.occurrences j i 0 j.length 1).isEmpty)))
 |_,_=>.bad
def wK{k:Bool->Prop}(q:Fi X H (KL aB ts) k):sj aB=true/\ts.all yl=true/\k (ts.any λy=>eqT y aB):=by
 unfold KL at q;split at q
 ·rename_i h;exact⟨h.1,h.2,q⟩
 ·exact q.elim
def GF{x y:V}{k:Key}(r:Rep K (cn B H) y (.bU aF))(q:Rep K (cn B H) x aB)(ek:kh aB=some k):∃a,y=.ref a/\∃o,pT H a x o/\o.isSome=(fc aF k).isSome:=by
 cases r with
 |bU h e b=>
  obtain⟨o,g,l⟩:=yk (H:=raw _ _) (h.same bM) e (b.same fL) q.up ek;refine⟨_,rfl,o,g,?_⟩;rcases l with⟨h1,rfl⟩|⟨_,_,h1,rfl,_⟩
  ·rw[h1];rfl
  ·rw[h1];rfl
theorem lF(hu:X.A.units+1<cLine):CT X (compareOp .In) zo:=by
 intro U s Z H x y v u Q I b l ⟨B,tx,ty,hb,r1,r2,q⟩;unfold zo at q;split at q
 ·have f:=wK (Fi.bind q);obtain⟨a,vs,rfl,h,rr⟩:=r2.dX;cases(show u=Value.ref a from l);obtain⟨cw,rv,pl,_⟩:=I.tuple h.up;refine SeqAt.in_tupleAt (eU tx) pl (λw hw=>pY I hu r1.up f.1 b (rr.same fL) f.2.1 rv w (by simpa using hw)) ⟨.bl _,H,I,rfl,?_⟩;rw[show cw.toArray.any (eU tx)=cw.any (eU tx) by simp,ym rr f.2.1 rv];exact f.2.2 _ H (bj.refl H) (.bl _)
 ·have f:=wK (Fi.bind q);obtain⟨a,vs,rfl,h,rr⟩:=r2.lst_inv;cases(show u=Value.ref a from l);obtain⟨cw,rv,pl,_⟩:=I.list (.of (d8 h));refine SeqAt.in_listAt (eU tx) pl.isList (λw hw=>pY I hu r1.up f.1 b (rr.same fL) f.2.1 rv w (by simpa using hw)) ⟨.bl _,H,I,rfl,?_⟩;rw[show cw.toArray.any (eU tx)=cw.any (eU tx) by simp,ym rr f.2.1 rv];exact f.2.2 _ H (bj.refl H) (.bl _)
 ·split at q
  ·rename_i n;obtain⟨a,rfl,g⟩:=GF r2 r1 n;cases(show u=Value.ref a from l);obtain⟨o,g,r⟩:=g;refine aaH hu I g b λs' L=>⟨.bl _,H,L,rfl,?_⟩;rw[r];exact q _ H (bj.refl H) (.bl _)
  ·exact fe q
 ·exact HX U s Z H _ _ v u Q I b l ⟨_,_,r1.str_inv.1,r2.str_inv.1,q _ H (bj.refl H) (.bl _)⟩
 ·exact fe q
theorem rK(hu:X.A.units+1<cLine):CT X (compareOp .NotIn) Ob:=by
 intro U s Z H x y v u Q I b l ⟨B,tx,ty,hb,r1,r2,q⟩;unfold Ob at q;split at q
 ·have f:=wK (Fi.bind (Fi.bind q));obtain⟨a,vs,rfl,h,rr⟩:=r2.dX;cases(show u=Value.ref a from l);obtain⟨cw,rv,pl,_⟩:=I.tuple h.up;refine SeqAt.notIn_tupleAt (eU tx) pl (λw hw=>pY I hu r1.up f.1 b (rr.same fL) f.2.1 rv w (by simpa using hw)) ⟨.bl _,H,I,rfl,?_⟩;rw[show cw.toArray.any (eU tx)=cw.any (eU tx) by simp,ym rr f.2.1 rv];exact f.2.2 _ H (bj.refl H) (.bl _)
 ·have f:=wK (Fi.bind (Fi.bind q));obtain⟨a,vs,rfl,h,rr⟩:=r2.lst_inv;cases(show u=Value.ref a from l);obtain⟨cw,rv,pl,_⟩:=I.list (.of (d8 h));refine SeqAt.notIn_listAt (eU tx) pl.isList (λw hw=>pY I hu r1.up f.1 b (rr.same fL) f.2.1 rv w (by simpa using hw)) ⟨.bl _,H,I,rfl,?_⟩;rw[show cw.toArray.any (eU tx)=cw.any (eU tx) by simp,ym rr f.2.1 rv];exact f.2.2 _ H (bj.refl H) (.bl _)
 ·split at q
  ·rename_i n;obtain⟨a,rfl,g⟩:=GF r2 r1 n;cases(show u=Value.ref a from l);obtain⟨o,g,r⟩:=g;refine NJ hu I g b λs' L=>⟨.bl _,H,L,rfl,?_⟩;rw[r];exact q _ H (bj.refl H) (.bl _)
  ·exact fe q
 ·exact AX U s Z H _ _ v u Q I b l ⟨_,_,r1.str_inv.1,r2.str_inv.1,q _ H (bj.refl H) (.bl _)⟩
 ·exact fe q
noncomputable def l8{α:Type}:Option α->Rs α
 |some a=>.ok a
 |none=>.bad
def jM:Tr->Tr->Rs Tr
 |.tup ts,.int i=>l8 (vi ts i)
 |.lst ts,.int i=>l8 (vi ts i)
 |.str z,.int i=>(l8 (vi z.cps.toList i)).bind λc=>.ok (.str ⟨#[c]⟩)
 |.vR ns,.int i=>(l8 (vi ns i)).bind λn=>.ok (.int n)
 |.bU bE,t=>(l8 (kh t)).bind λk=>l8 (fc bE k)
 |_,_=>.bad
theorem bP.vi {H:Vw}{vs:List V}{i:Int}{t:Tr}(r:bP K H vs ts)(e:L2.vi ts i=some t):∃v,L2.vi vs i=some v/\Rep K H v t:=by
 unfold L2.vi at e⊢;rw[r.length];cases q:M8 ts.length i with
 |none=>rw[q]at e;cases e
 |some j=>
  rw[q]at e;obtain⟨v,b,r1⟩:=r.get (show ts[j]?=some t from e);exact⟨v,b,r1⟩
def gG{X:Cx}{H:Hp}{o:Option ag}{k:ag->Prop}(h:Fi X H (l8 o) k):∃a,o=some a/\k a:=by
 cases o with
 |none=>exact h.elim
 |some a=>exact⟨a,rfl,h⟩
section
variable {b:Expr}
def Oc{β:Type}(f:ag->β)(xs:List ag)(i:Int):L2.vi (xs.map f) i=(L2.vi xs i).map f:=by
 unfold L2.vi;rw[bt];cases M8 xs.length i with
 |none=>rfl
 |some j=>show(xs.map f)[j]?=_;rw[ck];rfl
def Od(c:Nat):(⟨#[c]⟩:Str).length<=cZ:=by show 1<=cZ;decide
def Oe{x y:V}{t:Tr}{k:Key}(r:Rep K (cn B H) x (.bU aF))(r2:Rep K (cn B H) y aB)(ek:kh aB=some k)(q:fc aF k=some t):∃tg w,x=.ref tg/\pT H tg y (some w)/\Rep K (cn B H) w t:=by
 obtain⟨tg,kvs,b,h,e,rr⟩:=r.nO;refine⟨tg,?_⟩;rcases qQ k e rr with⟨h1,_⟩|⟨t',w,h1,h2,g⟩
 ·cases q.symm.trans h1
 ·cases q.symm.trans h1;exact⟨w,b,.inl ⟨kvs,k,h.same bM,nQ r2 ek,h2.symm⟩,g⟩
theorem WH(hu:X.A.units+1<cLine):VX X (rT X jM):=by
 intro value slice U s Z H x y v u Q I l r ⟨B,tx,ty,hb,r1,r2,q⟩ hs;unfold jM at q;split at q
 ·obtain⟨tg,vs,e,h,rr⟩:=r1.dX;obtain⟨t,b,k⟩:=gG q;obtain⟨w,M,L⟩:=rr.vi b;exact RE value slice U s Z H _ _ v u Q I l r ⟨_,_,_,w,e,r2.int_inv,h.up,M,k w H (bj.refl H) L⟩ hs
 ·obtain⟨tg,vs,e,h,rr⟩:=r1.lst_inv;obtain⟨t,b,k⟩:=gG q;obtain⟨w,M,L⟩:=rr.vi b;exact Gb value slice U s Z H _ _ v u Q I l r ⟨_,_,_,w,e,r2.int_inv,.of (d8 h),M,k w H (bj.refl H) L⟩ hs
 ·obtain⟨c,b,k⟩:=gG (Fi.bind q);exact RF value slice U s Z H _ _ v u Q I l r ⟨_,_,c,r1.str_inv.1,r2.int_inv,cC r1.str_inv.2 lP,b,k _ H (bj.refl H) (.str _ (Od c))⟩ hs
 ·obtain⟨n,b,k⟩:=gG (Fi.bind q);obtain⟨tg,e,h⟩:=r1.Gp;exact Gb value slice U s Z H _ _ v u Q I l r ⟨_,_,_,.int n,e,r2.int_inv,bj.seq bM h,by rw[Oc,b];rfl,k _ H (bj.refl H) (.int n)⟩ hs
 ·obtain⟨k,S,qk⟩:=gG (Fi.bind q);obtain⟨t,b,qt⟩:=gG qk;obtain⟨tg,w,rfl,g,L⟩:=Oe r1 r2 S b;cases(show v=Value.ref tg from l);exact tail_any (CH I g) PySem.F.slot_dict_getitem.lookup (Ib hu I g r λw' s' I' rv=>⟨w,H,I',rv,qt w H (bj.refl H) L⟩) hs
 ·exact fe q
def aaT(hu:X.A.units+1<cLine)(ha:PE X tg (tP X F))(hb:PE X b (tP X G))(hs:uk b:=by exact λ_ _=>rfl):PE X (.Subscript tg b pos) (tP X λY=>Kv jM (F Y) (G Y)):=
 (P8 (WH hu) ha hb hs).weak λ_ _ _ q=>uy q
inductive tO(X:Cx)(P:bY->Rs (Option Int))(Z:St)(H:Hp)(Q:Option Int->Hp->Prop):Prop
 |mk (B:fy) (Y:bY):HB B H->cL X.K B H Z Y->(Fi X H (P Y) fun o=>∀H',bj H H'->Q o H')->tO X P Z H Q
def Ci(r:Rs Tr):Rs (Option Int):=r.bind λt=>match t with
 |.int i=>.ok (some i)
 |_=>.bad
theorem Sm:PO X none (tO X λ_=>.ok none):=λU s Z H Q I ⟨B,Y,hb,r,q⟩=>Nz U s Z H Q I (q H (bj.refl H))
theorem Sn(h:PE X e (tP X F)):PO X (some e) (tO X λY=>Ci (F Y)):=λU s Z H Q I ⟨B,Y,hb,r,q⟩=>
 NA h U s Z H Q I ⟨B,Y,hb,r,q.bind.mono λt b v H' s' g=>by
  split at b
  ·exact⟨_,g.int_inv,b H' s'⟩
  ·exact b.elim⟩
def Bi{α:Type}(xs:List α)(lo hi:Option Int):List α:=(xs.drop (HT.iB xs.length 0 lo)).take (HT.iB xs.length xs.length hi - HT.iB xs.length 0 lo)
def bP.cut {H:Vw}{vs:List V}(r:bP K H vs ts)(lo hi:Option Int):bP K H (CD vs lo hi) (Bi ts lo hi):=by
 unfold CD Bi;rw[r.length];exact(r.drop _).take _
def nR(n:Nat)(lo hi:Option Int):Bool:=HT.iB n 0 lo==0&&HT.iB n n hi==n
def slT:Tr->Option Int->Option Int->Rs Tr
 |.tup ts,lo,hi=>if nR ts.length lo hi=true then .bad else .ok (.tup (Bi ts lo hi))
 |.lst ts,lo,hi=>.ok (.lst (Bi ts lo hi))
 |.str z,lo,hi=>if(Txt.slice z lo hi).length<=cZ then .ok (.str (Txt.slice z lo hi))else .bad
 |_,_,_=>.bad
inductive rSl(X:Cx)(x:V)(lo:Option Int)(hi:Option Int)(H:Hp)(Q:VK):Prop
 |mk (B:fy) (t:Tr):HB B H->Rep X.K (cn B H) x t->(Fi X H (slT t lo hi) fun t=>∀v H',bj H H'->Rep X.K (cn B H') v t->Q v H')->rSl X x lo hi H Q
theorem aaU:UY X (rSl X):=by
 intro U s Z H x v l n lo hi sl Q I L hs pl pu ⟨B,t,hb,r,q⟩;cases r with
 |tup h b=>
  rename_i tg vs ts;have g:Fi X H (if nR ts.length lo hi=true then Rs.bad else .ok (Tr.tup (Bi ts lo hi))) _:=q;by_cases hw:nR ts.length lo hi=true
  ·rw[aX hw]at g;exact fe g
  ·rw[ba hw]at g;refine RC U s Z H _ v l n lo hi sl Q I L hs pl pu ⟨_,_,rfl,h.up,λz=>hw ?_,λp hp=>g _ _ (bj.upd hp) (.Sf hb hp (b.cut lo hi))⟩;rw[b.length]at z;unfold nR;rw[z.1,z.2,bR,bR];rfl
 |lst h b=>exact ND U s Z H _ v l n lo hi sl Q I L hs pl pu ⟨_,_,rfl,.of (d8 h),λp hp=>q _ _ (bj.upd hp) (.Bf hb hp (b.cut lo hi))⟩
 |str z hz=>
  obtain⟨M,k⟩:=iq q;exact R5 U s Z H _ v l n lo hi sl Q I L hs pl pu ⟨z,rfl,cC hz lP,k _ H (bj.refl H) (.str _ M)⟩
 |_=>exact fe q
variable {P1 P2:bY->Rs (Option Int)}{lo hi:Option Expr}{p2:Pos}
noncomputable def Of:List Tr->Rs Tr
 |[.str z]=>.ok (.int (z.length:Int))
 |[.tup ts]=>.ok (.int (ts.length:Int))
 |[.lst ts]=>.ok (.int (ts.length:Int))
 |[.vR ns]=>.ok (.int (ns.length:Int))
 |_=>.bad
theorem WI:lQ X (.builtin "len") Of:=by
 intro U s Z H xs us Q I b ⟨B,ts,hb,r,q⟩;unfold Of at q;split at q
 ·obtain⟨x,e,r⟩:=gm r;exact uh U s Z H _ us Q I b ⟨_,_,e,by rw[r.str_inv.1];exact⟨cC r.str_inv.2 lP,rfl⟩,q _ H (bj.refl H) (.int _)⟩
 ·obtain⟨x,e,r⟩:=gm r;obtain⟨tg,vs,rfl,h,rr⟩:=r.dX;exact uh U s Z H _ us Q I b ⟨_,_,e,.inr ⟨_,h.up,rfl⟩,q _ H (bj.refl H) (by rw[rr.length];exact .int _)⟩
 ·obtain⟨x,e,r⟩:=gm r;obtain⟨tg,vs,rfl,h,rr⟩:=r.lst_inv;exact uh U s Z H _ us Q I b ⟨_,_,e,.inl ⟨_,.of (d8 h),rfl⟩,q _ H (bj.refl H) (by rw[rr.length];exact .int _)⟩
 ·obtain⟨x,e,r⟩:=gm r;obtain⟨tg,rfl,h⟩:=r.Gp;exact uh U s Z H _ us Q I b ⟨_,_,e,.inl ⟨_,bj.seq bM h,rfl⟩,q _ H (bj.refl H) (by rw[bt];exact .int _)⟩
 ·exact fe q
noncomputable def Qg:List Tr->Rs Tr
 |[.tup ts]=>.ok (.lst ts)
 |[.lst ts]=>.ok (.lst ts)
 |_=>.bad
noncomputable def E1:List Tr->Rs Tr
 |[.tup ts]=>.ok (.tup ts)
 |[.lst ts]=>.ok (.tup ts)
 |_=>.bad
theorem hJ:lQ X (.type "tuple") E1:=by
 intro U s Z H xs us Q I b ⟨B,ts,hb,r,q⟩;unfold E1 at q;split at q
 ·obtain⟨x,e,r⟩:=gm r;obtain⟨tg,vs,rfl,h,rr⟩:=r.dX;exact rG U s Z H _ us Q I b ⟨_,_,e,.inr ⟨h.up,q _ H (bj.refl H) (.tup h rr)⟩⟩
 ·obtain⟨x,e,r⟩:=gm r;obtain⟨tg,vs,rfl,h,rr⟩:=r.lst_inv;exact rG U s Z H _ us Q I b ⟨_,_,e,.inl ⟨.of (d8 h),λp hp=>q _ _ (bj.upd hp) (.Sf hb hp rr)⟩⟩
 ·exact q.elim
noncomputable def yn:Tr->String
 |.cu=>"NoneType"
 |.bl _=>"bool"
 |.int _=>"int"
 |.str _=>"str"
 |.ty _=>"type"
 |.tup _=>"tuple"
 |.lst _=>"list"
 |.vR _=>"list"
 |.bU _=>"dict"
 |.at _=>"object"
 |.vS _=>"dict"
 |.ob _ _=>"object"
 |.zU _=>"object"
def ZU(t:Tr)(c:String):Bool:=yn t==c||(yn t=="bool"&&c=="int")
noncomputable def kinds:List String:=["int","str","bool","tuple","list","dict"]
def GG(K:Frag):∀tg∈["NoneType","bool","int","str","tuple","list","dict"],∀c∈kinds,PySem.W.kitOne K (.type tg) (.type c)=some (tg==c||(tg=="bool"&&c=="int")):=by
 intro tg b c g;simp only[kinds,bI,cJ,cK]at b g;rcases b with rfl|rfl|rfl|rfl|rfl|rfl|rfl<;>rcases g with rfl|rfl|rfl|rfl|rfl|rfl<;>first|rfl|(unfold PySem.W.kitOne;exact aX (by decide))
def WJ:Tr->Bool
 |.ty _|.at _|.ob _ _|.zU _=>true
 |_=>false
def So:List Tr->Rs Tr
 |[t,.ty c]=>if WJ t=false/\kinds.contains c=true then .ok (.bl (ZU t c))else .bad
 |_=>.bad
theorem Og{rJ:Addr->Option Nat}{x:V}(I:Inv X U Z H s)(r:Rep X.K (⟨H,rJ⟩:Vw) x aB)(h0:WJ aB=false)(q:RelV x af)(hc:ax∈kinds)(h:∀tk,Q (.bool (ZU aB ax)) {s with toks:=tk}):
  wpAny (model X.prog X.w) A (call (.builtin "isinstance") [af,.type ax]) Q E s:=by
 have g:=λtg M=>GG X.K tg M ax hc;cases r with
 |cu=>exact mW I q .cu (g _ (by decide)) h
 |bl b=>exact mW I q (.bl b) (g _ (by decide)) h
 |int i=>exact mW I q (.int i) (g _ (by decide)) h
 |str z hz=>exact mW I q (.str z) (g _ (by decide)) h
 |ty n=>cases h0
 |«at» h=>cases h0
 |ob h e L=>cases h0
 |zU h ax=>cases h0
 |@vS tg kvs bE l e L=>
  cases(show af=Value.ref tg from q);obtain⟨_,_,xs,_,o,es,ep,h1,h2,_⟩:=(show cY X.prog X.w H s.heap tg (.dT kvs)from I.cX tg _ l);exact fm tH I.lZ ⟨o,h1,h2.1⟩ (g "dict" (by decide)) (λz=>nomatch z) h
 |@tup tg vs ts l L=>
  cases(show af=Value.ref tg from q);obtain⟨cw,rv,⟨o,h1,h2,_⟩,_⟩:=I.tuple l;exact fm PySem.W.kitx_tuple I.lZ ⟨o,h1,h2⟩ (g "tuple" (by decide)) (λz=>nomatch z) h
 |lst l L=>exact mW I q (.lst l) (g _ (by decide)) h
 |@vR tg ns l=>
  cases(show af=Value.ref tg from q);obtain⟨cw,rv,⟨o,n,h1,h2,_⟩,_⟩:=I.list l;exact fm xo I.lZ ⟨o,h1,h2⟩ (g "list" (by decide)) (λz=>nomatch z) h
 |@bU tg kvs bE l e L=>
  cases(show af=Value.ref tg from q);obtain⟨_,_,vs,_,p⟩:=(show cY X.prog X.w H s.heap tg (.dK kvs)from l.ok I.cX);obtain⟨o,es,ep,h1,h2,_⟩:=p;exact fm tH I.lZ ⟨o,h1,h2.1⟩ (g "dict" (by decide)) (λz=>nomatch z) h
theorem z6:lQ X (.builtin "isinstance") So:=by
 intro U s Z H xs us Q I b ⟨B,ts,hb,r,q⟩;unfold So at q;split at q
 ·obtain⟨⟨h0,h1⟩,k⟩:=iq q;obtain⟨x,y,rfl,r1,r2⟩:=zW r;obtain⟨v,u,rfl,v1,v2⟩:=vals2 b;cases r2;cases v2;exact Og I r1.up h0 v1 (by simpa using h1) λg=>⟨.bl _,H,I.tok _,rfl,k _ H (bj.refl H) (.bl _)⟩
 ·exact q.elim
variable {name:Str}{dH:Pos}{id:String}{h:Str->List Tr->Rs Tr}
end
def Sq:Tr->Rs Tr
 |.int i=>.ok (.int (-i))
 |_=>.bad
theorem WK(ha:PE X e (tP X F)):PE X (.UnaryOp .USub e pos) (tP X λY=>(F Y).bind Sq):=
 (VI Rq ha).weak λZ H Q ⟨B,Y,hb,r,q⟩=>⟨B,Y,hb,r,q.bind.mono λt b v H' s' g=>by
  cases g with
  |int i=>exact⟨i,rfl,b _ H' s' (.int _)⟩
  |_=>exact fe b⟩
def dR(q:di i A):A.units+40<cLine:=by have:=q.units;omega
def sk(n m:Nat)(G:bY->Rs Out)(ts:List Tr):Rs Tr:=if ts.length=n then dG (G (startT m ts))else .bad
def Oi{n:Nat}{G:bY->Rs Out}(h:sk n i G ts=.ok aB):ts.length=n:=by
 unfold sk at h;split at h
 ·assumption
 ·cases h
def Sr{G:bY->Rs Out}{t:Tr}(h:sk i ay G ts=.ok t):dG (G (startT ay ts))=.ok t:=by
 unfold sk at h;split at h
 ·exact h
 ·cases h
noncomputable def kT(bE:List (Key×Tr))(k:Key)(t:Tr):List (Key×Tr):=
 if(bE.any λb=>decide (b.1=k))=true then bE.map (λb=>if b.1=k then(b.1,t)else b)else bE++[(k,t)]
def l9(bE more:List (Key×Tr)):List (Key×Tr):=more.foldl (λacc b=>kT acc b.1 b.2) bE
structure d5(K:Frag)(H:Vw)(kvs:List (Key×V))(bE:List (Key×Tr)):Prop where
 keys:kvs.map (·.1)=bE.map (·.1)
 vals:bP K H (kvs.map (·.2)) (bE.map (·.2))
section
variable {H H':Vw}
theorem d5.nil:d5 K H [] []:=⟨rfl,.nil⟩
theorem d5.same {bE:List (Key×Tr)}(s:fk H H')(h:d5 K H kvs bE):d5 K H' kvs bE:=⟨h.keys,h.vals.same s⟩
theorem d5.cons {k:Key}{v:V}{t:Tr}{bE:List (Key×Tr)}(r:Rep K H v t)(h:d5 K H kvs bE):d5 K H ((k,v)::kvs) ((k,t)::bE):=⟨by rw[bB,bB,h.keys],.cons r h.vals⟩
def d5.inv {k:Key}{v:V}{bE:List (Key×Tr)}(h:d5 K H ((k,v)::kvs) bE):∃t r,bE=(k,t)::r/\Rep K H v t/\d5 K H kvs r:=by
 obtain⟨e,r⟩:=h
 match bE,e,r with
 |(k2,t)::c8,e,r=>
  rw[bB,bB]at e;injection e with b g
  have l:k=k2:=b;subst l;cases r with
  |cons h1 h2=>exact⟨t,c8,rfl,h1,g,h2⟩
theorem d5.any (k:Key):∀{kvs:List (Key×V)} {bE:List (Key×Tr)},d5 K H kvs bE->(kvs.any λq=>decide (q.1=k))=bE.any λq=>decide (q.1=k)
 |[],bE,h=>by
  have e:=h.keys;cases bE with
  |nil=>rfl
  |cons a b=>cases e
 |(j,v)::kvs,bE,h=>by
  obtain⟨t,r,rfl,_,h2⟩:=h.inv;rw[jj,jj,d5.any k h2]
theorem d5.map (k:Key){y:V}{u:Tr}(ry:Rep K H y u):∀{kvs:List (Key×V)} {bE:List (Key×Tr)},d5 K H kvs bE->d5 K H (kvs.map λq=>if q.1=k then(q.1,y)else q) (bE.map λq=>if q.1=k then(q.1,u)else q)
 |[],bE,h=>by
  have e:=h.keys;cases bE with
  |nil=>exact .nil
  |cons a b=>cases e
 |(j,v)::kvs,bE,h=>by
  obtain⟨t,r,rfl,h1,h2⟩:=h.inv;rw[bB,bB];by_cases e:j=k
  ·rw[aX (show(j,v).1=k from e),aX (show(j,t).1=k from e)];exact .cons ry (d5.map k ry h2)
  ·rw[ba (show¬(j,v).1=k from e),ba (show¬(j,t).1=k from e)];exact .cons h1 (d5.map k ry h2)
theorem d5.snoc (k:Key){y:V}{u:Tr}(q:Rep K H y u):∀{kvs:List (Key×V)} {bE:List (Key×Tr)},d5 K H kvs bE->d5 K H (kvs++[(k,y)]) (bE++[(k,u)])
 |[],bE,h=>by
  have e:=h.keys;cases bE with
  |nil=>exact .cons q .nil
  |cons a b=>cases e
 |(j,v)::kvs,bE,h=>by
  obtain⟨t,r,rfl,h1,h2⟩:=h.inv;exact .cons h1 (d5.snoc k q h2)
def d5.put (k:Key){y:V}{u:Tr}(q:Rep K H y u){bE:List (Key×Tr)}(h:d5 K H kvs bE):d5 K H (putK kvs k y) (kT bE k u):=by
 unfold putK kT;rw[h.any k];by_cases e:(bE.any λb=>decide (b.1=k))=true
 ·rw[aX e,aX e];exact h.map k q
 ·rw[ba e,ba e];exact h.snoc k q
theorem d5.merge:∀{more:List (Key×V)} {E2:List (Key×Tr)} {kvs:List (Key×V)} {bE:List (Key×Tr)},d5 K H more E2->d5 K H kvs bE->d5 K H (i8 kvs more) (l9 bE E2)
 |[],E2,kvs,bE,h,q=>by
  have e:=h.keys;cases E2 with
  |nil=>exact q
  |cons a b=>cases e
 |(k,v)::more,E2,kvs,bE,h,q=>by
  obtain⟨t,r,rfl,h1,h2⟩:=h.inv;exact d5.merge (more:=more) (E2:=r) h2 (q.put k h1)
end
def cL.bar {Y:bY}{p:Addr}{o:HO}(h:cL K B H Z Y)(hp:H p=none):cL K (m3 B p) (upd H p o) Z Y:=by
 refine⟨h.len,λi t e=>?_,λi ts e=>?_,h.ap⟩
 ·obtain⟨v,b,r⟩:=h.sh i t e;exact⟨v,b,r.same (kS hp)⟩
 ·obtain⟨D,ys,b,l,g,r⟩:=h.ow i ts e;exact⟨D,ys,b,Gx.hd _ l,by rw[bo (bT g hp)];exact g,r.same (kS hp)⟩
def Qh(k v:Rs Tr)(r:Rs (List (Tr×Tr))):Rs (List (Tr×Tr)):=k.bind λx=>v.bind λy=>r.bind λps=>.ok ((x,y)::ps)
def yo:List (Tr×Tr)->Rs (List (Key×Tr))
 |[]=>.ok []
 |(k,t)::r=>(l8 (kh k)).bind λk=>(yo r).bind λl=>.ok ((k,t)::l)
def WL(r:Rs (List (Tr×Tr))):Rs Tr:=r.bind λps=>if ps.length<=15 then(yo ps).bind λbE=>.ok (.bU (l9 [] bE))else .bad
inductive yp(K:Frag)(H:Vw):List (V×V)->List (Tr×Tr)->Prop where
 |nil:yp K H [] []
 |cons {x y:V} {t u:Tr} {ps:List (V×V)} {qs:List (Tr×Tr)} (h1:Rep K H x t) (h2:Rep K H y u) (r:yp K H ps qs):yp K H ((x,y)::ps) ((t,u)::qs)
theorem yp.length {H:Vw}{ps:List (V×V)}{qs:List (Tr×Tr)}(h:yp K H ps qs):ps.length=qs.length:=by
 induction h with
 |nil=>rfl
 |cons _ _ _ b=>rw[dw,dw,b]
def z7{X:Cx}{H:Vw}{H0:Hp}{k:List (Key×Tr)->Prop}{ps:List (V×V)}{qs:List (Tr×Tr)}(h:yp K H ps qs):Fi X H0 (yo qs) k->∃kvs bE,k bE/\ps=kvs.map (λkv=>(kV kv.1,kv.2))/\d5 K H kvs bE:=by
 induction h generalizing k with
 |nil=>exact λq=>⟨[],[],q,rfl,.nil⟩
 |cons b h2 r g=>
  intro q;obtain⟨key,l,n⟩:=gG (Fi.bind q);obtain⟨kvs,bE,k1,I,L⟩:=g (Fi.bind n);have e:=nQ b l;subst e;exact⟨(key,_)::kvs,_,k1,by rw[bB,I],.cons h2 L⟩
section
variable {a f:Expr}{dH:Pos}{E:bY->Rs Tr}{keys:List (Option Expr)}{P:bY->Rs (List (Tr×Tr))}
structure QP(X:Cx)(pos:Pos)(keys:List (Option Expr))(es:List Expr)(P:bY->Rs (List (Tr×Tr))):Prop where
 h:∃A8,UZ X pos keys es A8/\∀Z H Q,(∃B Y,HB B H/\cL X.K B H Z Y/\Fi X H (P Y) fun Ss=>∀Oj H',bj H H'->yp X.K (cn B H') Oj Ss->Q Oj H')->xX A8 Z H Q
theorem Qi:QP X pos [] [] λ_=>.ok []:=⟨[],Gh,λZ H Q ⟨B,Y,hb,r,q⟩=>q [] H (bj.refl H) .nil⟩
theorem yp.same {H H':Vw}(s:fk H H'){ps:List (V×V)}{qs:List (Tr×Tr)}(h:yp K H ps qs):yp K H' ps qs:=by
 induction h with
 |nil=>exact .nil
 |cons b h2 r g=>exact .cons (b.same s) (h2.same s) g
theorem Ol(hk:PE X e (tP X F))(hv:PE X o (tP X G))(hr:QP X pos keys es P):QP X pos (some e::keys) (o::es) λY=>Qh (F Y) (G Y) (P Y):=by
 obtain⟨S,h1,h2⟩:=hr.h;refine⟨_,CJ hk hv h1,λZ H Q ⟨B,Y,hb,r,q⟩=>?_⟩;refine⟨B,Y,hb,r,q.bind.mono λx b u H1 s1 g=>⟨B,Y,hb.same s1,r.same s1,(b.bind.same s1).mono λy l w H2 s2 n=>h2 _ _ _ ⟨B,Y,hb.same (s1.trans s2),r.same (s1.trans s2),(l.bind.same (s1.trans s2)).mono λps I Oj L s3 M=>?_⟩⟩⟩;exact I _ L ((s1.trans s2).trans s3) (.cons (g.same (bK (s2.trans s3))) (n.same (bK s3)) M)
theorem Su(h:QP X pos keys es P)(ve:keys.all (·.isSome)=true:=by rfl) (hl:keys.length=es.length:=by rfl) (h0:keys.isEmpty=false:=by rfl) (NN:keys.length<=15:=by decide):PE X (.Dict keys es pos) (tP X λY=>WL (P Y)):=by
 obtain⟨A8,h1,h2⟩:=h.h;refine(Gi h1 ve hl (λz=>by rw[z]at h0;cases h0) NN).weak λZ H Q ⟨B,Y,hb,r,q⟩ p hp=>?_
 refine h2 Z _ _ ⟨m3 B p,Y,Gw hb hp,r.bar hp,(q.bind.same (bj.upd hp)).mono λL b Oj H2 s2 r2=>?_⟩;by_cases hz:L.length<=15
 ·rw[aX hz]at b;obtain⟨kvs,bE,k1,l,M⟩:=z7 r2 (Fi.bind b);refine⟨s2 _ _ bO,kvs,l,?_,?_⟩
  ·have n:=dh List.length l;rw[bt,r2.length]at n;rw[<-n];exact hz
  ·have g:=hb.free hp;have I:=(d5.merge M d5.nil);refine k1 _ _ (((bj.upd hp).trans s2).CL hp) (.bU (.inl (by rw[gS g];exact bO)) I.keys (I.vals.same ?_));have S:cn (m3 B p) (upd H2 p (.dK (i8 [] kvs)))=cn (m3 B p) H2:=uB;rw[<-S];exact C0
 ·rw[ba hz]at b;exact fe b
def KN(a b:Rs Tr):Rs Tr:=a.bind λx=>match x with
 |.bU bE=>b.bind λy=>(l8 (kh y)).bind λk=>.ok ((fc bE k).getD .cu)
 |_=>.bad
def z8(a b c:Rs Tr):Rs Tr:=a.bind λx=>match x with
 |.bU bE=>b.bind λy=>c.bind λz=>(l8 (kh y)).bind λk=>.ok ((fc bE k).getD z)
 |_=>.bad
def Qj(hb:isCall o=false)(cH:bC [e]=true)(q:(b8.endLine==dH.line)=true):M1 X o x b8 e dH:=
 ⟨gE hb,by rw[jB cH];rfl,q,by rw[bL _ _ (bp cH).1,starEach];rfl⟩
def Qk(hb:isCall o=false)(cH:bC [e,f]=true)(q:(b8.endLine==dH.line)=true):M2 X o x b8 e f dH:=
 ⟨gE hb,by rw[jB cH];rfl,q,by rw[bL _ _ (bp cH).1,bL _ _ (bp (bp cH).2).1,starEach];rfl⟩
def GH{y:V}{ov:Option V}(g:pT (cn B H) ar y ov):pT H ar y ov:=by
 rcases g with⟨kvs,k,l,n,r⟩|⟨kvs,k,b,l,n,r,I⟩
 ·exact .inl ⟨kvs,k,l.same bM,n,r⟩
 ·exact .inr ⟨kvs,k,b,l.same bM,n,bM _ _ r,I⟩
theorem Sv(hu:X.A.units+1<cLine)(ho:PE X o (tP X F))(he:PE X e (tP X G))(hb:isCall o=false:=by rfl) (cH:bC [e]=true:=by rfl) (hl:(b8.endLine==dH.line)=true:=by rfl):PE X (.Call (.Attribute o "get" b8) [e] [] dH) (tP X λY=>KN (F Y) (G Y)):=
 (Kk hu ho he (Qj hb cH hl)).weak λZ H Q ⟨B,Y,hb,r,q⟩=>⟨B,Y,hb,r,q.bind.mono λx b v H1 s1 l=>by
  split at b
  ·obtain⟨_,_,rfl,h,e,rr⟩:=l.nO;refine⟨_,rfl,.inl ⟨_,h.same bM⟩,B,Y,hb.same s1,r.same s1,(Fi.bind b|>.same s1).mono λy n w H2 s2 I=>?_⟩;obtain⟨k,L,M⟩:=gG (Fi.bind n);obtain⟨S,g,ho⟩:=yk (Rd.same (bK s2).h h) e (rr.same (bK s2)) I L;refine⟨S,GH g,M _ H2 (s1.trans s2) ?_⟩;rcases ho with⟨h1,rfl⟩|⟨t,w',h1,rfl,h3⟩
   ·rw[h1];exact .cu
   ·rw[h1];exact h3
  ·exact b.elim⟩
theorem Sw(hu:X.A.units+1<cLine)(ho:PE X o (tP X F))(he:PE X e (tP X G))(hf:PE X f (tP X E))(hb:isCall o=false:=by rfl) (cH:bC [e,f]=true:=by rfl) (hl:(b8.endLine==dH.line)=true:=by rfl):PE X (.Call (.Attribute o "get" b8) [e,f] [] dH) (tP X λY=>z8 (F Y) (G Y) (E Y)):=
 (Kl hu ho he hf (Qk hb cH hl)).weak λZ H Q ⟨B,Y,hb,r,q⟩=>⟨B,Y,hb,r,q.bind.mono λx b v H1 s1 l=>by
  split at b
  ·obtain⟨_,_,rfl,h,e,rr⟩:=l.nO;refine⟨_,rfl,.inl ⟨_,h.same bM⟩,B,Y,hb.same s1,r.same s1,(Fi.bind b|>.same s1).mono λy n w H2 s2 I=>⟨B,Y,hb.same (s1.trans s2),r.same (s1.trans s2),(Fi.bind n|>.same (s1.trans s2)).mono λz L w3 M s3 S=>?_⟩⟩;obtain⟨k,ek,qk⟩:=gG (Fi.bind L);obtain⟨ov,g,ho⟩:=yk (Rd.same (bK (s2.trans s3)).h h) e (rr.same (bK (s2.trans s3))) (I.same (bK s3)) ek;refine⟨ov,GH g,qk _ M ((s1.trans s2).trans s3) ?_⟩;rcases ho with⟨h1,rfl⟩|⟨t,w',h1,rfl,h3⟩
   ·rw[h1];exact S
   ·rw[h1];exact h3
  ·exact b.elim⟩
def Bj(K:Frag)(w:World)(mg:Str->Option Value)(x:Str)(bE:List (Str×Tr)):Prop:=
 ∃a kvs,mg x=some (.ref a)/\CN K w a kvs/\∀z,(valueAt kvs z=none/\bE.lookup z=none)\/∃u v t,valueAt kvs z=some u/\RelV v u/\bE.lookup z=some t/\∀H,Rep K H v t
def Sx(bE:List (Str×Tr)):Tr->Rs Tr
 |.str z=>l8 (bE.lookup z)
 |_=>.bad
variable {bE:List (Str×Tr)}
theorem WM(g:Bj X.K X.w X.mg x bE)(ha:PE X a (tP X F))(hg:Gl X x:=by rfl) (hd:Db x:=by decide) (hs:NK a:=by exact λ_ _=>rfl):PE X (.Subscript (.Name x p) a pos) (tP X λY=>(F Y).bind (Sx bE)):=by
 obtain⟨ad,kvs,hm,D,hz⟩:=g;refine(Kt (AW (v:=.ref ad) hg hm rfl hd) ha hs).weak λZ H Q ⟨B,Y,hb,r,q⟩=>?_
 refine⟨B,Y,hb,r,q.bind.mono λt b v H1 s1 r1=>?_⟩;unfold Sx at b;split at b
 ·rename_i z;obtain⟨t,l,k⟩:=gG b;rcases hz z with⟨h1,h2⟩|⟨u,v,t',h1,n,h2,I⟩
  ·cases l.symm.trans h2
  ·cases l.symm.trans h2;exact⟨ad,z,kvs,u,v,rfl,r1.str_inv.1,D,h1,n,k v H1 s1 (I _)⟩
 ·exact b.elim
def Iu:List Tr->Rs (List Bool)
 |[]=>.ok []
 |.bl b::ts=>(Iu ts).bind λzs=>.ok (b::zs)
 |_=>.bad
theorem GI{H:Vw}{H0:Hp}{k:List Bool->Prop}:∀{ts:List Tr} {vs:List V},bP K H vs ts->Fi X H0 (Iu ts) k->∃bs,k bs/\vs=bs.map V.bl
 |[],_,r,q=>by cases r;exact⟨[],q,rfl⟩
 |t::ts,_,r,q=>by
  cases r with
  |cons h r=>
   cases h with
   |bl b=>
    obtain⟨bs,k1,e⟩:=GI (k:=λzs=>k (b::zs)) r (Fi.bind q);exact⟨b::bs,k1,by rw[e];rfl⟩
   |_=>exact fe q
def Om:List Tr->Rs Tr
 |[.lst ts]=>(Iu ts).bind λbs=>.ok (.bl (bs.all id))
 |_=>.bad
theorem WN(hc:X.calm=true):lQ X (.builtin "all") Om:=by
 intro U s Z H xs us Q I b ⟨B,ts,hb,r,q⟩;unfold Om at q;split at q
 ·obtain⟨x,rfl,h⟩:=gm r;obtain⟨a,vs,rfl,g,rr⟩:=h.lst_inv;obtain⟨bs,k,rfl⟩:=GI rr (Fi.bind q);exact Ks hc U s Z H _ us Q I b ⟨_,bs,rfl,.of (d8 g),k _ H (bj.refl H) (.bl _)⟩
 ·exact fe q
end
inductive E3(K:Frag)(w:World):List DictEntry->List (Str×Value)->List (Str×Tr)->Prop
 |nil:E3 K w [] [] []
 |cons {z:Str} {t:Tok} {v:V} {u:Value} {tr:Tr} {es:List DictEntry} {kvs:List (Str×Value)} {bE:List (Str×Tr)}:RelV v u->(∀H,Rep K H v tr)->E3 K w es kvs bE->
   E3 K w (⟨PyData.keyHash w.params z,.str z t,u⟩::es) ((z,u)::kvs) ((z,tr)::bE)
variable {es:List DictEntry}{kvs:List (Str×Value)}{bE:List (Str×Tr)}
theorem E3.keys (prog:Program)(h:E3 K w es kvs bE):∀e∈es,∃k,(PySem.strKind prog w).is k e.key=true/\e.hash=(PySem.strKind prog w).hash k:=by
 induction h with
 |nil=>intro e he;cases he
 |@cons z t v u g es kvs bE _ _ _ b=>
  intro e he;rcases bI.mp he with rfl|he
  ·exact⟨z,by simp[PySem.strKind,Value.isStrOf],rfl⟩
  ·exact b e he
theorem E3.pairs (prog:Program)(h:E3 K w es kvs bE):Pairs (PySem.strKind prog w) es kvs:=by
 induction h with
 |nil=>exact .nil
 |cons _ _ _ b=>exact .cons (by simp[PySem.strKind,Value.isStrOf]) rfl b
theorem E3.at (h:E3 K w es kvs bE)(y:Str):(valueAt kvs y=none/\bE.lookup y=none)\/∃u v t,valueAt kvs y=some u/\RelV v u/\bE.lookup y=some t/\∀H,Rep K H v t:=by
 induction h with
 |nil=>exact .inl ⟨rfl,rfl⟩
 |@cons z t v u tr es kvs bE b hp _ g=>
  by_cases e:z=y
  ·subst e;exact .inr ⟨u,v,tr,by simp[valueAt],b,by simp[List.lookup],hp⟩
  ·have l:valueAt ((z,u)::kvs) y=valueAt kvs y:=by simp[valueAt,e]
   have n:List.lookup y ((z,tr)::bE)=bE.lookup y:=by
    have:(y==z)=false:=j6.mpr λk=>e k.symm;simp[List.lookup,this]
   rw[l,n];exact g
def E3.gd {ep:Nat}(h:E3 K w es kvs bE)(hm:mg x=some (.ref a))(q:K.lookup a=some ⟨.type "dict",none,.dict es.toArray ep,#[]⟩) (hs:(a==sysModules)=false) (hn:(kvs.map (·.1)).Nodup):Bj K w mg x bE:=
 ⟨a,kvs,hm,⟨hs,_,_,_,q,⟨rfl,rfl,rfl⟩,rfl,λprog=>⟨λe he=>h.keys prog e (by simpa using he),h.pairs prog,hn⟩⟩,h.at⟩
inductive Ao where
 |lst (ts:List Tr)|bU (bE:List (Key×Tr))|ins (x:Str) (fs:List (Str×Tr))|vS (bE:List (List Key×Tr))|Eo (x:Str)
abbrev Ab:=List Ao
def sq(K:Frag)(B:fy)(H:Hp)(a:Addr):Ao->Prop
 |.lst ts=>B.hd a=true/\∃vs,H a=some (.lst vs)/\bP K (cn B H) vs ts
 |.bU bE=>B.hd a=true/\∃kvs,H a=some (.dK kvs)/\d5 K (cn B H) kvs bE
 |.vS bE=>B.hd a=true/\∃kvs,H a=some (.dT kvs)/\kvs.map (·.1)=bE.map (·.1)/\bP K (cn B H) (kvs.map (·.2)) (bE.map (·.2))
 |.ins x fs=>B.hd a=true/\∃dx b,H a=some (.ins (clsAt K x) dx b)/\H dx=some (.own a)/\B.ix dx=none/\b.map (·.1)=fs.map (·.1)/\bP K (cn B H) (b.map (·.2)) (fs.map (·.2))
 |.Eo x=>B.hd a=true/\∃g:Obj,H a=some (.ext λh=>h.get? a=some g)/\g.cls=.ref (clsAt K x)
structure HA(K:Frag)(B:fy)(A:Ab)(H:Hp):Prop where
 hb:HB B H
 ob:∀i o,A[i]?=some o->∃a,B.ix a=some i/\sq K B H a o
 inj:∀a b i,B.ix a=some i->B.ix b=some i->a=b
 lt:∀a i,B.ix a=some i->i<A.length
structure Grows(B:fy)(H:Hp)(B':fy)(H':Hp):Prop where
 kE:fk (cn B H) (cn B' H')
 kp:∀b o,B.ix b=none->H b=some o->H' b=some o
 hd:∀b,B.ix b=none->B.hd b=true->B'.hd b=true
 nw:∀b i,B'.ix b=some i->B.ix b=none->H b=none
section
variable {B' B1 B2:fy}{H' H2:Hp}{A:Ab}
theorem sq.same {o:Ao}(h:sq K B H a o)(s:bj H H'):sq K B H' a o:=by
 cases o with
 |lst ts=>obtain⟨h0,vs,h1,h2⟩:=h;exact⟨h0,vs,s _ _ h1,h2.same (bK s)⟩
 |bU bE=>obtain⟨h0,vs,h1,h2⟩:=h;exact⟨h0,vs,s _ _ h1,h2.same (bK s)⟩
 |vS bE=>obtain⟨h0,vs,h1,h2,b⟩:=h;exact⟨h0,vs,s _ _ h1,h2,b.same (bK s)⟩
 |Eo x=>obtain⟨h0,oe,h1,h2⟩:=h;exact⟨h0,oe,s _ _ h1,h2⟩
 |ins c fs=>obtain⟨h0,dx,il,h1,h2,b,g,l⟩:=h;exact⟨h0,dx,il,s _ _ h1,s _ _ h2,b,g,l.same (bK s)⟩
theorem sq.hd {o:Ao}(h:sq K B H a o):B.hd a=true:=by cases o<;>exact h.1
def sq.mem {o:Ao}(h:sq K B H a o):∃x,H a=some x/\(∀vs,x≠ .tup vs)/\∀q u,x≠ .lD q u:=by
 cases o with
 |lst ts=>obtain⟨h0,vs,h1,h2⟩:=h;exact⟨_,h1,(λ_ e=>by cases e),(λ_ _ e=>by cases e)⟩
 |bU bE=>obtain⟨h0,vs,h1,h2⟩:=h;exact⟨_,h1,(λ_ e=>by cases e),(λ_ _ e=>by cases e)⟩
 |vS bE=>obtain⟨h0,vs,h1,h2⟩:=h;exact⟨_,h1,(λ_ e=>by cases e),(λ_ _ e=>by cases e)⟩
 |Eo x=>obtain⟨h0,oe,h1,h2⟩:=h;exact⟨_,h1,(λ_ e=>by cases e),(λ_ _ e=>by cases e)⟩
 |ins c fs=>obtain⟨h0,dx,il,h1,h2⟩:=h;exact⟨_,h1,(λ_ e=>by cases e),(λ_ _ e=>by cases e)⟩
theorem HA.same (h:HA K B A H)(s:bj H H'):HA K B A H':=
 ⟨h.hb.same s,λi o e=>by obtain⟨a,h1,h2⟩:=h.ob i o e;exact⟨a,h1,h2.same s⟩,h.inj,h.lt⟩
def HA.get (h:HA K B A H){i:Nat}{o:Ao}(e:B.ix a=some i)(q:A[i]?=some o):sq K B H a o:=by
 obtain⟨b,h1,h2⟩:=h.ob i o q;rw[h.inj a b i e h1];exact h2
def HA.ex (h:HA K B A H){i:Nat}(e:B.ix a=some i):∃o,A[i]?=some o/\sq K B H a o:=by
 have l:=h.lt a i e;exact⟨A[i],b_ l,h.get e (b_ l)⟩
def HA.free (h:HA K B A H){p:Addr}(hp:H p=none):B.ix p=none:=by
 cases e:B.ix p with
 |none=>rfl
 |some i=>
  obtain⟨o,_,q⟩:=h.ex e;obtain⟨x,b,_⟩:=q.mem;rw[hp]at b;cases b
def Grows.of (s:bj H H'):Grows B H B H':=⟨bK s,λb o _ e=>s b o e,λ_ _ e=>e,λb i e n=>by rw[n]at e;cases e⟩
theorem Grows.refl:Grows B H B H:=.of (bj.refl H)
theorem Grows.trans (hb:HB B H)(a:Grows B H B1 ac)(b:Grows B1 ac B2 H2):Grows B H B2 H2:=by
 have key:∀c,B.ix c=none->(∃o,H c=some o)->B1.ix c=none:=λc n ⟨o,e⟩=>by
  cases q:B1.ix c with
  |none=>rfl
  |some i=>have:=a.nw c i q n;rw[e]at this;cases this
 refine⟨a.kE.trans b.kE,λc o n e=>b.kp c o (key c n ⟨o,e⟩) (a.kp c o n e),λc n e=>?_,λc i e n=>?_⟩
 ·exact b.hd c (key c n (hb c e)) (a.hd c n e)
 ·cases q:B1.ix c with
  |none=>
   have:=b.nw c i e q;cases g:H c with
   |none=>rfl
   |some o=>rw[a.kp c o n g]at this;cases this
  |some j=>exact a.nw c j q n
noncomputable def pZ(B:fy)(p:Addr)(i:Nat):fy:=⟨λb=>B.hd b||b==p,λb=>if b=p then some i else B.ix b⟩
def qR:(pZ B a i).hd a=true:=by show(B.hd a||a==a)=true;rw[bR,mP]
def iG{p:Addr}:(pZ B p i).ix p=some i:=aX rfl
def iH{b:Addr}(h:b≠a):(pZ B a i).ix b=B.ix b:=ba h
def uD{b:Addr}(h:b≠a):(pZ B a i).hd b=B.hd b:=by show(B.hd b||b==a)=_;rw[kc h,jx]
def KO{p:Addr}(hp:H p=none)(hx:B.ix p=none)(s:bj H H'):fk (cn B H) (cn (pZ B p i) H'):=⟨λb u e=>by
 have l:=bM b u e;have g:b≠p:=bT l hp;have r:B.hd b=false:=by
  cases q:B.hd b with
  |false=>rfl
  |true=>
   have n:(if B.hd b=true then none else H b)=some u:=e;rw[q,aX rfl]at n;cases n
 rw[gS (by rw[uD g];exact r)];exact s b u l,λb j e=>by
 have g:b≠p:=λz=>by rw[z]at e;rw[show(cn B H).ix p=B.ix p from rfl,hx]at e;cases e
 show(pZ B p i).ix b=some j;rw[iH g];exact e⟩
theorem HA.push {p:Addr}{o:Ao}(h:HA K B A H)(hp:H p=none)(s:bj H H')(ho:sq K (pZ B p A.length) H' p o):Grows B H (pZ B p A.length) H'/\HA K (pZ B p A.length) (A++[o]) H':=by
 have hx:=h.free hp;have r:fk (cn B H) (cn (pZ B p A.length) H'):=KO hp hx s;have up:∀{a:Addr} {u:Ao},a≠p->sq K B H a u->sq K (pZ B p A.length) H' a u:=λ{a u} M q=>by
  have I:(pZ B p A.length).hd a=true:=by rw[uD M];exact q.hd
  cases u with
  |lst ts=>obtain⟨h0,vs,h1,h2⟩:=q;exact⟨I,vs,s _ _ h1,h2.same r⟩
  |bU bE=>obtain⟨h0,vs,h1,h2⟩:=q;exact⟨I,vs,s _ _ h1,h2.same r⟩
  |vS bE=>obtain⟨h0,vs,h1,h2,h3⟩:=q;exact⟨I,vs,s _ _ h1,h2,h3.same r⟩
  |Eo x=>obtain⟨h0,oe,h1,h2⟩:=q;exact⟨I,oe,s _ _ h1,h2⟩
  |ins c fs=>
   obtain⟨h0,dx,il,h1,h2,h3,h4,h5⟩:=q;exact⟨I,dx,il,s _ _ h1,s _ _ h2,by rw[iH (bT h2 hp)];exact h3,h4,h5.same r⟩
 refine⟨⟨r,λb u _ e=>s b u e,λb _ e=>?_,λb i e n=>?_⟩,⟨λb e=>?_,λi u e=>?_,λa b i l g=>?_,λa i e=>?_⟩⟩
 ·show(B.hd b||b==p)=true;rw[e,t9]
 ·by_cases q:b=p
  ·rw[q];exact hp
  ·rw[iH q,n]at e;cases e
 ·by_cases q:b=p
  ·rw[q];obtain⟨x,g,_⟩:=ho.mem;exact⟨x,g⟩
  ·rw[uD q]at e;obtain⟨x,g⟩:=h.hb b e;exact⟨x,s _ _ g⟩
 ·by_cases q:i<A.length
  ·rw[o7 q]at e;obtain⟨a,l,g⟩:=h.ob i u e;have M:a≠p:=λz=>by rw[z,hx]at l;cases l
   exact⟨a,by rw[iH M];exact l,up M g⟩
  ·rw[w8 (Nat.le_of_not_lt q)]at e;have hi:i - A.length=0:=by
    cases z:i - A.length with
    |zero=>rfl
    |succ k=>rw[z]at e;cases e
   rw[hi]at e;cases e;have:i=A.length:=by omega
   subst this;exact⟨p,iG,ho⟩
 ·by_cases S:a=p
  ·by_cases L:b=p
   ·rw[S,L]
   ·rw[S,iG]at l;cases l;rw[iH L]at g;exact absurd (h.lt b _ g) (fb _)
  ·by_cases L:b=p
   ·rw[L,iG]at g;cases g;rw[iH S]at l;exact absurd (h.lt a _ l) (fb _)
   ·rw[iH S]at l;rw[iH L]at g;exact h.inj a b i l g
 ·rw[eZ,List.length_singleton];by_cases q:a=p
  ·rw[q,iG]at e;cases e;exact pq _
  ·rw[iH q]at e;exact lM (h.lt a i e)
def jo{u:HO}(h:B.hd a=true):cn B (upd H a u)=cn B H:=by
 unfold cn;congr 1;funext b;by_cases q:b=a
 ·subst q;rw[aX h,aX h]
 ·rw[bo q]
def HA.write {o:Ao}{u:HO}(h:HA K B A H)(e:B.ix a=some i)(ho:sq K B (upd H a u) a o):Grows B H B (upd H a u)/\HA K B (A.set i o) (upd H a u):=by
 have hd:B.hd a=true:=ho.hd;have l:cn B (upd H a u)=cn B H:=jo hd;refine⟨⟨by rw[l];exact fk.refl _,λb x n q=>?_,λ_ _ q=>q,λb j q n=>by rw[n]at q;cases q⟩,⟨λb q=>?_,λj x q=>?_,h.inj,λb j q=>by rw[kM];exact h.lt b j q⟩⟩
 ·have g:b≠a:=λz=>by rw[z,e]at n;cases n
  rw[bo g];exact q
 ·by_cases z:b=a
  ·subst z;exact⟨u,bO⟩
  ·rw[bo z];exact h.hb b q
 ·rcases fU q with⟨rfl,_,rfl⟩|⟨S,q⟩
  ·exact⟨a,e,ho⟩
  ·obtain⟨b,L,r⟩:=h.ob j x q;have g:b≠a:=λz=>by rw[z,e]at L;cases L;exact S rfl
   refine⟨b,L,?_⟩;cases x with
   |lst ts=>obtain⟨h0,vs,h1,h2⟩:=r;exact⟨h0,vs,by rw[bo g];exact h1,by rw[l];exact h2⟩
   |bU bE=>obtain⟨h0,vs,h1,h2⟩:=r;exact⟨h0,vs,by rw[bo g];exact h1,by rw[l];exact h2⟩
   |vS bE=>obtain⟨h0,vs,h1,h2,I⟩:=r;exact⟨h0,vs,by rw[bo g];exact h1,h2,by rw[l];exact I⟩
   |Eo x=>obtain⟨h0,oe,h1,h2⟩:=r;exact⟨h0,oe,by rw[bo g];exact h1,h2⟩
   |ins c fs=>
    obtain⟨h0,dx,il,h1,h2,I,h4,h5⟩:=r;have M:dx≠a:=λz=>by rw[z,e]at I;cases I
    exact⟨h0,dx,il,by rw[bo g];exact h1,by rw[bo M];exact h2,I,h4,by rw[l];exact h5⟩
end
mutual
def wo:Tr->Bool
 |.at _=>false
 |.tup ts=>jD ts
 |.lst ts=>jD ts
 |.bU bE=>GJ bE
 |.vS bE=>GK bE
 |.ob _ fs=>GL fs
 |_=>true
def jD:List Tr->Bool
 |[]=>true
 |t::ts=>wo t&&jD ts
def GJ:List (Key×Tr)->Bool
 |[]=>true
 |p::r=>Ql p&&GJ r
def Ql:Key×Tr->Bool
 |(_,t)=>wo t
def GK:List (List Key×Tr)->Bool
 |[]=>true
 |p::r=>Qm p&&GK r
def Qm:List Key×Tr->Bool
 |(_,t)=>wo t
def GL:List (Str×Tr)->Bool
 |[]=>true
 |p::r=>Qn p&&GL r
def Qn:Str×Tr->Bool
 |(_,t)=>wo t
end
theorem z9:∀(bE:List (Key×Tr)),GJ bE=jD (bE.map (·.2))
 |[]=>rfl
 |(k,t)::r=>by rw[GJ,Ql,bB,jD,z9 r]
theorem z_:∀(bE:List (List Key×Tr)),GK bE=jD (bE.map (·.2))
 |[]=>rfl
 |(k,t)::r=>by rw[GK,Qm,bB,jD,z_ r]
theorem Aa:∀(bE:List (Str×Tr)),GL bE=jD (bE.map (·.2))
 |[]=>rfl
 |(k,t)::r=>by rw[GL,Qn,bB,jD,Aa r]
mutual
noncomputable def JG:Tr->Bool
 |.cu=>true
 |.bl _=>true
 |.int _=>true
 |.str _=>true
 |.ty _=>true
 |.at _=>true
 |.tup ts=>nT ts
 |_=>false
noncomputable def nT:List Tr->Bool
 |[]=>true
 |t::ts=>JG t&&nT ts
end
def aZ:Nat->Ab->Tr->Tr
 |0,_,t=>t
 |n+1,A,.at i=>match A[i]? with
  |some (.lst ts)=>.lst (ts.map (aZ n A))
  |some (.bU bE)=>.bU (bE.map λp=>(p.1,aZ n A p.2))
  |some (.vS bE)=>.vS (bE.map λp=>(p.1,aZ n A p.2))
  |some (.ins c fs)=>.ob c (fs.map λp=>(p.1,aZ n A p.2))
  |some (.Eo x)=>.zU x
  |none=>.at i
 |_+1,_,t=>t
def fy.un (B:fy):fy:=⟨λb=>B.hd b&&(B.ix b).isNone,B.ix⟩
section
variable {B':fy}{A:Ab}
def Qo:vU B.un B:=⟨λb e=>by
 have g:(B.hd b&&(B.ix b).isNone)=true:=e;rw[bW]at g;exact g.1,λ_ _ e=>e⟩
def i9:fk (cn B H) (cn B.un H):=yb Qo
def GN(h:HB B H):HB B.un H:=λb e=>h b (Qo.hd b e)
def C'(e:B.ix a=some i):(cn B.un H).H a=H a:=gS (by show(B.hd a&&(B.ix a).isNone)=false;rw[e];exact xE _)
theorem p4{W W':Vw}{f:Tr->Tr}(h:∀{v t},Rep K W v t->Rep K W' v (f t)):∀{vs:List V} {ts:List Tr},bP K W vs ts->bP K W' vs (ts.map f)
 |[],_,r=>by cases r;exact .nil
 |_::_,_,r=>by cases r with|cons b r=>exact .cons (h b) (p4 h r)
theorem jE(ha:HA K B A H):∀(n:Nat) {v:V} {t:Tr},Rep K (cn B H) v t->Rep K (cn B.un H) v (aZ n A t)
 |0,v,t,r=>by rw[aZ];exact r.same i9
 |n+1,v,t,r=>by
  cases r with
  |@«at» a i h=>
   have e:B.ix a=some i:=h;obtain⟨o,q,g⟩:=ha.ex e;rw[aZ,q];cases o with
   |lst ts=>
    obtain⟨h0,vs,h1,h2⟩:=g;exact .lst (by rw[C' e];exact h1) (p4 (λr=>jE ha n r) h2)
   |bU bE=>
    obtain⟨h0,kvs,h1,h2⟩:=g;refine .bU (.inl (by rw[C' e];exact h1)) (by rw[h2.keys,cN];rfl) ?_
    have:=p4 (λr=>jE ha n r) h2.vals;rw[cN]at this⊢;exact this
   |Eo x=>obtain⟨h0,oe,h1,h2⟩:=g;exact .zU (by rw[C' e];exact h1) h2
   |vS bE=>
    obtain⟨h0,kvs,h1,h2,l⟩:=g;refine .vS (by rw[C' e];exact h1) (by rw[h2,cN];rfl) ?_
    have:=p4 (λr=>jE ha n r) l;rw[cN]at this⊢;exact this
   |ins c fs=>
    obtain⟨h0,dx,il,h1,h2,l,I,L⟩:=g;refine .ob (by rw[C' e];exact h1) (by rw[I,cN];rfl) ?_
    have:=p4 (λr=>jE ha n r) L;rw[cN]at this⊢;exact this
  |cu=>exact .cu
  |bl b=>exact .bl b
  |int i=>exact .int i
  |str z h=>exact .str z h
  |ty m=>exact .ty m
  |vR h=>exact .vR (i9.h.seq h)
  |tup h r=>exact .tup (i9.h.tup h) (r.same i9)
  |lst h r=>exact .lst (i9.h _ _ h) (r.same i9)
  |bU h e r=>exact .bU (h.same i9.h) e (r.same i9)
  |vS h e r=>exact .vS (i9.h _ _ h) e (r.same i9)
  |ob h e r=>exact .ob (i9.h _ _ h) e (r.same i9)
  |zU h c=>exact .zU (i9.h _ _ h) c
def Sy(ha:HA K B A H){x:HO}(e:(cn B.un H).H a=some x)(hx:(∃vs,x=.tup vs)\/∃o u,x=.lD o u):(cn B H).H a=some x:=by
 have b:=bM a x e;cases q:B.hd a with
 |false=>rw[gS q];exact b
 |true=>
  cases z:B.ix a with
  |none=>
   have g:(if B.un.hd a=true then none else H a)=some x:=e;rw[show B.un.hd a=(B.hd a&&(B.ix a).isNone)from rfl,q,z]at g;cases g
  |some i=>
   obtain⟨o,_,n⟩:=ha.ex z;obtain⟨y,l,r,I⟩:=n.mem;rw[b]at l;cases l;rcases hx with⟨vs,rfl⟩|⟨o,u,rfl⟩
   ·exact absurd rfl (r vs)
   ·exact absurd rfl (I o u)
structure m4(W W':Vw):Prop where
 h:∀a x,W.H a=some x->((∃vs,x=.tup vs)\/∃o u,x=.lD o u)->W'.H a=some x
 x:∀a i,W.ix a=some i->W'.ix a=some i
theorem m4.un (q:HA K B A H):m4 (cn B.un H) (cn B H):=⟨λa x e b=>Sy q e b,λ_ _ e=>e⟩
def m4.trans {W W1 W2:Vw}(a:m4 W W1)(b:m4 W1 W2):m4 W W2:=⟨λc x e g=>b.h c x (a.h c x e g) g,λc i e=>b.x c i (a.x c i e)⟩
def m4.new {p:Addr}{x:HO}(hx:B.ix p=none)(hp:H p=some x)(n1:∀vs,x≠ .tup vs)(n2:∀o u,x≠ .lD o u):m4 (cn B H) (cn (pZ B p i) H):=⟨λa y e n=>by
 have b:=bM a y e;have g:a≠p:=λz=>by
  rw[z,hp]at b;cases b;rcases n with⟨vs,z⟩|⟨o,u,z⟩
  ·exact n1 vs z
  ·exact n2 o u z
 have r:B.hd a=false:=by
  cases q:B.hd a with
  |false=>rfl
  |true=>
   have l:(if B.hd a=true then none else H a)=some y:=e;rw[q,aX rfl]at l;cases l
 rw[gS (by rw[uD g];exact r)];exact b,λa j e=>by
 have g:a≠p:=λz=>by rw[z]at e;rw[show(cn B H).ix p=B.ix p from rfl,hx]at e;cases e
 show(pZ B p i).ix a=some j;rw[iH g];exact e⟩
def GO{W W':Vw}(s:m4 W W'){v:V}{t:Tr}(h:Rep K W v t):JG t=true->Rep K W' v t:=by
 refine Rep.rec (motive_1:=λv t _=>JG t=true->Rep K W' v t) (motive_2:=λvs ts _=>nT ts=true->bP K W' vs ts) ?_ ?_ ?_ ?_ ?_ ?_ ?_ ?_ ?_ ?_ ?_ ?_ ?_ ?_ ?_ h
 ·exact λ_=>.cu
 ·exact λb _=>.bl b
 ·exact λi _=>.int i
 ·exact λz h _=>.str z h
 ·exact λn _=>.ty n
 ·exact λh f=>nomatch f
 ·intro a vs ts h _ r f;refine .tup ?_ (r f)
  rcases h with(h|⟨o,h⟩)|h
  ·exact .inl (.inl (s.h _ _ h (.inl ⟨_,rfl⟩)))
  ·exact .inl (.inr ⟨o,s.h _ _ h (.inr ⟨_,_,rfl⟩)⟩)
  ·exact .inr h
 ·exact λh _ _ f=>nomatch f
 ·exact λh _ _ _ f=>nomatch f
 ·exact λh _=>.at (s.x _ _ h)
 ·exact λh _ _ _ f=>nomatch f
 ·exact λh _ _ _ f=>nomatch f
 ·exact λh c f=>nomatch f
 ·exact λ_=>.nil
 ·intro v t vs ts _ _ g l f;rw[nT,bW]at f;exact .cons (g f.1) (l f.2)
theorem uE{W W':Vw}(s:m4 W W'):∀{vs:List V} {ts:List Tr},bP K W vs ts->nT ts=true->bP K W' vs ts
 |[],_,r,_=>by cases r;exact .nil
 |_::_,_,r,f=>by
  cases r with
  |cons h r=>
   rw[nT,bW]at f;exact .cons (GO s h f.1) (uE s r f.2)
def Ac(q:HA K B A H){v:V}{t:Tr}(h:Rep K (cn B.un H) v t)(f:JG t=true):Rep K (cn B H) v t:=GO (.un q) h f
def Rep.KQ {W W':Vw}(s:bj W.H W'.H){v:V}{t:Tr}(h:Rep K W v t):wo t=true->Rep K W' v t:=by
 refine Rep.rec (motive_1:=λv t _=>wo t=true->Rep K W' v t) (motive_2:=λvs ts _=>jD ts=true->bP K W' vs ts) ?_ ?_ ?_ ?_ ?_ ?_ ?_ ?_ ?_ ?_ ?_ ?_ ?_ ?_ ?_ h
 ·exact λ_=>.cu
 ·exact λb _=>.bl b
 ·exact λi _=>.int i
 ·exact λz h _=>.str z h
 ·exact λn _=>.ty n
 ·exact λh _=>.vR (s.seq h)
 ·exact λh _ g f=>.tup (s.tup h) (g f)
 ·exact λh _ g f=>.lst (s _ _ h) (g f)
 ·intro a kvs bE h e _ g f;refine .bU (Rd.same s h) e (g ?_);rw[wo,z9]at f;exact f
 ·exact λh f=>nomatch f
 ·intro a kvs bE h e _ g f;refine .vS (s _ _ h) e (g ?_);rw[wo,z_]at f;exact f
 ·intro a c dx I fs h e _ g f;refine .ob (s _ _ h) e (g ?_);rw[wo,Aa]at f;exact f
 ·exact λh c _=>.zU (s _ _ h) c
 ·exact λ_=>.nil
 ·intro v t vs ts _ _ l r f;rw[jD,bW]at f;exact .cons (l f.1) (r f.2)
theorem bP.KQ {W W':Vw}(s:bj W.H W'.H):∀{vs:List V} {ts:List Tr},bP K W vs ts->jD ts=true->bP K W' vs ts
 |[],_,r,_=>by cases r;exact .nil
 |_::_,_,r,f=>by
  cases r with
  |cons h r=>
   rw[jD,bW]at f;exact .cons (h.KQ s f.1) (bP.KQ s r f.2)
end
def WO(A:Ab):Cell->Cell
 |.sh t=>.sh (aZ 5 A t)
 |c=>c
def dM(A:Ab)(Y:bY):bY:=Y.map (WO A)
theorem cL.Sz {A:Ab}{Y:bY}(ha:HA K B A H)(n:gF Y)(h:cL K B H Z Y):cL K B.un H Z (dM A Y):=by
 have no:∀i ts,(dM A Y)[i]? ≠some (Cell.ow ts):=λi ts e=>by
  unfold dM at e;rw[ck]at e;cases q:Y[i]? with
  |none=>rw[q]at e;cases e
  |some c=>
   rw[q]at e;cases c with
   |no=>cases e
   |sh t=>cases e
   |ow us=>exact n i us q
 refine⟨by unfold dM;rw[bt];exact h.len,λi t e=>?_,λi ts e=>absurd e (no i ts),λi j ts us D _ e=>absurd e (no i ts)⟩;unfold dM at e;rw[ck]at e;cases q:Y[i]? with
 |none=>rw[q]at e;cases e
 |some c=>
  rw[q]at e;cases c with
  |no=>cases e
  |ow us=>exact absurd q (n i us)
  |sh u=>
   obtain⟨v,b,r⟩:=h.sh i u q;have g:aZ 5 A u=t:=by
    have l:=Option.some.inj e;exact(Cell.sh.inj l)
   rw[<-g];exact⟨v,b,jE ha 5 r⟩
def cL.grow {B':fy}{H':Hp}{Y:bY}(h:cL K B H Z Y)(n:gF Y)(g:Grows B H B' H'):cL K B' H' Z Y:=
 ⟨h.len,λi t e=>by obtain⟨v,b,r⟩:=h.sh i t e;exact⟨v,b,r.same g.kE⟩,λi ts e=>absurd e (n i ts),λi j ts us D _ e=>absurd e (n i ts)⟩
theorem cY.get {h:Heap}{o:HO}(x:cY P w H h a o):∃u,h.get? a=some u:=by
 cases o with
 |lst xs=>obtain⟨_,_,_,_,e⟩:=x;exact⟨_,e⟩
 |tup xs=>obtain⟨_,_,_,o,e,_⟩:=x;exact⟨o,e⟩
 |dK kvs=>obtain⟨_,_,_,_,o,_,_,e,_⟩:=x;exact⟨o,e⟩
 |dT kvs=>obtain⟨_,_,_,_,o,_,_,e,_⟩:=x;exact⟨o,e⟩
 |set S n=>obtain⟨o,_,_,_,e,_⟩:=x;exact⟨o,e⟩
 |ins C dx fs=>obtain⟨_,_,_,e,_⟩:=x;exact⟨_,e⟩
 |own y=>exact x
 |xd fs=>obtain⟨_,⟨_,_,_,e,_⟩,_⟩:=x;exact⟨_,e⟩
 |Zx lo hi=>obtain⟨_,_,_,e⟩:=x;exact⟨_,e⟩
 |lD b u=>obtain⟨e,_⟩:=x;exact⟨_,e⟩
 |PQ ps=>exact⟨_,(show h.get? a=some _ from x)⟩
 |met f y=>exact⟨_,(show h.get? a=some _ from x)⟩
 |ext g=>obtain⟨_,e,_⟩:=x;exact e
structure Qp(h0:Heap)(H:Hp)(h:Heap)(a:Addr)(cls:Value):Prop where
 ob:∃oe vs a0,h.get? a=some oe/\oe.cls=cls/\oe.data=.fields vs/\vs[0]?=some a0/\
  (vs[1]?=some .none\/∃T oT ts,vs[1]?=some (.ref T)/\T≠a/\h0.get? T=none/\H T=none/\h.get? T=some oT/\oT.data=.fields ts/\ts[3]?=some .none)
 fr:H a=none
 nw:h0.get? a=none
def XS(X:Cx)(H:Hp)(cls e:Value)(s:Shared):Prop:=∃a U Z h0,e=.ref a/\Inv X U Z H s/\Qp h0 H s.heap a cls/\(∀b,h0.get? b=none->X.gD.heap.get? b=none)/\(∀p∈X.pn,∃o,h0.get? p.1=some o)/\∀b,s.heap.get? b=none->h0.get? b=none
def EX(X:Cx):XK:=λcls _ H=>∀e s,XS X H cls e s->X.xe e s
def vo(P:Program)(w:World):Cz:=λouter H s E e s'=>∃a cls H',e=.ref a/\s'.os=s.os/\AllBare s'.gens/\Un (jU outer) [] H H' s.heap s'.heap/\r8 P w H' s'.heap/\Qp s.heap H' s'.heap a cls/\E cls none H'
def Qp.WQ {h0 h1 h:Heap}{cls:Value}(u:Qp h1 H h a cls)(k:∀b,h1.get? b=none->h0.get? b=none):Qp h0 H h a cls:=by
 obtain⟨⟨l,vs,a0,r,I,L,M,g⟩,f,n⟩:=u;refine⟨⟨l,vs,a0,r,I,L,M,?_⟩,f,k a n⟩;rcases g with g|⟨T,oT,ts,S,q,q3,q4⟩
 ·exact .inl g
 ·exact .inr ⟨T,oT,ts,S,q,k T q3,q4⟩
def Inv.Dc (I:Inv X U Z H s)(hx:X.ex=[]){b:Addr}(n:s.heap.get? b=none):X.gD.heap.get? b=none:=by
 cases q:X.gD.heap.get? b with
 |none=>rfl
 |some o=>
  obtain⟨o',e⟩:=I.base.there b o q (by rw[hx];simp);rw[n]at e;cases e
theorem m5(hx:X.ex=[]):Passes (vo X.prog X.w) X (EX X):=by
 intro U Z H s e s' I z;obtain⟨a,cls,H',rfl,os,bare,un,cX,GP,q⟩:=z;have ce:CE X.stack X.prog X.w H s (λ_ H2=>H2=H') .none s':=⟨.cu,H',os,bare,un,cX,rfl,rfl⟩;obtain⟨v,H2,g,_,rfl⟩:=I.after ce;exact q (.ref a) s' ⟨a,U,Z,s.heap,rfl,g,GP,λb n=>I.Dc hx n,λp hp=>⟨_,(I.pin p (jZ _ hp)).1⟩,λb n=>by
  cases z:s.heap.get? b with
  |none=>rfl
  |some o=>obtain⟨o',e⟩:=un.there b o z (by simp);rw[n]at e;cases e⟩
section
variable {base:Heap}{outer:List Env}{E:XK}
theorem KR{cls e:Value}{s':Shared}(x:XS (oY (vo P w) P w K mg base ps au aw ar af A outer s H E) ac cls e s')(q:E cls none ac):(oY (vo P w) P w K mg base ps au aw ar af A outer s H E).xe e s':=by
 obtain⟨a,U,Z,h00,rfl,I,aaV,old,_,_⟩:=x;have GP:=aaV.WQ (h0:=s.heap) old;obtain⟨⟨oe,vs,a0,he,AV,hd,h0,h1⟩,fr,nw⟩:=GP
 let env:=envOfC au aw s.heap.objs.size ar af
 have U6:(A.deeper env).frames=some (env::outer):=I.ok.frames;have hk:s'.heap.FunFrames base (env::outer):=I.stack;have U7:∀L∈jU (env::outer),ac L=none/\∃o,s'.heap.get? L=some o/\∀ws,o.data≠ .fields ws:=λL r=>⟨I.wG L r,(hk.mem r).2⟩;have haf:a∉jU (env::outer):=λm=>by
  obtain⟨_,o,g,l⟩:=U7 a m;rw[he]at g;cases g;exact l vs hd
 have fin:∀(hs:List Addr) (h':Heap),(∀b∈hs,ac b=none/\(b∈jU (env::outer)\/s.heap.get? b=none))->(∀b∈jU (env::outer),b∈hs)->a∈hs->(∀b∈hs,b∈jU (env::outer)\/b=a\/ac b=none)->
   Heap.LeftW (PySem.W.hideAll s'.heap hs) (env::outer) a cls a0 s'.heap h'->vo P w outer H s E (.ref a) {s' with heap:=h'}:=by
  intro hs h' hh Q3 abS _ ⟨k1,k2,k3,k4⟩;have kp:∀b o,b∉hs->s'.heap.get? b=some o->h'.get? b=some o:=λb o nb e=>k1 b o (mC _ e nb);have old:∀b o,s.heap.get? b=some o->b∉jU outer->b∉hs:=λb o e M m=>by
   rcases(hh b m).2 with z|z
   ·unfold jU at z;rw[pb]at z;have S:b∈s.heap.objs.size::jU outer:=z;rcases bI.mp S with S|S
    ·exact absurd (bA e) (by rw[S];exact fb _)
    ·exact M S
   ·rw[e]at z;cases z
  have sl:∀b o,s'.heap.get? b=some o->b∈jU outer->∃sl,h'.get? b=some {o with slots:=sl}:=λb o e m=>by
   obtain⟨_,o2,l,M⟩:=U7 b (by unfold jU at m⊢;rw[pb];exact cx _ m);rw[e]at l;cases l;exact k4 b o e M
  have pins:Un (jU outer) [] H ac s.heap s'.heap:=I.base;refine⟨a,cls,ac,rfl,I.os,I.bare,⟨λb o e n M nx=>?_,λb o e n m nx=>?_,pins.free,λb o e nx=>?_,pins.mU,pins.lE,pins.nM⟩,λb o e=>?_,⟨?_,fr,nw⟩,q⟩
  ·exact kp b o (old b o e M) (pins.keep b o e n M nx)
  ·obtain⟨s1,g⟩:=pins.slot b o e n m nx;obtain⟨s2,l⟩:=sl b _ g m;exact⟨s2,l⟩
  ·obtain⟨o1,g⟩:=pins.there b o e nx;by_cases m:b∈jU outer
   ·obtain⟨s2,l⟩:=sl b o1 g m;exact⟨_,l⟩
   ·exact⟨o1,kp b o1 (old b o e m) g⟩
  ·refine(I.cX b o e).pM (λc u hc z=>kp c u (λm=>?_) z) (λ_ z=>z) λ_ _ z=>z;have n:=(hh c m).1;rcases hc with rfl|hc
   ·rw[n]at e;cases e
   ·rw[n]at hc;cases hc
  ·obtain⟨oe2,vs2,T,oT,ts,q1,⟨q2,q3⟩,q4,q5,q6,q7,q8,q9,q10⟩:=k3;refine⟨oe2,vs2,a0,q1,q2,q4,q3,.inr ⟨T,oT,ts,q5,q7,?_,?_,q8,q9,q10⟩⟩
   ·by_cases m:T∈hs
    ·rcases(hh T m).2 with z|z
     ·obtain⟨o3,e3,n3⟩:=(k2.mem z).2;rw[q8]at e3;cases e3;exact absurd q9 (n3 ts)
     ·exact z
    ·cases z:s.heap.get? T with
     |none=>rfl
     |some o=>
      obtain⟨o1,g⟩:=pins.there T o z (by simp);rw[mC _ g m]at q6;cases q6
   ·by_cases m:T∈hs
    ·exact(hh T m).1
    ·cases z:ac T with
     |none=>rfl
     |some o=>
      obtain⟨u,g⟩:∃u,s'.heap.get? T=some u:=(I.cX T o z).get;rw[mC _ g m]at q6;cases q6
 have mw:∀e∈(env::outer),∀b,e.frame=some b->b∈jU (env::outer):=λe he b hb=>lL.mpr ⟨e,he,hb⟩;show wpAny (model P w) (A.deeper env) (leaving env (.ref a)) (λ_ RB=>vo P w outer H s E (.ref a) RB) _ s';rcases h1 with h1|⟨T,oT,ts,h1,hTa,hT0,M_,hT,ZV,h3⟩
 ·let hs:=a::jU (env::outer)
  refine wpAny_leaving_firstW (base:=PySem.W.hideAll s'.heap hs) U6 (o_ hk λe he b hb=>cx _ (mw e he b hb)) rfl he (λb o z=>mE _ z) (lJ _ (cB ..)) hd h1 h0 λh' r=>?_
  rw[AV]at r;refine fin hs h' (λb m=>?_) (λb m=>cx _ m) (cB ..) (λb m=>?_) r
  ·rcases bI.mp m with rfl|m
   ·exact⟨fr,.inr nw⟩
   ·exact⟨(U7 b m).1,.inl m⟩
  ·rcases bI.mp m with rfl|m
   ·exact .inr (.inl rfl)
   ·exact .inl m
 ·let hs:=a::T::jU (env::outer)
  refine wpAny_leaving_nextW (base:=PySem.W.hideAll s'.heap hs) (cls:=cls) (a0:=a0) U6 (o_ hk λe he b hb=>cx _ (cx _ (mw e he b hb))) rfl
   ⟨oe,vs,T,oT,ts,he,⟨AV,h0⟩,hd,h1,lJ _ (cx _ (cB ..)),hTa,hT,ZV,h3⟩ (λb o z=>mE _ z) (lJ _ (cB ..)) λh' r=>?_
  refine fin hs h' (λb m=>?_) (λb m=>cx _ (cx _ m)) (cB ..) (λb m=>?_) r
  ·rcases bI.mp m with rfl|m
   ·exact⟨fr,.inr nw⟩
   ·rcases bI.mp m with rfl|m
    ·exact⟨M_,.inr hT0⟩
    ·exact⟨(U7 b m).1,.inl m⟩
  ·rcases bI.mp m with rfl|m
   ·exact .inr (.inl rfl)
   ·rcases bI.mp m with rfl|m
    ·exact .inr (.inr M_)
    ·exact .inl m
end
inductive Rz(α:Type) where
 |bad|ok (a:α) (A:Ab)|exc (c:Tr) (A:Ab)
variable {aG:bY->Ab->Rz (List Tr)}{aH aI:bY->Ab->Rz Tr}{aJ:bY->Ab->Rz Out}
noncomputable def Rz.bind {α β:Type}(r:Rz α)(f:α->Ab->Rz β):Rz β:=match r with
 |.ok a A=>f a A
 |.exc c A=>.exc c A
 |.bad=>.bad
def iC(xc:Tr->Ab->Prop){α:Type}(r:Rz α)(k:α->Ab->Prop):Prop:=match r with
 |.ok a A=>k a A
 |.exc c A=>xc c A
 |.bad=>False
section
variable {β:Type}{r:Rz ag}{k k':ag->Ab->Prop}{xc U2:Tr->Ab->Prop}
def iC.mono (h:iC xc r k)(w:∀a A,k a A->k' a A):iC xc r k':=by
 cases r with
 |ok a A=>exact w a A h
 |_=>exact h
def iC.imp (h:iC xc r k)(w:∀c A,xc c A->U2 c A):iC U2 r k:=by
 cases r with
 |ok a A=>exact h
 |exc c A=>exact w c A h
 |bad=>exact h
theorem iC.bind {f:ag->Ab->Rz β}{k:β->Ab->Prop}(h:iC xc (r.bind f) k):iC xc r λa A=>iC xc (f a A) k:=by
 cases r with
 |_=>exact h
end
def gY{α:Type}(r:Rs α)(A:Ab):Rz α:=match r with
 |.ok a=>.ok a A
 |_=>.bad
def p5{X:Cx}{H:Hp}{xc:Tr->Ab->Prop}{r:Rs ag}{A:Ab}{k:ag->Ab->Prop}(q:iC xc (gY r A) k):Fi X H r λa=>k a A:=by
 cases r with
 |ok a=>exact q
 |exc c=>exact fe q
 |bad=>exact q
def WR(K:Frag):Tr->Value
 |.str x=>.ref (clsAt K x)
 |_=>.none
def XE(X:Cx)(B:fy)(H:Hp):Tr->Ab->Prop:=λc A=>∀B' H',Grows B H B' H'->HA X.K B' A H'->EX X (WR X.K c) none H'
def XE.grow {B':fy}{H':Hp}{c:Tr}{A:Ab}(hb:HB B H)(h:XE X B H c A)(g:Grows B H B' H'):XE X B' H' c A:=λB2 H2 g2 b=>h B2 H2 (g.trans hb g2) b
inductive tE(X:Cx)(F:bY->Ab->Rz Tr)(Z:St)(H:Hp)(Q:VK):Prop
 |mk (B:fy) (A:Ab) (Y:bY):HA X.K B A H->cL X.K B H Z Y->gF Y->(iC (XE X B H) (F Y A) fun t A'=>∀v B' H',Grows B H B' H'->HA X.K B' A' H'->Rep X.K (cn B' H') v t->Q v H')->tE X F Z H Q
inductive Qq(X:Cx)(F:bY->Ab->Rz Bool)(Z:St)(H:Hp)(Q:Bool->Hp->Prop):Prop
 |mk (B:fy) (A:Ab) (Y:bY):HA X.K B A H->cL X.K B H Z Y->gF Y->(iC (XE X B H) (F Y A) fun b A'=>∀B' H',Grows B H B' H'->HA X.K B' A' H'->Q b H')->Qq X F Z H Q
inductive M'(X:Cx)(F:bY->Ab->Rz (List Tr))(Z:St)(H:Hp)(Q:List V->Hp->Prop):Prop
 |mk (B:fy) (A:Ab) (Y:bY):HA X.K B A H->cL X.K B H Z Y->gF Y->(iC (XE X B H) (F Y A) fun ts A'=>∀vs B' H',Grows B H B' H'->HA X.K B' A' H'->bP X.K (cn B' H') vs ts->Q vs H')->M' X F Z H Q
def SA(H H':Hp)(p:Addr):Prop:=H p=none/\∀o u,H' p≠some (.lD o u)
theorem SA.lst {H':Hp}{p:Addr}(h:H p=none)(r:Rep K (cn B H') (.ref p) (.lst ts)):SA H H' p:=by
 cases r with
 |lst e _=>exact⟨h,λo u z=>by rw[bM _ _ e]at z;cases z⟩
theorem SA.upd {H1:Hp}{p:Addr}{x:HO}(h:H p=none)(q:∀o u,x≠ .lD o u):SA H (L2.upd H1 p x) p:=⟨h,λo u z=>by rw[bO]at z;cases z;exact q _ _ rfl⟩
inductive tF(X:Cx)(F:bY->Rs Tr)(Z:St)(H:Hp)(Q:VK):Prop
 |mk (B:fy) (Y:bY):HB B H->cL X.K B H Z Y->(Fi X H (F Y) fun t=>∀v H',bj H H'->Rep X.K (cn B H') v t->(∀p,v=.ref p->SA H H' p)->Q v H')->tF X F Z H Q
def sS(r:Rs Tr)(A:Ab):Rz Tr:=match r with
 |.ok t=>if JG t=true then .ok t A else .bad
 |_=>.bad
def wq(r:Rs Tr)(A:Ab):Rz Tr:=match r with
 |.ok (.lst ts)=>if nT ts=true then .ok (.at A.length) (A++[.lst ts])else .bad
 |.ok (.bU bE)=>if nT (bE.map (·.2))=true then .ok (.at A.length) (A++[.bU bE])else .bad
 |.ok (.vS bE)=>if nT (bE.map (·.2))=true then .ok (.at A.length) (A++[.vS bE])else .bad
 |_=>.bad
def De{Q:VK}(q:tE X (λY A=>gY (F Y) A) Z H Q):tP X F Z H Q:=by
 obtain⟨B,A,Y,ha,r,_,q⟩:=q;exact⟨B,Y,ha.hb,r,(p5 q).mono λt b v H' s g=>b v B H' (.of s) (ha.same s) g⟩
theorem SD(h:PE X e (tP X F)):PE X e (tE X λY A=>gY (F Y) A):=h.weak λZ H Q q=>De q
theorem SE(h:PE X e (tP X F)):PE X e (tE X λY A=>sS (F (dM A Y)) A):=
 h.weak λZ H Q ⟨B,A,Y,ha,r,n,q⟩=>⟨B.un,dM A Y,GN ha.hb,r.Sz ha n,by
   have q:iC (XE X B H) (sS (F (dM A Y)) A) _:=q;cases e:F (dM A Y)with
   |bad=>rw[e]at q;exact q
   |exc c=>rw[e]at q;exact fe q
   |ok t=>
    rw[e]at q;intro v H' s g;by_cases f:JG t=true
    ·have b:iC _ (if JG t=true then Rz.ok t A else .bad) _:=q;rw[aX f]at b;exact b v B H' (.of s) (ha.same s) (Ac (ha.same s) g f)
    ·have b:iC _ (if JG t=true then Rz.ok t A else .bad) _:=q;rw[ba f]at b;exact fe b⟩
theorem Oo(h:PT X e (tQ X aE)):PT X e (Qq X λY A=>gY (aE (dM A Y)) A):=
 h.weak λZ H Q ⟨B,A,Y,ha,r,n,q⟩=>⟨B.un,dM A Y,GN ha.hb,r.Sz ha n,(p5 q).mono λt b H' s=>b B H' (.of s) (ha.same s)⟩
def ir{c:Prop}[Decidable c]{xc:Tr->Ab->Prop}{r:Rz ag}{k:ag->Ab->Prop}(h:iC xc (if c then r else .bad) k):c/\iC xc r k:=by
 by_cases q:c
 ·rw[aX q]at h;exact⟨q,h⟩
 ·rw[ba q]at h;exact fe h
def sx{Q:VK}(q:tE X (λY A=>wq (F (dM A Y)) A) Z H Q):tF X F Z H Q:=by
  obtain⟨B,A,Y,ha,r,n,q⟩:=q;refine⟨B.un,dM A Y,GN ha.hb,r.Sz ha n,?_⟩;have q:iC (XE X B H) (wq (F (dM A Y)) A) _:=q;cases e:F (dM A Y)with
  |bad=>rw[e]at q;exact q
  |exc c=>rw[e]at q;exact fe q
  |ok t=>
   rw[e]at q;intro v H' s M fr;have I:=ha.same s;cases M with
   |@lst p vs ts h b=>
    have hp:=(fr p rfl).1;obtain⟨f,l⟩:=ir q;have h1:H' p=some (.lst vs):=bM _ _ h;obtain⟨g,h2⟩:=ha.push (o:=.lst ts) hp s ⟨qR,vs,h1,uE ((m4.un I).trans (.new (ha.free hp) h1 (λ_ z=>by cases z) λ_ _ z=>by cases z)) b f⟩;exact l _ _ H' g h2 (.at iG)
   |@bU p kvs bE h L b=>
    have hp:=(fr p rfl).1;obtain⟨f,l⟩:=ir q;have h1:H' p=some (.dK kvs):=by
     rcases h.same bM with h|⟨o,h⟩
     ·exact h
     ·exact((fr p rfl).2 _ _ h).elim
    obtain⟨g,h2⟩:=ha.push (o:=.bU bE) hp s ⟨qR,kvs,h1,L,uE ((m4.un I).trans (.new (ha.free hp) h1 (λ_ z=>by cases z) λ_ _ z=>by cases z)) b f⟩;exact l _ _ H' g h2 (.at iG)
   |@vS p kvs bE h L b=>
    have hp:=(fr p rfl).1;obtain⟨f,l⟩:=ir q;have h1:H' p=some (.dT kvs):=bM _ _ h;obtain⟨g,h2⟩:=ha.push (o:=.vS bE) hp s ⟨qR,kvs,h1,L,uE ((m4.un I).trans (.new (ha.free hp) h1 (λ_ z=>by cases z) λ_ _ z=>by cases z)) b f⟩;exact l _ _ H' g h2 (.at iG)
   |_=>exact fe q
theorem WS(h:PE X e (tF X F)):PE X e (tE X λY A=>wq (F (dM A Y)) A):=h.weak λZ H Q q=>sx q
def Ad(X:Cx)(D:Ends)(B0:fy)(H0:Hp):Out->Ab->Prop
 |.nx Y,A=>∀b B' H',Grows B0 H0 B' H'->HA X.K B' A H'->cL X.K B' H' b Y->gF Y->D.nx b H'
 |.ret t,A=>∀v B' H',Grows B0 H0 B' H'->HA X.K B' A H'->Rep X.K (cn B' H') v t->D.rt v H'
 |.bk Y,A=>∀b B' H',Grows B0 H0 B' H'->HA X.K B' A H'->cL X.K B' H' b Y->gF Y->D.bk b H'
 |.ct Y,A=>∀b B' H',Grows B0 H0 B' H'->HA X.K B' A H'->cL X.K B' H' b Y->gF Y->D.ct b H'
inductive tZ(X:Cx)(G:bY->Ab->Rz Out)(D:Ends)(Z:St)(H:Hp):Prop
 |mk (B0:fy) (H0:Hp) (B:fy) (A:Ab) (Y:bY):HB B0 H0->Grows B0 H0 B H->HA X.K B A H->cL X.K B H Z Y->gF Y->iC (XE X B0 H0) (G Y A) (Ad X D B0 H0)->tZ X G D Z H
section
variable {b c:Expr}{F:bY->Ab->Rz Tr}{G':bY->Ab->Rz Out}{P:bY->Ab->Rz Bool}
def E4(r:Rz Out)(aJ:bY->Ab->Rz Out):Rz Out:=r.bind λo A=>match o with
 |.nx Y=>aJ Y A
 |.ret t=>.ok (.ret t) A
 |.bk Y=>.ok (.bk Y) A
 |.ct Y=>.ok (.ct Y) A
theorem WT:o5 X [] (tZ X λY A=>.ok (.nx Y) A):=F6.weak λD Z H ⟨B0,H0,B,A,Y,hb,g,ha,r,n,q⟩=>q Z B H g ha r n
theorem SF(h1:PS X ai (tZ X aJ))(h2:o5 X ah (tZ X G')):o5 X (ai::ah) (tZ X λY A=>E4 (aJ Y A) G'):=
 (Cw h1 h2).weak λD Z H ⟨B0,H0,B,A,Y,hb,g,ha,r,n,q⟩=>⟨B0,H0,B,A,Y,hb,g,ha,r,n,q.bind.mono λo A1 b=>by
  cases o with
  |nx iX=>exact λM B' H' g' l I L=>⟨B0,H0,B',A1,iX,hb,g',l,I,L,b⟩
  |ret t=>exact b
  |bk iX=>exact b
  |ct iX=>exact b⟩
def WU(q:PS X ai (tZ X aJ)):o5 X [ai] (tZ X aJ):=F7 q
def WV:PE X e (tE X λ_ _=>.bad):=λ_ _ _ _ _ _ ⟨_,_,_,_,_,_,q⟩=>(show False from q).elim
def p7{B0:fy}{A:Ab}{Y:bY}{k:Tr->Ab->Prop}(hb:HB B0 ac)(g:Grows B0 ac B H)(ha:HA X.K B A H)(r:cL X.K B H Z Y)(n:gF Y)(q:iC (XE X B0 ac) (F Y A) k){Q:VK}
  (hq:∀t A' v B' H',k t A'->Grows B0 ac B' H'->HA X.K B' A' H'->cL X.K B' H' Z Y->Rep X.K (cn B' H') v t->Grows B H B' H'->Q v H'):tE X F Z H Q:=
 ⟨B,A,Y,ha,r,n,(q.imp λc A' x=>x.grow hb g).mono λt A' b v B' H' g' l I=>hq t A' v B' H' b (g.trans hb g') l (r.grow n g') I g'⟩
def SG{B0:fy}{A:Ab}{Y:bY}{k:Bool->Ab->Prop}(hb:HB B0 ac)(g:Grows B0 ac B H)(ha:HA X.K B A H)(r:cL X.K B H Z Y)(n:gF Y)(q:iC (XE X B0 ac) (P Y A) k){Q:Bool->Hp->Prop}
  (hq:∀t A' B' H',k t A'->Grows B0 ac B' H'->HA X.K B' A' H'->cL X.K B' H' Z Y->Q t H'):Qq X P Z H Q:=
 ⟨B,A,Y,ha,r,n,(q.imp λc A' x=>x.grow hb g).mono λt A' b B' H' g' l=>hq t A' B' H' b (g.trans hb g') l (r.grow n g')⟩
def Bk(i:Nat)(r:Rz Tr)(Y:bY):Rz Out:=r.bind λt A=>.ok (.nx (Y.set i (.sh t))) A
theorem WW(he:PE X e (tE X F))(hN:X.N.Nodup:=by assumption) (hi:X.N[i]?=some x:=by rfl) (hx:Loc X.env.scope x:=by first|exact Or.inl rfl|exact Or.inr rfl) (hs:sg e=false:=by rfl) (hf:zl X x:=by first|exact .inl rfl|exact .inr rfl|assumption):
  PS X (.Assign [.Name x p] e pos) (tZ X λY A=>Bk i (F Y A) Y):=
 (JY hN hi hx he (yc hs) hf).weak λD Z H ⟨B0,H0,B,A,Y,hb,g,ha,r,n,q⟩=>p7 hb g ha r n q.bind λt A' v B' H' b g' l I L _=>b _ B' H' g' l (I.set i L) (n.set i t)
def KU(r:Rz Tr):Rz Out:=r.bind λt A=>.ok (.ret t) A
theorem WX(he:PE X e (tE X F)):PS X (.Return (some e) pos) (tZ X λY A=>KU (F Y A)):=
 (JV he).weak λD Z H ⟨B0,H0,B,A,Y,hb,g,ha,r,n,q⟩=>p7 hb g ha r n q.bind λt A' v B' H' b g' l L I _=>b v B' H' g' l I
theorem SH:PS X (.Return none pos) (tZ X λ_ A=>.ok (.ret .cu) A):=
 Nn.weak λD Z H ⟨B0,H0,B,A,Y,hb,g,ha,r,n,q⟩=>q .cu B H g ha .cu
def yq(r:Rz Tr)(Y:bY):Rz Out:=r.bind λ_ A=>.ok (.nx Y) A
theorem SI(he:PE X e (tE X F))(hs:sg e=false:=by rfl):PS X (.Expr e pos) (tZ X λY A=>yq (F Y A) Y):=
 (Nm he (yc hs)).weak λD Z H ⟨B0,H0,B,A,Y,hb,g,ha,r,n,q⟩=>p7 hb g ha r n q.bind λt A' v B' H' b g' l I L _=>b _ B' H' g' l I n
def ZW(c:Rz Bool)(al b:Ab->Rz Out):Rz Out:=c.bind λk A=>if k then al A else b A
theorem aaW(hc:PT X c (Qq X P))(h1:o5 X ah (tZ X aJ))(h2:o5 X aj (tZ X G')):PS X (.If c ah aj pos) (tZ X λY A=>ZW (P Y A) (aJ Y) (G' Y)):=
 (PY hc h1 h2).weak λD Z H ⟨B0,H0,B,A,Y,hb,g,ha,r,n,q⟩=>SG hb g ha r n q.bind λk A' B' H' b g' l I=>by
  cases k with
  |true=>exact RW ⟨B0,H0,B',A',Y,hb,g',l,I,n,b⟩
  |false=>exact RV ⟨B0,H0,B',A',Y,hb,g',l,I,n,b⟩
def KW(T:o6)(r:Rz Tr)(Y:bY):Rz Out:=r.bind λt A=>(gY (T t Y) A).bind λb A=>.ok (.nx b) A
def Qr{T:o6}{B0:fy}{A:Ab}{Y:bY}{v:V}{t:Tr}{k:bY->Ab->Prop}(hT:kg T)(hb:HB B0 ac)(g:Grows B0 ac B H)(ha:HA X.K B A H)(r:cL X.K B H Z Y)(n:gF Y)(rv:Rep X.K (cn B H) v t){xc:Tr->Ab->Prop}(q:iC xc (gY (T t Y) A) k){Q:St->Hp->Prop}
  (hq:∀iX dF H',k iX A->Grows B0 ac B H'->HA X.K B A H'->cL X.K B H' dF iX->gF iX->bj H H'->Q dF H'):tG X T v Z H Q:=by
 refine⟨B,Y,t,ha.hb,r,rv,?_⟩;cases e:T t Y with
 |ok iX=>rw[e]at q;exact λdF H' s b=>hq iX dF H' q (g.trans hb (.of s)) (ha.same s) b (hT t Y iX n e) s
 |exc c=>rw[e]at q;exact fe q
 |bad=>rw[e]at q;exact q
theorem WY{T:o6}(hg:PG X tg (tG X T))(hT:kg T)(he:PE X e (tE X F))(hs:swapsWithSole [tg] e pos.line X.env=pure false:=by rfl) (hw:swappedStores [tg] e X.env=pure none:=by rfl)
  (h1:(assignEach [tg] X.env).map (·.2)=[assign tg X.env]:=by rfl):PS X (.Assign [tg] e pos) (tZ X λY A=>KW T (F Y A) Y):=
 (JX he hg hs hw h1).weak λD Z H ⟨B0,H0,B,A,Y,hb,g,ha,r,n,q⟩=>p7 hb g ha r n q.bind λt A' v B' H' b g' l I L _=>
  Qr hT hb g' l I n L (iC.bind b) λjL M H2 S g2 p8 r2 n2 _=>S M B' H2 g2 p8 r2 n2
def vp(T:o6)(aJ:bY->Ab->Rz Out):List Tr->bY->Ab->Rz Out
 |[],Y,A=>.ok (.nx Y) A
 |t::ts,Y,A=>(gY (T t Y) A).bind λg A=>(aJ g A).bind λo A=>match o with
  |.nx b=>vp T aJ ts b A
  |.ct b=>vp T aJ ts b A
  |.bk b=>.ok (.nx b) A
  |.ret t=>.ok (.ret t) A
def KY(T:o6)(aJ:bY->Ab->Rz Out)(l:Rz (List Tr))(Y:bY):Rz Out:=l.bind λts A=>vp T aJ ts Y A
theorem WZ{T:o6}(hi:PI X tg al (tI X L))(hg:PG X tg (tG X T))(hT:kg T)(hb:o5 X ah (tZ X aJ))(hp:PassesOwn (model X.prog X.w) X.A X.env X.xe:=by first|exact t5|exact PassesOwn.leaving) (hc:X.calm=true:=by rfl)
  (hs:isSet al=false:=by rfl):PS X (.For tg al ah [] pos) (tZ X λY A=>KY T aJ (gY (L Y) A) Y):=
 (J0 hp hc hi hg hb (ip hs)).weak λD Z H ⟨B0,H0,B,A,Y,JH,g,ha,r,n,q⟩=>⟨B,Y,ha.hb,r,(p5 (iC.bind q)).mono λts qt J H1 s1 gt=>by
  have g1:Grows B0 H0 B H1:=g.trans JH (.of s1);have E5:HB B H1:=ha.hb.same s1;refine⟨λi m dF H'=>m=ts.length - i/\i<=ts.length/\∃B' A' iX,Grows B H1 B' H'/\HA X.K B' A' H'/\cL X.K B' H' dF iX/\gF iX/\iC (XE X B0 H0) (vp T aJ (ts.drop i) iX A') (Ad X D B0 H0),⟨_,rfl,eP _,B,A,Y,.refl,ha.same s1,r.same s1,n,qt⟩,?_⟩
  rintro i m dF H' ⟨rfl,hi,B',A',iX,g',l7,r',n',q'⟩
  by_cases hZ:i<ts.length
  ·rw[sT hZ]at q';refine .inr ⟨gt.go i B' H' hZ g'.kE l7.hb,λzt H2=>∃B2 A2 b,Grows B H1 B2 H2/\HA X.K B2 A2 H2/\cL X.K B2 H2 zt b/\gF b/\iC (XE X B0 H0) (vp T aJ (ts.drop (i+1)) b A2) (Ad X D B0 H0),
    λzt H2 x=>⟨ts.length - (i+1),by omega,rfl,hZ,x⟩,λx H2 hx=>?_⟩
   obtain⟨s2,t,et,rt⟩:=gt.HR i B' H' x H2 hZ g'.kE l7.hb hx;have WC:ts[i]=t:=by rw[b_ hZ]at et;exact Option.some.inj et
   rw[WC]at q';have g2:Grows B H1 B' H2:=g'.trans E5 (.of s2);refine Qr hT E5 g2 (l7.same s2) (r'.same s2) n' rt (iC.bind q') λsR P0 H3 q1 g3 JI r3 n3 _=>?_
   refine⟨B,H1,B',A',sR,E5,g3,JI,r3,n3,((iC.bind q1).imp λc A'' x=>x.grow JH g1).mono λo A4 qo=>?_⟩;cases o with
   |nx b=>exact λSJ l H4 I M S n4=>⟨l,A4,b,I,M,S,n4,qo⟩
   |ct b=>exact λSJ l H4 I M S n4=>⟨l,A4,b,I,M,S,n4,qo⟩
   |bk b=>exact λSJ l H4 I M S n4=>qo SJ l H4 (g1.trans JH I) M S n4
   |ret t=>exact λv l H4 I M S=>qo v l H4 (g1.trans JH I) M S
  ·have e:i=ts.length:=by omega
   subst e;rw[tR]at q';exact .inl ⟨gt.stop B' H' g'.kE,q' dF B' H' (g1.trans JH g') l7 r' n'⟩⟩
end
section
variable {a:Expr}
def GQ(r:Rz Tr)(l:Ab->Rz (List Tr)):Rz (List Tr):=r.bind λx A=>(l A).bind λxs A=>.ok (x::xs) A
theorem KZ:PA X [] (M' X λ_ A=>.ok [] A):=r_.weak λZ H Q ⟨B,A,Y,ha,r,n,q⟩=>q [] B H .refl ha .nil
theorem GR(h1:PE X a (tE X aH))(hr:PA X az (M' X aG))(hs:isStar a=false:=by rfl):PA X (a::az) (M' X λY A=>GQ (aH Y A) (aG Y)):=
 (lO h1 hr (bL _ _ hs)).weak λZ H Q ⟨B,A,Y,ha,r,n,q⟩=>⟨B,A,Y,ha,r,n,q.bind.mono λx A1 b v B1 H1 g1 g l=>⟨B1,A1,Y,g,r.grow n g1,n,((iC.bind b).imp λc A' x=>x.grow ha.hb g1).mono λxs A2 I vs B2 H2 g2 L M=>I _ B2 H2 (g1.trans ha.hb g2) L (.cons (l.same g2.kE) M)⟩⟩
def WrZ(X:Cx)(r:V->List V->Hp->VK->Prop)(h:Nat->List Tr->Ab->Rz Tr):Prop:=
 ∀(B:fy) (A:Ab) (H:Hp) (a:Addr) (i:Nat) (xs:List V) (ts:List Tr) (Q:VK),HA X.K B A H->B.ix a=some i->bP X.K (cn B H) xs ts->
  iC (XE X B H) (h i ts A) (λt A'=>∀v B' H',Grows B H B' H'->HA X.K B' A' H'->Rep X.K (cn B' H') v t->Q v H')->r (.ref a) xs H Q
def W0(A:Ab)(i:Nat):Bool:=match A[i]? with
 |some (.lst _)=>true
 |_=>false
def SM{A:Ab}(q:HA K B A H)(e:B.ix ar=some i)(h:W0 A i=true):∃xs,H ar=some (.lst xs):=by
 obtain⟨o,b,g⟩:=q.ex e;unfold W0 at h;rw[b]at h;cases o with
 |lst ts=>obtain⟨_,vs,h1,_⟩:=g;exact⟨vs,h1⟩
 |_=>cases h
def mtL(h:Nat->List Tr->Ab->Rz Tr)(r:Rz Tr)(l:Ab->Rz (List Tr)):Rz Tr:=r.bind λt A=>match t with
 |.at i=>if W0 A i=true then(l A).bind λts A=>h i ts A else .bad
 |_=>.bad
variable {r:V->List V->Hp->VK->Prop}{h:Nat->List Tr->Ab->Rz Tr}
theorem W3(slot:Slot "list" au ax)(NF:typeOf (.builtin ax)=pure (.type "method_descriptor"))(hm:MtM X ax r)(hz:WrZ X r h)(ho:PE X o (tE X aH))(ha:PA X (e::az) (M' X aG))(pa:PlainAttrs "list":=by exact sX)
  (pQ:isCall o=false:=by rfl) (cH:bC (e::az)=true:=by rfl) (hn:(e::az).length<30:=by decide) (gi:(b8.endLine==p.line)=true:=by rfl):
  PE X (.Call (.Attribute o au b8) (e::az) [] p) (tE X λY A=>mtL h (aH Y A) (aG Y)):=
 (Gd pa slot NF hm ho ha (gE pQ) (by rw[jB cH,gB (show(e::az).length+([]:List Keyword).length+(if([]:List Keyword).isEmpty then 0 else 1)<30 from hn)];rfl) gi (bL _ _ (bp cH).1) (cS (bp cH).2)).weak λZ H Q ⟨B,A,Y,ha,r,n,q⟩=>⟨B,A,Y,ha,r,n,q.bind.mono λt A1 b v B1 H1 g1 l L=>by
  split at b
  ·rename_i i;obtain⟨a,rfl,I⟩:=L.nP;obtain⟨M,S⟩:=ir b;obtain⟨xs,g⟩:=SM l I M;exact⟨.inl ⟨rfl,xs,l0.of g⟩,B1,A1,Y,l,r.grow n g1,n,((iC.bind S).imp λc A' x=>x.grow ha.hb g1).mono λts A2 qs vs B2 H2 g2 p8 rs=>hz B2 A2 H2 a i vs ts Q p8 (g2.kE.x _ _ I) rs ((qs.imp λc A' x=>x.grow ha.hb (g1.trans ha.hb g2)).mono λt A3 b v B3 H3 g3 JI r3=>b v B3 H3 ((g1.trans ha.hb g2).trans ha.hb g3) JI r3)⟩
  ·exact b.elim⟩
def SN(i:Nat):List Tr->Ab->Rz Tr
 |[t],A=>match A[i]? with
  |some (.lst ts)=>if ts.length<dU then .ok .cu (A.set i (.lst (ts++[t])))else .bad
  |_=>.bad
 |_,_=>.bad
def vq:WrZ X Ge SN:=by
 intro B A H a i xs ts Q b l rs q;unfold SN at q;split at q
 ·obtain⟨y,rfl,r1⟩:=gm rs;split at q
  ·rename_i n;obtain⟨hz,q⟩:=ir q;obtain⟨hd,vs,h1,h2⟩:=b.get l n;obtain⟨g,r⟩:=b.write (o:=.lst (_++[_])) (u:=.lst (vs++[y])) l ⟨hd,_,bO,by rw[jo hd];exact h2.append (.cons r1 .nil)⟩;exact⟨a,vs,y,rfl,rfl,h1,by rw[h2.length,<-jO];exact hz,q .cu B _ g r .cu⟩
  ·exact q.elim
 ·exact q.elim
end
def yr(r:Rz Out):Rs Tr:=match r with
 |.ok (.nx _) _=>.ok .cu
 |.ok (.ret t) A=>if wo (aZ 3 A t)=true then .ok (aZ 3 A t)else .bad
 |_=>.bad
def yt:gF (startT ay ts):=λi us e=>by
 rcases qP e with q|⟨u,_,q⟩<;>cases q
theorem zm.okZ {base:Heap}{qual:Str}{st:Stmt}{f:Addr}{fd:FuncData}{N:List Str}{k:Nat}(Fn:zm K x qual st f fd)(S:g_ N ps (bJ st))(len:∀ts t,h ts=.ok t->ts.length=ps.length)
  (kR:∀(gf:Value) (A:Around) (outer:List Env) (s:Shared) (H:Hp) (E:XK),di k (A.deeper (envOfC qual (bJ st) s.heap.objs.size f gf))->
   ∃G,o5 (oY mv P w K mg base N qual (bJ st) f gf A outer s H E).JE (f_ st) (tZ (oY mv P w K mg base N qual (bJ st) f gf A outer s H E).JE G)/\∀ts t,h ts=.ok t->jD ts=true/\yr (G (startT N.length ts) [])=.ok t):eC P w K mg base mv (k+1) f fd ps (spT K h):=by
 refine Fn.ok S (λvs H Q E q=>?_) (λgf A outer s H vs Q E hr q=>?_)
 ·obtain⟨B,ts,hb,r,t,e,_⟩:=q;rw[r.length];exact len ts t e
 ·obtain⟨B,ts,hb,r,t,e,q⟩:=q;obtain⟨G,hG,hE⟩:=kR gf A outer s H E hr;obtain⟨na,l⟩:=hE ts t e
  let B0:fy:=⟨B.hd,λ_=>none⟩
  have M:HB B0 H:=hb;have I:HA K B0 [] H:=⟨M,λi o z=>by simp at z,(λa b i z=>by cases(show(none:Option Nat)=some i from z)),(λa i z=>by cases(show(none:Option Nat)=some i from z))⟩;have r0:bP K (cn B0 H) vs ts:=bP.KQ (W:=cn B H) (W':=cn B0 H) (λ_ _ e=>e) r na;have sm:∀{B':fy} {H':Hp},Grows B0 H B' H'->bj H H':=λg b o z=>g.kp b o rfl z;refine⟨_,hG,B0,H,B0,[],startT N.length ts,M,.refl,I,cL.start r0,yt,?_⟩;cases eo:G (startT N.length ts) []with
  |ok o A1=>
   rw[eo]at l;cases o with
   |nx Y=>cases l;exact λdF B' H' g ha r' n'=>q .cu H' (sm g) .cu
   |ret u=>
    have n:(if wo (aZ 3 A1 u)=true then Rs.ok (aZ 3 A1 u)else .bad)=.ok t:=l;by_cases z:wo (aZ 3 A1 u)=true
    ·rw[aX z]at n;cases n;intro v B' H' g ha r';refine q v H' (sm g) (Rep.KQ (λb o z=>?_) (jE ha 3 r') z);have z1:=bM b o z;cases L:B.hd b with
     |false=>rw[gS L];exact z1
     |true=>
      have h2:B'.hd b=true:=g.hd b rfl L;have h3:B'.ix b=none:=by
       cases h4:B'.ix b with
       |none=>rfl
       |some i=>have h5:=g.nw b i h4 rfl;obtain⟨o2,h6⟩:=hb b L;rw[h5]at h6;cases h6
      have z2:(if B'.un.hd b=true then none else H' b)=some o:=z;rw[show B'.un.hd b=(B'.hd b&&(B'.ix b).isNone)from rfl,h2,h3]at z2;cases z2
    ·rw[ba z]at n;cases n
   |_=>cases l
  |_=>rw[eo]at l;cases l
def Dg(n m:Nat)(G:bY->Ab->Rz Out)(ts:List Tr):Rs Tr:=if ts.length=n/\jD ts=true then yr (G (startT m ts) [])else .bad
def K0{n:Nat}(h:Dg n i aJ ts=.ok aB):ts.length=n:=by
 unfold Dg at h;split at h
 ·rename_i z;exact z.1
 ·cases h
def Oq{t:Tr}(h:Dg i ay aJ ts=.ok t):jD ts=true/\yr (aJ (startT ay ts) [])=.ok t:=by
 unfold Dg at h;split at h
 ·rename_i z;exact⟨z.2,h⟩
 ·cases h
section
theorem W4(h:PA X az (CO X L)):PE X (.List az pos) (tF X λY=>CU (L Y)):=
 (Kb h).weak λZ H Q ⟨B,Y,hb,r,q⟩=>⟨B,Y,hb,r,q.bind.mono λts b vs H1 s1 g=>by
  by_cases hz:ts.length<=dU
  ·rw[aX hz]at b;refine⟨by rw[g.length,<-jO];exact hz,λp hp=>b (.ref p) _ (s1.CL (s1.free hp)) (.lst ((hb.same s1).new hp) (g.same (bK (bj.upd hp)))) λp' e=>by cases e;exact .upd (s1.free hp) (λ_ _ z=>by cases z)⟩
  ·rw[ba hz]at b;exact b.elim⟩
theorem SO:PE X (.Dict [] [] pos) (tF X λ_=>.ok (.bU [])):=
 Kj.weak λZ H Q ⟨B,Y,hb,r,q⟩ p hp=>q (.ref p) _ (bj.upd hp) (.bU (.inl (hb.new hp)) rfl .nil) λp' e=>by cases e;exact .upd hp (λ_ _ z=>by cases z)
variable {scope:Scope}{N':List Str}{ix:List (Option Nat)}{elt c0:Expr}{ifs:List Expr}{T:o6}{W:bY->Rs (List Tr)}
def Ae{Q:VK}(hT:kg T)(q:tF X (λY=>vV ix T aE F (W Y) Y) Z H Q):U1 (tI X W) ix (Qf X.K T) (Qe X.K aE) (Qd X.K F) Z H Q:=by
 obtain⟨B,Y,hb,r,q⟩:=q;refine⟨B,Y,hb,r,q.bind.mono λts b J H1 s1 gt D g=>?_⟩;by_cases hz:ts.length<=dU
 ·rw[aX hz]at b;exact wJ hT (wI ix Y) (hb.same s1) gt hz ((r.same s1).comp ix (kS g)) g (Fi.bind b) λys H' k s' l=>k _ H' (s1.trans s') l λp e=>by cases e;exact .lst (s1.free g) l
 ·rw[ba hz]at b;exact b.elim
theorem aaX(Lk:gX X N' ix scope)(hi:PI X tg c0 (tI X W))(mw:N1 X scope N' tg elt ifs T aE F)(hT:kg T)(hc:X.calm=true:=by rfl) (hs:isSet c0=false:=by rfl):
  PE X (.ListComp elt [⟨tg,c0,ifs,0⟩] scope pos) (tF X λY=>vV ix T aE F (W Y) Y):=
 (Kr Lk hc hi mw.U5 (ip hs)).weak λZ H Q q=>Ae hT q
theorem Ot(Lk:gX X N' ix scope)(hit:PI X tg c0 (tI X W))(mw:N1 X scope N' tg elt ifs T aE F)(hT:kg T)(hN:X.N.Nodup:=by assumption) (hc:X.calm=true:=by rfl) (hi:X.N[i]?=some x:=by rfl) (hx:Loc X.env.scope x:=by first|exact Or.inl rfl|exact Or.inr rfl)
  (Ie:swapsWith (.ListComp elt [⟨tg,c0,ifs,0⟩] scope pos) (some (.Name x p)) b8.line X.env=pure true:=by rfl) (hs:isSet c0=false:=by rfl) (hf:zl X x:=by first|exact .inl rfl|exact .inr rfl|assumption):
  PS X (.Assign [.Name x p] (.ListComp elt [⟨tg,c0,ifs,0⟩] scope pos) b8) (tZ X λY A'=>Bk i (wq (vV ix T aE F (W (dM A' Y)) (dM A' Y)) A') Y):=
 (x_ Lk hc hN hi hx hit mw.U5 Ie (ip hs) hf).weak λD Z H ⟨B0,H0,B,A',Y,hb,g,ha,r,n,q⟩=>Ae hT (sx (F:=λY=>vV ix T aE F (W Y) Y) (p7 (F:=λY A'=>wq (vV ix T aE F (W (dM A' Y)) (dM A' Y)) A') hb g ha r n q.bind λt A2 v B' H' b g' l I L _=>b _ B' H' g' l (I.set i L) (n.set i t)))
inductive rF(X:Cx)(h:List Tr->Rs Tr)(xs:List V)(H:Hp)(Q:VK):Prop
 |mk (B:fy) (ts:List Tr):HB B H->bP X.K (cn B H) xs ts->(Fi X H (h ts) fun t=>∀v H',bj H H'->Rep X.K (cn B H') v t->(∀p,v=.ref p->SA H H' p)->Q v H')->rF X h xs H Q
theorem K1(hc:gP X (.type ax) (rF X h))(hm:X.mg x=none)(ha:PA X (e::az) (CO X L))(hv:bootBuiltins x=some (.type ax):=by rfl) (hg:Gl X x:=by rfl) (hn:x≠"__name__":=by decide) (fR:Db x:=by decide)
  (cH:bC (e::az)=true:=by rfl):PE X (.Call (.Name x p) (e::az) [] pos) (tF X λY=>d4 h (L Y)):=
 (vh hc hg hm hv ha hn fR (bL _ _ (bp cH).1) (cS (bp cH).2)).weak λZ H Q ⟨B,Y,hb,r,q⟩=>⟨B,Y,hb,r,q.bind.mono λts b vs H1 s1 r1=>⟨B,ts,hb.same s1,r1,(b.same s1).mono λt b v H2 s2 g fr=>b v H2 (s1.trans s2) g λp e=>⟨s1.free (fr p e).1,(fr p e).2⟩⟩⟩
theorem Ou:gP X (.type "list") (rF X Qg):=by
 intro U s Z H xs us Q I b ⟨B,ts,hb,r,q⟩;unfold Qg at q;split at q
 ·obtain⟨x,e,r1⟩:=gm r;obtain⟨o,vs,rfl,h,rr⟩:=r1.dX;exact um U s Z H _ us Q I b ⟨_,_,e,.inr h.up,λp hp=>q _ _ (bj.upd hp) (.Bf hb hp rr) λp' e=>by cases e;exact .upd hp (λ_ _ z=>by cases z)⟩
 ·obtain⟨x,e,r1⟩:=gm r;obtain⟨o,vs,rfl,h,rr⟩:=r1.lst_inv;exact um U s Z H _ us Q I b ⟨_,_,e,.inl (.of (d8 h)),λp hp=>q _ _ (bj.upd hp) (.Bf hb hp rr) λp' e=>by cases e;exact .upd hp (λ_ _ z=>by cases z)⟩
 ·exact q.elim
end
section
variable {H1 H':Hp}{o:Obj}{kvs:List (Key×V)}
theorem Inv.frozen (I:Inv X U Z H s)(ha:H a=some (.dK kvs))(ho:s.heap.get? a=some o):Inv X U Z (upd H a (.lD o (.dK kvs))) s:=by
 have ne:∀{b:Addr} {u:HO},H b=some u->u≠ .dK kvs->b≠a:=λ{b u} e d z=>by subst z;rw[ha]at e;cases e;exact d rfl
 have nn:∀{b:Addr},H b=none->b≠a:=λ{b} e z=>by subst z;rw[ha]at e;cases e
 refine⟨I.ok,I.os,I.bare,⟨I.base.keep,I.base.slot,λb g e n l=>?_,I.base.there,λb xs e=>?_,λb g u e=>?_,λb ps e=>?_⟩,I.loc,I.cell,?_,λx c e=>?_,λp hp=>?_,λb u e=>?_,I.len⟩
 ·have q:=I.base.free b g e n l;rw[bo (nn q)];exact q
 ·have q:=I.base.mU b xs e;rw[bo (ne q (λz=>by cases z))];exact q
 ·have q:=I.base.lE b g u e;rw[bo (ne q (λz=>by cases z))];exact q
 ·obtain⟨m,q⟩:=I.base.nM b ps e;exact⟨m,by rw[bo (ne q (λz=>by cases z))];exact q⟩
 ·rw[bo (nn I.free)];exact I.free
 ·rw[bo (nn (I.gg x c e))];exact I.gg x c e
 ·obtain⟨p1,p2,r⟩:=I.pin p hp;exact⟨p1,by rw[bo (nn p2)];exact p2,r⟩
 ·have ow:∀c d,H c=some (.own d)->upd H a (.lD o (.dK kvs)) c=some (.own d):=λc d q=>by rw[bo (ne q (λz=>by cases z))];exact q
  have tu:∀c xs,H c=some (.tup xs)->upd H a (.lD o (.dK kvs)) c=some (.tup xs):=λc d q=>by rw[bo (ne q (λz=>by cases z))];exact q
  by_cases z:b=a
  ·subst z;rw[bO]at e;cases e;exact⟨ho,(I.cX b _ ha).pM (λ_ _ _ q=>q) (λc q=>ow c b q) tu⟩
  ·rw[bo z]at e;exact(I.cX b u e).pM (λ_ _ _ q=>q) (λc q=>ow c b q) tu
theorem Inv.SQ (I:Inv X U Z H s)(ha:H a=some (.lD o (.dK kvs)))(h0:∀o' u,X.Cu a≠some (.lD o' u)):Inv X U Z (upd H a (.dK kvs)) s:=by
 have ne:∀{b:Addr} {u:HO},H b=some u->u≠ .lD o (.dK kvs)->b≠a:=λ{b u} e d z=>by subst z;rw[ha]at e;cases e;exact d rfl
 have nn:∀{b:Addr},H b=none->b≠a:=λ{b} e z=>by subst z;rw[ha]at e;cases e
 refine⟨I.ok,I.os,I.bare,⟨I.base.keep,I.base.slot,λb g e n l=>?_,I.base.there,λb xs e=>?_,λb g u e=>?_,λb ps e=>?_⟩,I.loc,I.cell,?_,λx c e=>?_,λp hp=>?_,λb u e=>?_,I.len⟩
 ·have q:=I.base.free b g e n l;rw[bo (nn q)];exact q
 ·have q:=I.base.mU b xs e;rw[bo (ne q (λz=>by cases z))];exact q
 ·have q:=I.base.lE b g u e;rw[bo (λz=>by subst z;exact h0 _ _ e)];exact q
 ·obtain⟨m,q⟩:=I.base.nM b ps e;exact⟨m,by rw[bo (ne q (λz=>by cases z))];exact q⟩
 ·rw[bo (nn I.free)];exact I.free
 ·rw[bo (nn (I.gg x c e))];exact I.gg x c e
 ·obtain⟨p1,p2,r⟩:=I.pin p hp;exact⟨p1,by rw[bo (nn p2)];exact p2,r⟩
 ·have ow:∀c d,H c=some (.own d)->upd H a (.dK kvs) c=some (.own d):=λc d q=>by rw[bo (ne q (λz=>by cases z))];exact q
  have tu:∀c xs,H c=some (.tup xs)->upd H a (.dK kvs) c=some (.tup xs):=λc d q=>by rw[bo (ne q (λz=>by cases z))];exact q
  by_cases z:b=a
  ·subst z;rw[bO]at e;cases e;exact(I.cX b _ ha).2.pM (λ_ _ _ q=>q) (λc q=>ow c b q) tu
  ·rw[bo z]at e;exact(I.cX b u e).pM (λ_ _ _ q=>q) (λc q=>ow c b q) tu
structure Af(H H':Hp)(a:Addr)(u u':HO)(kvs:List (Key×V)):Prop where
 fr:H a=some u
 to:H'=upd H a u'
 ok:(u=.dK kvs/\∃o,u'=.lD o (.dK kvs))\/(u'=.dK kvs/\∃o,u=.lD o (.dK kvs))
variable {u u':HO}
def Af.uF (w:Af H H' a u u' kvs){b:Addr}{x:HO}(e:H b=some x)(q:∀k,x≠ .dK k)(h2:∀o k,x≠ .lD o (.dK k)):H' b=some x:=by
 rw[w.to,bo ?_]
 ·exact e
 ·intro z;subst z;rw[w.fr]at e;cases e;rcases w.ok with⟨g,_⟩|⟨_,o,g⟩
  ·exact q _ g
  ·exact h2 _ _ g
def l_{x:HO}(e:(cn B H).H a=some x)(h:H a=some x->H' a=some x):(cn B H').H a=some x:=by
 have b:(if B.hd a=true then none else H a)=some x:=e;show(if B.hd a=true then none else H' a)=some x;split at b
 ·cases b
 ·rename_i n;rw[ba n];exact h b
def Af.seq (w:Af H H' a u u' kvs){b:Addr}{xs:List V}(h:l0 K (cn B H).H b xs):l0 K (cn B H').H b xs:=by
 rcases h with(h|⟨o,h⟩)|h
 ·exact .inl (.inl (l_ h λe=>w.uF e (λ_ z=>by cases z) λ_ _ z=>by cases z))
 ·exact .inl (.inr ⟨o,l_ h λe=>w.uF e (λ_ z=>by cases z) λ_ _ z=>by cases z⟩)
 ·exact .inr h
def Af.tup (w:Af H H' a u u' kvs){b:Addr}{xs:List V}(h:jl K (cn B H).H b xs):jl K (cn B H').H b xs:=by
 rcases h with(h|⟨o,h⟩)|h
 ·exact .inl (.inl (l_ h λe=>w.uF e (λ_ z=>by cases z) λ_ _ z=>by cases z))
 ·exact .inl (.inr ⟨o,l_ h λe=>w.uF e (λ_ z=>by cases z) λ_ _ z=>by cases z⟩)
 ·exact .inr h
def Af.bU (w:Af H H' a u u' kvs){b:Addr}{ks:List (Key×V)}(h:Rd (cn B H).H b (.dK ks)):Rd (cn B H').H b (.dK ks):=by
 by_cases z:b=a
 ·subst z;have hb:B.hd b=false:=by
   cases q:B.hd b with
   |false=>rfl
   |true=>
    have n:(cn B H).H b=none:=by show(if B.hd b=true then none else H b)=none;rw[aX q]
    rcases h with h|⟨o,h⟩<;>(rw[n]at h;cases h)
  have h':Rd H b (.dK ks):=by unfold Rd at h⊢;rw[gS hb]at h;exact h
  have l:ks=kvs:=by
   rcases h' with h|⟨o,h⟩<;>rw[w.fr]at h<;>rcases w.ok with⟨g,_⟩|⟨_,o',g⟩<;>rw[g]at h<;>cases h<;>rfl
  subst l;unfold Rd;rw[gS hb,w.to,bO];rcases w.ok with⟨_,o',g⟩|⟨g,_⟩
  ·rw[g];exact .inr ⟨o',rfl⟩
  ·rw[g];exact .inl rfl
 ·have r:(cn B H').H b=(cn B H).H b:=by
   show(if B.hd b=true then none else H' b)=(if B.hd b=true then none else H b);rw[w.to,bo z]
  unfold Rd;rw[r];exact h
def Af.rep (w:Af H H' a u u' kvs){v:V}{t:Tr}(h:Rep K (cn B H) v t):Rep K (cn B H') v t:=by
 refine Rep.rec (motive_1:=λv t _=>Rep K (cn B H') v t) (motive_2:=λvs ts _=>bP K (cn B H') vs ts) ?_ ?_ ?_ ?_ ?_ ?_ ?_ ?_ ?_ ?_ ?_ ?_ ?_ ?_ ?_ h
 ·exact .cu
 ·exact λb=>.bl b
 ·exact λi=>.int i
 ·exact λz h=>.str z h
 ·exact λn=>.ty n
 ·exact λh=>.vR (w.seq h)
 ·exact λh _ r=>.tup (w.tup h) r
 ·exact λh _ r=>.lst (l_ h λe=>w.uF e (λ_ z=>by cases z) λ_ _ z=>by cases z) r
 ·exact λh e _ r=>.bU (w.bU h) e r
 ·exact λh=>.at h
 ·exact λh e _ r=>.vS (l_ h λe=>w.uF e (λ_ z=>by cases z) λ_ _ z=>by cases z) e r
 ·exact λh e _ r=>.ob (l_ h λe=>w.uF e (λ_ z=>by cases z) λ_ _ z=>by cases z) e r
 ·exact λh c=>.zU (l_ h λe=>w.uF e (λ_ z=>by cases z) λ_ _ z=>by cases z) c
 ·exact .nil
 ·exact λ_ _ h r=>.cons h r
theorem Af.W5 (w:Af H H' a u u' kvs):∀{vs:List V} {ts:List Tr},bP K (cn B H) vs ts->bP K (cn B H') vs ts
 |[],_,h=>by cases h;exact .nil
 |_::_,_,h=>by cases h with|cons h r=>exact .cons (w.rep h) (Af.W5 w r)
def Af.Iw {Y:bY}(w:Af H H' a u u' kvs)(h:cL K B H Z Y):cL K B H' Z Y:=
 ⟨h.len,λi t e=>by obtain⟨v,b,r⟩:=h.sh i t e;exact⟨v,b,w.rep r⟩,
   λi ts e=>by obtain⟨D,ys,b,g,l,r⟩:=h.ow i ts e;exact⟨D,ys,b,g,w.uF l (λ_ z=>by cases z) (λ_ _ z=>by cases z),w.W5 r⟩,h.ap⟩
def Af.hb (w:Af H H' a u u' kvs)(h:HB B H):HB B H':=λb e=>by
 obtain⟨o,q⟩:=h b e;by_cases z:b=a
 ·subst z;rw[w.to];exact⟨_,bO⟩
 ·exact⟨o,by rw[w.to,bo z];exact q⟩
def Iy(X:Cx)(B:fy)(H H':Hp):Prop:=bj H H'\/∃H1 a o kvs,bj H H1/\B.hd a=false/\H1 a=some (.dK kvs)/\H'=upd H1 a (.lD o (.dK kvs))/\∀o u,X.Cu a≠some (.lD o u)
def kU(X:Cx)(H:Hp)(k:Hp->Prop):Prop:=k H\/∃a o kvs,H a=some (.lD o (.dK kvs))/\(∀o u,X.Cu a≠some (.lD o u))/\k (upd H a (.dK kvs))
def kU.inv {k:Hp->Prop}(q:kU X H k)(I:Inv X U Z H s):∃H',Inv X U Z H' s/\k H':=by
 rcases q with q|⟨a,o,kvs,e,h0,q⟩
 ·exact⟨H,I,q⟩
 ·exact⟨_,I.SQ e h0,q⟩
def PE.U8 {t:TE}(h:PE X e t):PE X e (λZ H Q=>t Z H λv H'=>kU X H' (Q v)):=λU s Z H Q I q=>
 eJ (h U s Z H _ I q) λu s' ⟨v,H',b,r,z⟩=>by
  obtain⟨H2,g,l⟩:=z.inv b;exact⟨v,H2,g,r,l⟩
def Ends.U8 (X:Cx)(D:Ends):Ends:=⟨λZ H=>kU X H (D.nx Z),λv H=>kU X H (D.rt v),λZ H=>kU X H (D.bk Z),λZ H=>kU X H (D.ct Z)⟩
theorem PS.U8 {st:Stmt}{t:TS}(h:PS X st t):PS X st (λD Z H=>t (D.U8 X) Z H):=λU s Z H D I q=>
 eJ (h U s Z H _ I q) λf s' z=>by
  cases f with
  |next=>obtain⟨dF,H',b,z⟩:=z;obtain⟨H2,g,l⟩:=kU.inv z b;exact⟨dF,H2,g,l⟩
  |brk=>obtain⟨dF,H',b,z⟩:=z;obtain⟨H2,g,l⟩:=kU.inv z b;exact⟨dF,H2,g,l⟩
  |cont=>obtain⟨dF,H',b,z⟩:=z;obtain⟨H2,g,l⟩:=kU.inv z b;exact⟨dF,H2,g,l⟩
  |ret u=>obtain⟨v,dF,H',b,r,z⟩:=z;obtain⟨H2,g,l⟩:=kU.inv z b;exact⟨v,dF,H2,g,r,l⟩
theorem Iy.Iw {Y:bY}(h:Iy X B H H')(r:cL K B H Z Y):cL K B H' Z Y:=by
 rcases h with s|⟨H1,a,o,kvs,s,b,ha,rfl,h0⟩
 ·exact r.same s
 ·exact Af.Iw (u:=.dK kvs) ⟨ha,rfl,.inl ⟨rfl,o,rfl⟩⟩ (r.same s)
theorem Iy.hb (h:Iy X B H H')(r:HB B H):HB B H':=by
 rcases h with s|⟨H1,a,o,kvs,s,b,ha,rfl,h0⟩
 ·exact r.same s
 ·exact Af.hb (u:=.dK kvs) ⟨ha,rfl,.inl ⟨rfl,o,rfl⟩⟩ (r.same s)
theorem Iy.free {p:Addr}(h:Iy X B H H')(e:H' p=none):H p=none:=by
 rcases h with s|⟨H1,a,o,kvs,s,b,ha,rfl,h0⟩
 ·exact s.free e
 ·refine s.free ?_
  by_cases z:p=a
  ·subst z;rw[bO]at e;cases e
  ·rw[bo z]at e;exact e
def Iy.back {H2:Hp}{B2:fy}{C:fy}(h:Iy X B H H')(si:d_ C B H' B2 H2):∃Hu,d_ C B H B2 Hu/\(∀{K:Frag} {B3:fy} {v:V} {t:Tr},Rep K (cn B3 H2) v t->Rep K (cn B3 Hu) v t)/\(∀{K:Frag} {Z:St} {Y:bY},cL K B2 H2 Z Y->cL K B2 Hu Z Y)/\∀k:Hp->Prop,k Hu->kU X H2 k:=by
 rcases h with s|⟨H1,a,o,kvs,s,L,ha,rfl,h0⟩
 ·exact⟨H2,⟨λb o c e=>si.kp b o c (s _ _ e),(bK s).trans si.kE,si.sub,si.hb⟩,λr=>r,λr=>r,λk q=>.inl q⟩
 ·have M:(cn B (upd H1 a (.lD o (.dK kvs)))).H a=some (.lD o (.dK kvs)):=by rw[gS L];exact bO
  have g:=si.kE.h _ _ M;have I:H2 a=some (.lD o (.dK kvs)):=bM _ _ g;have w:Af H2 (upd H2 a (.dK kvs)) a (.lD o (.dK kvs)) (.dK kvs) kvs:=⟨I,rfl,.inr ⟨rfl,o,rfl⟩⟩;have l:B2.hd a=false:=by
   cases q:B2.hd a with
   |false=>rfl
   |true=>
    have n:(cn B2 H2).H a=none:=by show(if B2.hd a=true then none else H2 a)=none;rw[aX q]
    rw[n]at g;cases g
  refine⟨upd H2 a (.dK kvs),⟨λb ob c e=>?_,⟨λb ob e=>?_,λb i e=>?_⟩,si.sub,w.hb si.hb⟩,λr=>w.rep r,λr=>w.Iw r,λk q=>.inr ⟨a,o,kvs,I,h0,q⟩⟩
  ·have q:=s _ _ e;by_cases z:b=a
   ·subst z;rw[ha]at q;cases q;exact bO
   ·rw[bo z];exact si.kp b ob c (by rw[bo z];exact q)
  ·by_cases z:b=a
   ·subst z;have q:=s _ _ (bM _ _ e);rw[ha]at q;cases q;rw[gS l];exact bO
   ·have q:(cn B (upd H1 a (.lD o (.dK kvs)))).H b=some ob:=l_ e λe=>by rw[bo z];exact s _ _ e
    exact l_ (si.kE.h _ _ q) λe=>by rw[bo z];exact e
  ·exact si.kE.x b i e
def Iy.Qs {H2:Hp}(h:Iy X B H H')(hb:HB B H)(s2:bj H' H2):∃q,bj H q/\(∀{K:Frag} {B3:fy} {v:V} {t:Tr},Rep K (cn B3 H2) v t->Rep K (cn B3 q) v t)/\∀k:Hp->Prop,k q->kU X H2 k:=by
 obtain⟨q,g,r,_,k⟩:=h.back (C:=B) (B2:=B) (H2:=H2) ⟨λb o _ e=>s2 _ _ e,bK s2,.refl,(h.hb hb).same s2⟩;exact⟨q,g.same,r,k⟩
end
def Itd(a:Addr)(o:Obj)(kvs:List (Key×V)):It:=
 ⟨λi H=>H a=some (.lD o (.dK kvs))/\i<kvs.length,λi H x H'=>H'=H/\∃k v,kvs[i]?=some (k,v)/\x=kV k,λi H=>H a=some (.lD o (.dK kvs))/\kvs.length<=i⟩
def Bl{kvs:List (Key×V)}{vs:List (Key×Value)}(r:KV kvs vs){k:Key}{v:V}(e:kvs[i]?=some (k,v)):∃u,vs[i]?=some (k,u):=by
 have b:Paired _ kvs vs:=r
 clear r
 induction b generalizing i with
 |nil=>simp at e
 |cons h t g=>
  cases i with
  |zero=>
   simp at e;subst e;rename_i q _ _;obtain⟨n,l⟩:=q;cases h.1;exact⟨l,rfl⟩
  |succ j=>exact g (by simpa using e)
def sA{kvs:List (ag×V)}{vs:List (ag×Value)}(r:KV kvs vs):kvs.length=vs.length:=by
 have b:Paired _ kvs vs:=r
 clear r
 induction b with
 |nil=>rfl
 |cons h t g=>rw[dw,dw,g]
theorem Iz(a it:Addr)(o:Obj)(kvs:List (Key×V))(es:Array DictEntry)(ep:Nat)(hd:o.data=.dict es ep):Turn P w K tg (Itd a o kvs) [it] it (λi h=>h.IsKeyIter it a i kvs.length ep) where
 mem:=by simp
 obj:=λi h st b hb=>by
  have e:b=it:=by simpa using hb
  subst e;obtain⟨o,e,c,d⟩:=st;exact⟨o,e,λv z=>by rw[d]at z;cases z⟩
 keep:=λi h h' st k=>by
  obtain⟨o,e,c⟩:=st;exact⟨o,k it (by simp) o e,c⟩
 item:=by
  intro X r hw L hc i U s Z H E I hf st ⟨M,hi⟩;subst r hw L;obtain⟨g,hz,hs,vs,rv,o',AU,JP,h1,h2,l,S⟩:=(show cY X.prog X.w H s.heap a (.lD o (.dK kvs))from I.cX a _ M);rw[g]at h1;cases h1;rw[hd]at l;cases l;obtain⟨f0,f1,f2,q,f4,f5⟩:=hf it (by simp);have n:=sA rv;have ex:kvs[i]?=some (kvs[i].1,kvs[i].2):=by simp[hi]
  obtain⟨u,hu⟩:=Bl rv ex;rw[n]at st;refine wpAny_pyNext_dict_item (knd:=cp X.prog X.w) st ⟨o,es,g,h2,hd,S⟩ hu λkey h' hk xN sb=>?_
  have I1:Inv X U Z H {s with heap:=h'}:=I.turned (t':=s.toks) (λb o hb e=>(sb.2 b hb).trans e) f0 f1 q f4 f5;obtain⟨oi,e,c,d⟩:=id xN;refine⟨key,rfl,zL (s:={s with heap:=h'}) e c d (by decide) ⟨kV kvs[i].1,H,I1,?_,⟨rfl,_,_,ex,rfl⟩,by rw[n];exact xN,λb hb=>(hf b hb).1⟩⟩;rcases dQ hk with⟨j,t,e1,e2⟩|⟨y,t,e1,e2⟩
  ·rw[e1,e2];exact⟨t,rfl⟩
  ·rw[e1,e2];exact⟨t,rfl⟩
 done:=by
  intro X r hw L hc i U s Z H E I hf st ⟨M,hi⟩;subst r hw L;obtain⟨g,hz,hs,vs,rv,o',AU,JP,h1,h2,l,S⟩:=(show cY X.prog X.w H s.heap a (.lD o (.dK kvs))from I.cX a _ M);rw[g]at h1;cases h1;rw[hd]at l;cases l;obtain⟨f0,f1,f2,q,f4,f5⟩:=hf it (by simp);have n:=sA rv;rw[n]at st;exact wpAny_pyNext_dict_end (knd:=cp X.prog X.w) (I.ok.hd hc) st ⟨o,es,g,h2,hd,S⟩ (List.getElem?_eq_none (by rw[<-n];exact hi)) λh' eb=>⟨rfl,I.turned (t':=s.toks) (λb o hb e=>eb b o hb e) f0 f1 q f4 f5⟩
 self:=λ_ _ _ _ _ st h=>wpAny_pyIter_keyiter st h
def Ag:Key->Tr
 |.inl i=>.int i
 |.inr z=>.str z
def keyOk:Key->Bool
 |.inl _=>true
 |.inr z=>decide (z.length<=cZ)
def Ah{W:Vw}{k:Key}(h:keyOk k=true):Rep K W (kV k) (Ag k):=by
 cases k with
 |inl i=>exact .int i
 |inr z=>exact .str z (eN h)
def Dh(bE:List (Key×Tr)):Rs (List Tr):=if bE.all (λp=>keyOk p.1)=true then .ok (bE.map λp=>Ag p.1)else .bad
def K2(r:Rs Tr):Rs (List Tr):=r.bind λt=>match t with
 |.bU bE=>Dh bE
 |_=>.bad
inductive tJ(X:Cx)(W:bY->Rs (List Tr))(Z:St)(H:Hp)(R:It->Hp->Prop):Prop
 |mk (B:fy) (Y:bY):HB B H->cL X.K B H Z Y->(Fi X H (W Y) fun ts=>∀J H',Iy X B H H'->oM X.K B J H' ts->R J H')->tJ X W Z H R
theorem E6{o:Obj}{kvs:List (Key×V)}(h:(cn B H).H a=some (.lD o (.dK kvs)))(e:kvs.map (·.1)=aF.map (·.1))(hk:aF.all (λp=>keyOk p.1)=true):oM K B (Itd a o kvs) H (aF.map λp=>Ag p.1):=by
 have l:kvs.length=aF.length:=by have q:=dh List.length e;rw[bt,bt]at q;exact q
 refine⟨λi B' H' hi s hb=>⟨bM _ _ (s.h _ _ h),by rw[bt]at hi;rw[l];exact hi⟩,λi B' H' x L hi s hb ⟨r,k,v,I,ex⟩=>?_,λB' H' s=>⟨bM _ _ (s.h _ _ h),by rw[bt,l];exact bu _⟩⟩;subst r ex;have b:(kvs.map (·.1))[i]?=some k:=by rw[ck,I];rfl
 rw[e,ck]at b;cases g:aF[i]? with
 |none=>rw[g]at b;cases b
 |some p=>
  rw[g]at b;have n:p.1=k:=Option.some.inj b;refine⟨bj.refl _,Ag k,by rw[ck,g,<-n];rfl,Ah ?_⟩;rw[<-n];exact dD.mp hk p (d6 g)
section
theorem W6(hl:PE X al (tP X F)):PI X tg al (tJ X λY=>K2 (F Y)):=by
 intro U s Z H R I ⟨B,Y,hb,r,q⟩;refine eJ (hl U s Z H (λx H1=>∃(a:Addr) (kvs:List (Key×V)) (bE:List (Key×Tr)),x=.ref a/\bj H H1/\Rd (cn B H1).H a (.dK kvs)/\kvs.map (·.1)=bE.map (·.1)/\bE.all (λp=>keyOk p.1)=true/\∀J H',Iy X B H H'->oM X.K B J H' (bE.map λp=>Ag p.1)->R J H') I ⟨B,Y,hb,r,q.bind.mono λt M v H1 s1 r1=>?_⟩) λv s1 ⟨x,H1,l,r1,a,kvs,bE,ex,sm,rd,ek,hk,k⟩=>?_
 ·skip
  split at M
  ·obtain⟨a,kvs,S,h,e,rr⟩:=r1.nO;obtain⟨z,q1⟩:=iq M;exact⟨a,kvs,_,S,s1,h,e,z,q1⟩
  ·exact M.elim
 ·subst ex;cases r1;have L:Rd H1 a (.dK kvs):=rd.same bM;have hv:B.hd a=false:=by
   cases z:B.hd a with
   |false=>rfl
   |true=>
    have n:(cn B H1).H a=none:=by show(if B.hd a=true then none else H1 a)=none;rw[aX z]
    rcases rd with h|⟨o,h⟩<;>(rw[n]at h;cases h)
  obtain⟨hz,hs,vs,rv,o,es,ep,h1,h2,h3,h4⟩:=(show cY X.prog X.w H1 s1.heap a (.dK kvs)from L.ok l.cX);refine wpAny_pyIter_dict (knd:=cp X.prog X.w) hs ⟨o,es,h1,h2,h3,h4⟩ ?_
  have fin:∀{H2:Hp},Inv X U Z H2 s1->H2 a=some (.lD o (.dK kvs))->Iy X B H H2->ZF X U Z tg R (.ref s1.heap.objs.size) {s1 with heap:=s1.heap.push {cls:=.type "dict_keyiterator",data:=.fields #[.ref a,.int 0 0,.int vs.length 0,.int ep 0]}}:=λ{H2} I2 e2 tf=>
   ⟨s1.heap.objs.size,[s1.heap.objs.size],_,Itd a o kvs,H2,rfl,I2.kept (t':=s1.toks) λb o e=>bS _ e,Iz a _ o kvs es ep h3,⟨_,cy _ rfl,rfl,by rw[sA rv];rfl⟩,λb hb=>by
    have e:b=s1.heap.objs.size:=by simpa using hb
    subst e;exact I2.zr (bu _) (I2.cX.fresh (bu _)),k _ H2 tf (E6 (by rw[gS hv];exact e2) ek hk)⟩
  rcases L with g|⟨o',g⟩
  ·refine fin (l.frozen g h1) bO (.inr ⟨H1,a,o,kvs,sm,hv,g,rfl,λo' u S=>?_⟩);have q:=l.base.lE a o' u S;rw[g]at q;cases q
  ·have eo:o'=o:=by
    have q:=(show cY X.prog X.w H1 s1.heap a (.lD o' (.dK kvs))from l.cX a _ g).1;rw[h1]at q;cases q;rfl
   subst eo;exact fin l g (.inl sm)
variable {a b:Expr}{es:List Expr}{A:bY->Rs Bool}{scope:Scope}{N':List Str}{ix:List (Option Nat)}{elt c0:Expr}{ifs:List Expr}{T:o6}{W:bY->Rs (List Tr)}
def IA{Q:VK}(hT:kg T)(q:tP X (λY=>vV ix T A F (W Y) Y) Z H Q):U1 (tJ X W) ix (Qf X.K T) (Qe X.K A) (Qd X.K F) Z H (λv H'=>kU X H' (Q v)):=by
 obtain⟨B,Y,hb,r,q⟩:=q;refine⟨B,Y,hb,r,q.bind.mono λts b J H1 g gt D l=>?_⟩;by_cases hz:ts.length<=dU
 ·rw[aX hz]at b;exact wJ hT (wI ix Y) (g.hb hb) gt hz ((g.Iw r).comp ix (kS l)) l (Fi.bind b) λys H' k s' n=>by
   obtain⟨I,L,M,S⟩:=g.Qs hb s';exact S _ (k _ I L (M n))
 ·rw[ba hz]at b;exact b.elim
theorem W7(Lk:gX X N' ix scope)(hi:PI X tg c0 (tJ X W))(mw:N1 X scope N' tg elt ifs T A F)(hT:kg T)(hc:X.calm=true:=by rfl) (hs:isSet c0=false:=by rfl):
  PE X (.ListComp elt [⟨tg,c0,ifs,0⟩] scope pos) (tP X λY=>vV ix T A F (W Y) Y):=
 (Kr Lk hc hi mw.U5 (ip hs)).U8.weak λZ H Q q=>IA hT q
theorem SR{G:bY->Rs Out}(hi:PI X tg c0 (tJ X W))(hg:PG X tg (tG X T))(hb:o5 X ah (tS X G))(hp:PassesOwn (model X.prog X.w) X.A X.env X.xe:=by exact t5) (hc:X.calm=true:=by rfl)
  (hs:isSet c0=false:=by rfl):PS X (.For tg c0 ah [] pos) (tS X λY=>Gu T G (W Y) Y):=
 (J0 hp hc hi hg hb (ip hs)).U8.weak λD Z H ⟨C,B0,H0,B,Y,b,r,q⟩=>⟨B,Y,b.hb,r,(q.bind.here b).mono λts qt J H1 M gt=>by
  have si0:d_ B B H1 B H1:=d_.refl (M.hb b.hb) .refl;have fin:∀{c:Tr},xS X C B0 H0 c->False:=λ{c} xc=>xc B H b;have qt:=qO.imp (U2:=λ_=>False) qt λc xc=>(fin xc).elim;refine⟨λi m dF H'=>m=ts.length - i/\i<=ts.length/\∃B' iX,d_ C B H1 B' H'/\cL X.K B' H' dF iX/\qO (λ_=>False) (zy T G (ts.drop i) iX) (EN X D C B0 H0),⟨_,rfl,eP _,B,Y,d_.refl (M.hb b.hb) b.sub,M.Iw r,qt⟩,?_⟩
  rintro i m dF H' ⟨rfl,hi,B',iX,l,r',q'⟩
  by_cases hZ:i<ts.length
  ·rw[sT hZ]at q';refine .inr ⟨gt.go i B' H' hZ l.kE l.hb,λzt H2=>∃B2 g,d_ C B H1 B2 H2/\cL X.K B2 H2 zt g/\qO (λ_=>False) (zy T G (ts.drop (i+1)) g) (EN X D C B0 H0),
    λzt H2 ⟨B2,g,x1,x2,x3⟩=>⟨ts.length - (i+1),by omega,rfl,hZ,B2,g,x1,x2,x3⟩,λx H2 hx=>?_⟩
   obtain⟨s2,t,et,rt⟩:=gt.HR i B' H' x H2 hZ l.kE l.hb hx;have WC:ts[i]=t:=by rw[b_ hZ]at et;exact Option.some.inj et
   rw[WC]at q';have si2:=l.go s2;have qq:qO (λ_=>False) (T t iX) _:=qO.bind q';refine⟨B',iX,t,si2.hb,r'.same s2,rt,(qO.imp qq λc z=>z.elim).mono λsR q1 P0 H3 s3 r3=>?_⟩;have S:=si2.go s3;refine⟨C,B',H3,B',sR,d_.refl S.hb S.sub,r3,((qO.bind q1).imp λc z=>z.elim).mono λo qo=>?_⟩;cases o with
   |nx g=>exact λSJ n H4 I L=>⟨n,g,S.trans I,L,qo⟩
   |ct g=>exact λSJ n H4 I L=>⟨n,g,S.trans I,L,qo⟩
   |bk g=>
    intro SJ n H4 I L;obtain⟨Hu,su,ru,rs,ku⟩:=M.back (S.trans I);exact ku _ (qo SJ n Hu (b.trans su) (rs L))
   |ret t=>
    intro v n H4 I L;obtain⟨Hu,su,ru,rs,ku⟩:=M.back (S.trans I);exact ku _ (qo v n Hu (b.trans su) (ru L))
  ·have e:i=ts.length:=by omega
   subst e;rw[tR]at q';obtain⟨Hu,su,ru,rs,ku⟩:=M.back l;exact .inl ⟨gt.stop B' H' l.kE,ku _ (q' dF B' Hu (b.trans su) (rs r'))⟩⟩
end
theorem sC{α:Type}:∀(l:List α) (i:Nat) (hi:i<l.length),(l[i]::l.eraseIdx i).Perm l
 |x::r,0,_=>List.Perm.refl _
 |x::r,i+1,hi=>by
  have b:=sC r i (by simpa using hi);have g:i<r.length:=by simpa using hi
  show(r[i]::x::r.eraseIdx i).Perm (x::r);exact(List.Perm.swap _ _ _).trans (b.cons x)
def E7{M:Model}{src:Source}{Q:Nat->Shared->Prop}(q:ay≠0)(h:∀i,i<ay->∀d,Q i {s with drawn:=d}):wpAny M A (choose src ay) Q E s:=λb p _=>by
 unfold choose;rw[Sem.wp];refine⟨q,?_⟩;rw[Sem.wp];exact h _ (Nat.mod_lt _ (Nat.pos_of_ne_zero q)) _
theorem rL{M:Model}{α:Type}:∀(n:Nat) (xs:List α) (s:Shared) (Q:List α->Shared->Prop),xs.length=n->(∀ys d,ys.Perm xs->Q ys {s with drawn:=d})->wpAny M A (drawOrder n xs) Q E s
 |0,xs,s,Q,b,h=>by
  cases xs with
  |nil=>exact bg (h [] s.drawn (List.Perm.refl _))
  |cons _ _=>cases b
 |n+1,[],s,Q,b,h=>by cases b
 |n+1,x::r,s,Q,b,h=>by
  unfold drawOrder;refine aS (E7 (by simp) λi hi d=>?_);have g:(x::r)[i]?=some (x::r)[i]:=b_ hi
  rw[g];dsimp only;refine aS (rL n _ _ _ (by rw[Cp hi];simpa using b) λys d' hp=>?_);refine bg (h _ d' ?_);exact(hp.cons _).trans (sC _ i hi)
noncomputable abbrev Cj(w:World):Bool:=w.params.followText "set-order"
def ent(w:World)(p:Str×Tok):Int×Value:=(hashStr w p.1,.str p.1 p.2)
def lG(w:World)(h:Heap)(a:Addr)(ss:List Str):Prop:=
 ∃(o:Obj) (es:Array (Int×Value)) (ep:Nat) (t:SetTable) (l:List (Str×Tok)),h.get? a=some o/\o.ExactSet/\o.data=.set es ep t/\es.toList=l.map (ent w)/\(l.map (·.1)).Perm ss/\ss.Nodup/\es.size<scanBound/\
  t.fits es.size=true/\(Cj w=true\/t.led=true)/\(es.size≠0->t.plain=false)
theorem IB{l:List (Str×Tok)}:ElemsOf (PySem.strKind P w) (l.map (ent w)):=λe he=>by
 obtain⟨p,_,rfl⟩:=cI.mp he;exact⟨⟨p.1,by simp[PySem.strKind,ent,Value.isStrOf],rfl⟩,rfl⟩
def lG.typeIs {ss:List Str}(h:lG w s.heap a ss):s.TypeIs (.ref a) "set":=by
 obtain⟨o,_,_,_,_,b,g,_⟩:=h;exact⟨o,b,g.1⟩
def zz(t:SetTable)(n:Nat):(t.orStandIn n).led=t.led:=by
 unfold SetTable.orStandIn;split<;>rfl
def Ov(t:SetTable)(j:Nat):(t.put j).1.led=t.led:=by
 unfold SetTable.put
 rfl
def E8(t:SetTable)(es:Array (Int×Value))(h:Int)(x:Value):(layNew t es h x).2.1.led=t.led:=by
 unfold layNew;split
 ·dsimp only;rw[zz,Ov]
 ·rfl
theorem E9{t t':SetTable}{hs:Array Int}{o:Array Nat}(h:t.relaid hs i=some (t',o)):t'.led=t.led/\t'.plain=t.plain:=by
 unfold SetTable.relaid SetTable.laid at h;simp only[bind,Option.bind]at h;split at h
 ·cases h
 ·cases h;exact⟨rfl,rfl⟩
def Bm(t:SetTable)(es:Array (Int×Value))(n:Nat):(relayAll t es n).2.1.led=t.led/\(t.plain=false->(relayAll t es n).2.1.plain=false):=by
 unfold relayAll;split
 ·rename_i t' o e;have q:=E9 e;dsimp only;split
  ·exact⟨q.1,λz=>q.2.trans z⟩
  ·exact⟨rfl,λ_=>rfl⟩
 ·exact⟨rfl,λ_=>rfl⟩
theorem Ai(x:Str)(p:Str×Tok):(PySem.strKind P w).is x (ent w p).2=decide (x=p.1):=by
 have h:(PySem.strKind P w).is p.1 (ent w p).2=true:=by simp[PySem.strKind,ent,Value.isStrOf]
 exact KeyKind.is_eq_decide h x
def yu{h:Heap}{o:Obj}{es:Array (Int×Value)}{t:SetTable}(ho:h.get? a=some o)(hex:o.ExactSet)(hd:o.data=.set es i t){AU:Array (Int×Value)}{t':SetTable}{l':List (Str×Tok)}{Ck:List Str}
  (he:AU.toList=l'.map (ent w)) (hp:(l'.map (·.1)).Perm Ck) (hn:Ck.Nodup) (hb:AU.size<scanBound) (hf:t'.fits AU.size=true) (hl:Cj w=true\/t'.led=true) (oX:AU.size≠0->t'.plain=false):
  (h.update a (Obj.putSet AU t')).get? a=some {o with data:=.set AU (i+1) t'}/\lG w (h.update a (Obj.putSet AU t')) a Ck:=by
 have b:(h.update a (Obj.putSet AU t')).get? a=some {o with data:=.set AU (i+1) t'}:=by
  have q:=tq (Obj.putSet AU t') ho (by rw[putSet_of AU t' hd];rfl);rw[putSet_of AU t' hd]at q;exact q
 exact⟨b,_,AU,i+1,t',l',b,hex,rfl,he,hp,hn,hb,hf,hl,oX⟩
def IC{l:List (Str×Tok)}{u:Tok}{es:List (Int×Value)}(hp:es.Perm (l.map (ent w)++[(hashStr w x,.str x u)])):∃l':List (Str×Tok),es=l'.map (ent w)/\l'.Perm (l++[(x,u)]):=by
 have e:l.map (ent w)++[(hashStr w x,Value.str x u)]=(l++[(x,u)]).map (ent w):=by rw[g7];rfl
 rw[e]at hp;have back:∀(AQ:List (Str×Tok)) (es:List (Int×Value)),es.Perm (AQ.map (ent w))->∃l':List (Str×Tok),es=l'.map (ent w)/\l'.Perm AQ:=by
  intro AQ es hp
  let f:Int×Value->Str×Tok:=λe=>match e.2 with
   |.str y t=>(y,t)
   |_=>(x,u)
  have fe:∀p,f (ent w p)=p:=λp=>rfl;have b:∀e∈es,ent w (f e)=e:=λe he=>by
   obtain⟨p,_,rfl⟩:=cI.mp (hp.mem_iff.mp he);rw[fe]
  refine⟨es.map f,?_,?_⟩
  ·rw[cN]
   conv=>lhs;rw[<-jA es]
   exact fZ λe he=>(b e he).symm
  ·have h2:=hp.map f;rw[cN]at h2;have g:List.map (f∘ent w) AQ=AQ:=by
    conv=>rhs;rw[<-jA AQ]
    exact fZ λp _=>fe p
   rw[g]at h2;exact h2
 exact back _ _ hp
def yv{l:List (Str×Tok)}{es:List (Int×Value)}(hp:es.Perm (l.map (ent w))):∃l':List (Str×Tok),es=l'.map (ent w)/\l'.Perm l:=by
 let f:Int×Value->Str×Tok:=λe=>match e.2 with
  |.str y t=>(y,t)
  |_=>(Str.empty,0)
 have fe:∀p,f (ent w p)=p:=λp=>rfl;have b:∀e∈es,ent w (f e)=e:=λe he=>by
  obtain⟨p,_,rfl⟩:=cI.mp (hp.mem_iff.mp he);rw[fe]
 refine⟨es.map f,?_,?_⟩
 ·rw[cN]
  conv=>lhs;rw[<-jA es]
  exact fZ λe he=>(b e he).symm
 ·have h2:=hp.map f;rw[cN]at h2;have g:List.map (f∘ent w) l=l:=by
   conv=>rhs;rw[<-jA l]
   exact fZ λp _=>fe p
  rw[g]at h2;exact h2
theorem Di{g:Bool->Sem Unit}(hg:∀(b:Bool) (dr:Shared) (Q':Unit->Shared->Prop),Q' () dr->wpAny (model P w) A (g b) Q' E dr){o:Obj}{es:Array (Int×Value)}{t:SetTable}
  (ho:s.heap.get? a=some o) (hex:o.ExactSet) (hd:o.data=.set es i t) {wt:Array (Int×Value)} {t2:SetTable} {l1:List (Str×Tok)}
  (he1:wt.toList=l1.map (ent w)) (hp1:(l1.map (·.1)).Perm ps) (hn1:ps.Nodup) (E5:wt.size<scanBound) (hf2:t2.fits wt.size=true) (Ng:Cj w=true\/t2.led=true) (W8:t2.plain=false) {Dj:Bool} {R:Option Bool->Shared->Prop}
  (h:∀h',Heap.SameBut a s.heap h'->lG w h' a ps->R (some true) {s with heap:=h'}):
  wpAny (model P w) A (do
    storeSet a wt t2
    if(!Dj&&t2.tooFull)=true then do
       g (relayAll t2 wt (SetTable.grown wt.size)).2.2
       storeSet a (relayAll t2 wt (SetTable.grown wt.size)).1 (relayAll t2 wt (SetTable.grown wt.size)).2.1
       pure (some true)
     else pure (some true)) R E s:=by
 refine aS (wpAny_storeSet_of ho hd ?_ (xF E5));obtain⟨M,W9⟩:=yu (w:=w) ho hex hd he1 hp1 hn1 E5 hf2 Ng λ_=>W8;have l:=ph s.heap a (Obj.putSet wt t2);split
 ·have hp:=relayAll_perm t2 wt (SetTable.grown wt.size);have I:=relayAll_fits t2 wt (SetTable.grown wt.size);have r:=Bm t2 wt (SetTable.grown wt.size);generalize relayAll t2 wt (SetTable.grown wt.size)=Rl at hp I r⊢;obtain⟨n,t3,abN⟩:=Rl;dsimp only at hp I r⊢;rw[he1]at hp;obtain⟨l2,e2,p2⟩:=yv hp;have hsz:n.size=wt.size:=by
   have q:=hp.length_eq;rw[<-he1,gy,gy]at q;exact q
  have S:n.size<scanBound:=by rw[hsz];exact E5
  refine aS (hg _ _ _ ?_);refine aS (wpAny_storeSet_of M rfl ?_ (xF S));obtain⟨_,L⟩:=yu (w:=w) (h:=s.heap.update a (Obj.putSet wt t2)) M hex rfl e2 ((p2.map _).trans hp1) hn1 S I (Ng.imp id λz=>r.1.trans z) λ_=>r.2 W8;exact bg (h _ (l.trans (ph _ a _)) L)
 ·exact bg (h _ l W9)
noncomputable def gU(ss:List Str)(x:Str):List Str:=if x∈ss then ss else ss++[x]
theorem p9{ss:List Str}{u:Tok}{Q:Bool->Shared->Prop}(hS:lG w s.heap a ss)(Dk:ss.length+1<scanBound)
  (h:∀b h',Heap.SameBut a s.heap h'->lG w h' a (gU ss x)->Q b {s with heap:=h'}):wpAny (model P w) A (setAddHashed a (.str x u) (hashStr w x)) Q E s:=by
 obtain⟨o,es,ep,t,l,ho,hex,hd,he,hp,hn,hb,hf,hl,oX⟩:=id hS;have I:ElemsOf (PySem.strKind P w) es.toList:=by rw[he];exact IB
 have b9:es.size=ss.length:=by
  have q:=dh List.length he;rw[gy,bt]at q;have q2:=hp.length_eq;rw[bt]at q2;omega
 have J8:(PySem.strKind P w).is x (.str x u)=true:=by simp[PySem.strKind,Value.isStrOf]
 unfold setAddHashed setAddHashedIn;refine fK (aS (kK ho hd hf ?_));dsimp only;rw[byScan_of (knd:=PySem.strKind P w) rfl hb I];simp only[↓reduceIte];unfold setAddByScan;refine aS ?_
 refine aS (fQ ?_);refine aS (wpAny_setScan_of (knd:=PySem.strKind P w) J8 ho hd hf I ?_);have ID:x∈ss↔∃e∈es.toList,(PySem.strKind P w).is x e.2=true:=by
  rw[he,<-hp.mem_iff];constructor
  ·intro m;obtain⟨p,Qu,rfl⟩:=cI.mp m;exact⟨ent w p,gz Qu,by rw[Ai];simp⟩
  ·rintro ⟨e,n,r⟩
   obtain⟨p,Qu,rfl⟩:=cI.mp n;rw[Ai,j8]at r;rw[r];exact gz Qu
 cases hr:List.findIdx? (λe=>(PySem.strKind P w).is x e.2) es.toList with
 |some j=>
  dsimp only;obtain⟨hj,hpj,_⟩:=Cn.mp hr;have r:x∈ss:=ID.mpr ⟨es.toList[j],kL hj,hpj⟩;refine bg (bg ?_);have q:=h false s.heap (Heap.SameBut.refl a s.heap) (by unfold gU;rw[aX r];exact hS);exact q
 |none=>
  dsimp only;have r:¬x∈ss:=λm=>by
   obtain⟨e,n,q⟩:=ID.mp m;have z:=List.findIdx?_eq_none_iff.mp hr e n;rw[q]at z;cases z
  have hgw:∀(b:Bool) {dr:Shared} {M:Unit->Shared->Prop},M () dr->wpAny (model P w) A (match b with|true=>rule "set.scan.the-table-gave-way"|false=>pure ()) M E dr:=
   λb dr M g=>by cases b<;>first|exact bg g|exact fQ g
  have S:=layNew_perm t es (hashStr w x) (.str x u);have GS:=layNew_fits t es (hashStr w x) (.str x u);have IE:=E8 t es (hashStr w x) (.str x u);generalize layNew t es (hashStr w x) (.str x u)=L at S GS IE⊢;obtain⟨wt,t1,Dj,abT⟩:=L;dsimp only at S GS IE⊢;rw[Array.toList_push,he]at S;obtain⟨l1,e1,p1⟩:=IC S;have hsz:wt.size=es.size+1:=by
   have q:=S.length_eq;rw[eZ,<-he,gy,gy]at q;simpa using q
  have E5:wt.size<scanBound:=by omega
  have NI:(l1.map (·.1)).Perm (ss++[x]):=by
   have q:=p1.map (·.1);rw[g7]at q;exact q.trans (hp.append_right _)
  have Rt:(ss++[x]).Nodup:=by
   rw[tL];refine⟨hn,by simp,λy hy z hz e=>?_⟩;rw[cQ]at hz;subst hz e;exact r hy
  have W_:∀h',Heap.SameBut a s.heap h'->lG w h' a (ss++[x])->Q true {s with heap:=h'}:=λh' sb K3=>h true h' sb (by unfold gU;rw[ba r];exact K3);refine aS (hgw _ ?_);split
  ·refine aS ?_
   rw[hashByValue_scannable 8 (x:=.str x u) rfl];refine bg ?_
   refine Di ?_ ho hex hd e1 NI Rt E5 ?_ ?_ ?_ ?_
   ·intro b dr M g;cases b<;>first|exact bg g|exact fQ g
   ·exact SetTable.fits_plain_off GS
   ·exact hl.imp id λz=>IE.trans z
   ·rfl
   ·intro h' sb K3;exact bg (W_ h' sb K3)
  ·rename_i aaY;refine aS (bg ?_);simp only[↓reduceIte];refine Di ?_ ho hex hd e1 NI Rt E5 GS ?_ ?_ ?_
   ·intro b dr M g;cases b<;>first|exact bg g|exact fQ g
   ·exact hl.imp id λz=>IE.trans z
   ·simpa using aaY
   ·intro h' sb K3;exact bg (W_ h' sb K3)
def dZ:Slot "set_iterator" "__next__" "set_iterator.__next__":=.of (owner:="set_iterator") (n:="__next__")
 (by rw[typeLookup_type,xm];kernel_rfl) (by decide+kernel) (by decide+kernel) (by decide+kernel) (by first|exact .inl (by decide+kernel)|exact .inr (by decide+kernel))
 (by rw[isSubtype_type];kernel_rfl)
def m6:entryFor table "set_iterator.__next__"=some Builtin.«set_iterator.__next__»:=entryFor_of_tree (by kernel_rfl)
def vX:Manifest.owners.lookup (String.ofList ['r', 'o', 't', 'a', 'r', 'e', 't', 'i', '_', 't', 'e', 's'].reverse)=some Manifest.sig_set_iterator:=by kernel_rfl
theorem oN(a:Value):argsOk "set_iterator.__next__" ⟨[a],[]⟩:=by
 unfold argsOk;rw[signature?_of (id:="set_iterator.__next__") (n:=['_', '_', 't', 'x', 'e', 'n', '_', '_']) (o:=['r', 'o', 't', 'a', 'r', 'e', 't', 'i', '_', 't', 'e', 's']) (by kernel_rfl) vX];kernel_rfl
def oO:Slot "set_iterator" "__iter__" "set_iterator.__iter__":=.of (owner:="set_iterator") (n:="__iter__")
 (by rw[typeLookup_type,xm];kernel_rfl) (by decide+kernel) (by decide+kernel) (by decide+kernel) (by first|exact .inl (by decide+kernel)|exact .inr (by decide+kernel))
 (by rw[isSubtype_type];kernel_rfl)
def wu:entryFor table "set.__iter__"=some Builtin.«frozenset.__iter__»:=entryFor_alias (id':="frozenset.__iter__") (by kernel_rfl) rfl (by decide+kernel) (by kernel_rfl)
noncomputable def uG(F:Value)(i:Nat)(a:Addr)(n ep:Nat):Obj:={cls:=.type "set_iterator",dict:=none,data:=.fields #[F,rawInt i,.ref a,rawInt n,rawInt ep],slots:=#[]}
section
variable {o:Obj}{es:Array (Int×Value)}{t:SetTable}
def md{Q:Array (Int×Value)->Shared->Prop}(q:s.heap.get? a=some o)(hd:o.data=.set es ay t)(hf:t.fits es.size=true)(h:Q es s):wpAny (model P w) A (setEntries a) Q E s:=by
 unfold setEntries;exact aS (kK q hd hf (bg h))
theorem yx{R:ag->Shared->Prop}(q:A.handled=none)
  (h:∀h' (x:Addr),Shared.TypeIs {s with heap:=h'} (.ref x) "StopIteration"->(∀b o,s.heap.get? b=some o->h'.get? b=some o)->E (.ref x) {s with heap:=h'}):
  wpAny (model P w) A.in1 (newExc (.type "StopIteration") []) (λx s'=>wpAny (model P w) A.in1 (raiseNew x:Sem ag) R E s') E s:=by
 simp only[newExc,newTuple];refine aS (kJ ?_ (by size_fits));refine aS (m:=firstArgMember _ _) (wpAny_of_eq (a:=Value.none) (by first|rfl|(simp only[firstArgMember];rfl)) ?_);refine kJ ?_ (by size_fits)
 simp only[raiseNew];refine aS (wpAny_handled ?_)
 first|rw[show A.in1.handled=none from q]|rw[q]
 refine aS (bg (wpAny_throw ?_));exact h _ _ ⟨_,cy _ rfl,rfl⟩ λb o e=>bS _ (bS _ e)
theorem Bo{slot:Nat}{r:Option (Value×Nat)}(hh:A.handled=none)(hit:s.heap.get? ar=some (uG (rawInt slot) i a es.size ay))(ho:s.heap.get? a=some o)(hd:o.data=.set es ay t)(hf:t.fits es.size=true)
  (hn:∀(B:Around) (E':Value->Shared->Prop) (q:Option (Value×Nat)->Shared->Prop),q r s->wpAny (model P w) B (setNext a slot i ay) q E' s)
  (h1:∀x nx,r=some (x,nx)->∀h',h'.get? ar=some (uG (rawInt nx) (i+1) a es.size ay)->Heap.SameBut ar s.heap h'->aK (some x) {s with heap:=h'})
  (h2:r=none->∀h',Heap.ExtBut ar s.heap h'->aK none {s with heap:=h'}):wpAny (model P w) A (pyNext (.ref ar)) aK E s:=by
 have g:s.TypeIs (.ref ar) "set_iterator":=⟨_,hit,rfl⟩;unfold pyNext;refine aS (t_ (my (name:=Str.ofString "__next__") g dZ (g6 dZ g m6 ?_ (oN _))));unfold Builtin.«set_iterator.__next__»;refine aS (m:=slotArgs "__next__" 0 _) (bg ?_);refine aS (wpAny_fieldsOf hit rfl ?_);dsimp only;refine aS (md ho hd hf ?_);rw[ba (by simp)];show wpAny _ _ (setNext a (slot:Int).toNat (i:Int).toNat (ay:Int).toNat>>=_) _ _ s;rw[lN,lN,lN];refine aS (hn _ _ _ ?_);cases r with
 |none=>
  dsimp only;refine aS (wpAny_setField hit rfl (by show 2<5;decide) ?_);refine aS (yx hh λh' x l n=>?_);refine aS (pD (T:="StopIteration") (b:=true) l isSubtype_stop ?_);exact bg (h2 rfl _ λb o hb e=>n b o ((ph s.heap ar _).extBut b o hb e))
 |some p=>
  obtain⟨x,nx⟩:=p;dsimp only;refine aS (jh hit (by show 0<5;decide) λI L M=>?_);refine aS (jh (s:={s with heap:=I}) L (by show 1<5;decide) λS Xa vt=>?_);exact bg ⟨_,rfl,bg (h1 x nx rfl S Xa (M.trans vt))⟩
end
def vv:entryFor table "set_iterator.__iter__"=some Builtin.«dict_keyiterator.__iter__»:=entryFor_alias (id':="dict_keyiterator.__iter__") (by kernel_rfl) rfl (by decide+kernel) (by kernel_rfl)
theorem wx(a:Value):argsOk "set_iterator.__iter__" ⟨[a],[]⟩:=by
 unfold argsOk;rw[signature?_of (id:="set_iterator.__iter__") (n:=['_', '_', 'r', 'e', 't', 'i', '_', '_']) (o:=['r', 'o', 't', 'a', 'r', 'e', 't', 'i', '_', 't', 'e', 's']) (by kernel_rfl) vX];kernel_rfl
theorem GU{α:Type}(next:Nat->Nat):∀(fuel k:Nat) (left:List α) (out:Array α),left.length=fuel->(pickOrder.go next fuel k left out).toList.Perm (out.toList++left)
 |0,k,left,out,h=>by
  rw[List.eq_nil_of_length_eq_zero h];simp[pickOrder.go]
 |fuel+1,k,left,out,h=>by
  have hi:next k % left.length<left.length:=Nat.mod_lt _ (by omega)
  unfold pickOrder.go;rw[b_ hi];dsimp only;refine(GU next fuel (k+1) _ _ (by rw[Cp hi];omega)).trans ?_
  rw[Array.toList_push,xp];exact(sC left _ hi).append_left _
def IF(next:Nat->Nat)(xs:Array ag):(pickOrder next xs).toList.Perm xs.toList:=by
 have h:=GU next xs.size 0 xs.toList #[] (by simp)
 unfold pickOrder;simpa using h
def SU:SetTable.below #[] 0=0:=rfl
def SV(j:Nat):SetTable.below #[j] 0=0:=by
 unfold SetTable.below;simp[SetTable.below.go]
def SW(j:Nat):SetTable.below #[j] (j+1)=1:=by
 unfold SetTable.below;simp[SetTable.below.go]
section
variable {o:Obj}{es:Array (Int×Value)}{t:SetTable}
def Bp{e:Nat}(hit:s.heap.get? ar=some (uG af i a ay e))(h:Q (.ref ar) s):wpAny (model P w) A (pyIter (.ref ar)) Q E s:=by
 have b:s.TypeIs (.ref ar) "set_iterator":=⟨_,hit,rfl⟩;refine wpAny_pyIter_slot b oO (g6 oO b vv ?_ (wx _));show wpAny _ _ (ret (.ref ar)) _ _ s;exact bg ⟨_,rfl,"set_iterator",_,b,dZ.lookup,h⟩
theorem K5{tp:Addr}{m:Nat}{ot:Obj}(hh:A.handled=none)(hit:s.heap.get? ar=some (uG (.ref tp) i a es.size ay))(ho:s.heap.get? a=some o)(hd:o.data=.set es ay t)(hf:t.fits es.size=true)
  (q:s.heap.get? tp=some ot) (ZZ:ot.data=.seq ak m)
  (h1:∀(p:Nat) (e:Int×Value),ak[i]?=some (rawInt p)->es[p]?=some e->∀h',h'.get? ar=some (uG (.ref tp) (i+1) a es.size ay)->Heap.SameBut ar s.heap h'->aK (some e.2) {s with heap:=h'})
  (h2:ak[i]?=none->∀h',Heap.ExtBut ar s.heap h'->aK none {s with heap:=h'})
  (oX:∀v,ak[i]?=some v->∃(p:Nat) (e:Int×Value),v=rawInt p/\es[p]?=some e):wpAny (model P w) A (pyNext (.ref ar)) aK E s:=by
 have I:s.TypeIs (.ref ar) "set_iterator":=⟨_,hit,rfl⟩;unfold pyNext;refine aS (t_ (my (name:=Str.ofString "__next__") I dZ (g6 dZ I m6 ?_ (oN _))));unfold Builtin.«set_iterator.__next__»;refine aS (m:=slotArgs "__next__" 0 _) (bg ?_);refine aS (wpAny_fieldsOf hit rfl ?_);dsimp only;refine aS (md ho hd hf ?_);rw[ba (by simp)];show wpAny _ _ (seqItems? (.ref tp)>>=_) _ _ s;refine aS (g8 q ZZ ?_);dsimp only;rw[lN];cases g:ak[i]? with
 |none=>
  dsimp only;refine aS (jh hit (by show 0<5;decide) λl n r=>?_);refine aS (jh (s:={s with heap:=l}) n (by show 2<5;decide) λpU Xa L=>?_);refine aS (yx hh λh' x M S=>?_);refine aS (pD (T:="StopIteration") (b:=true) M isSubtype_stop ?_);exact bg (h2 g _ λb o hb e=>S b o (L.extBut b o hb (r.extBut b o hb e)))
 |some v=>
  obtain⟨p,e,rfl,he⟩:=oX v g;show wpAny _ _ (setNextDrawn a (p:Int).toNat (ay:Int).toNat>>=_) _ _ s;rw[lN,lN];refine aS ?_
  unfold setNextDrawn;refine aS (kK ho hd hf ?_);dsimp only;rw[ba (by simp),he];dsimp only;refine bg ?_
  refine aS (jh hit (by show 1<5;decide) λl n r=>?_);exact bg ⟨_,rfl,bg (h1 p e g he l n r)⟩
def qS{Q:Bool->Shared->Prop}(h:Q (Cj w) s):wpAny (model P w) A setsByText Q E s:=by
 unfold setsByText;exact aS (wpAny_askSetting (bg h))
def Aj{slot:Nat}{Q:Option (Value×Nat)->Shared->Prop}(hb:Cj w=true)(q:s.heap.get? a=some o)(hd:o.data=.set es ay t)(hf:t.fits es.size=true)
  (h:Q (((pickOrder (w.params.setOrder a ay) es)[i]?).map λe=>(e.2,slot)) s):wpAny (model P w) A (setNext a slot i ay) Q E s:=by
 unfold setNext;refine aS (kK q hd hf ?_);dsimp only;refine aS (qS ?_);rw[hb,aX rfl];simp only[tK,cE,bZ];refine aS ?_
 unfold setWalk;refine aS (kK q hd hf ?_);dsimp only;refine aS (qS ?_);rw[hb,aX rfl];refine aS (wpAny_askSetting ?_);exact bg (bg h)
theorem Dl{slot:Nat}{Q:Option (Value×Nat)->Shared->Prop}(hb:Cj w=false)(q:t.led=true)(hz:es.size<=1)(ho:s.heap.get? a=some o)(hd:o.data=.set es ay t)(hf:t.fits es.size=true)
  (h:Q (match es[SetTable.below t.place slot]?,t.place[SetTable.below t.place slot]? with
   |some (_,x),some j=>some (x,j+1)
   |_,_=>none) s):wpAny (model P w) A (setNext a slot i ay) Q E s:=by
 unfold setNext;refine aS (kK ho hd hf ?_);dsimp only;refine aS (qS ?_);rw[hb];simp only[cE,bZ];refine mM (λb=>absurd (show(!t.plain&&decide (es.size>1))=true from b) ?_) (λ_=>?_)
 ·rw[fJ (p:=es.size>1) (by omega),xE];exact fI
 ·refine aS (m:=(if(!t.led&&!es.isEmpty)=true then unsupported "set:maker-not-led"else pure ())) ?_
  rw[q,ba (by simp)];exact bg (bg h)
end
def one_place{xs:Array Nat}(h:xs.size=1):∃j,xs=#[j]:=by
 obtain⟨l⟩:=xs
 match l,h with
 |[j],_=>exact⟨j,rfl⟩
def E_(p:Str×Tok):Value:=.str p.1 p.2
def strAt(l:List (Str×Tok))(i:Nat)(v:Value):Prop:=(l[i]?).map E_=some v
section
variable {o:Obj}{es:Array (Int×Value)}{t:SetTable}
def wL{l:List (Str×Tok)}(he:es.toList=l.map (ent w))(p:Nat):es[p]?=(l[p]?).map (ent w):=by
 rw[<-nJ,he,ck]
theorem IG(hb:Cj w=true)(hd:o.data=.set es ay t)(hf:t.fits es.size=true){l:List (Str×Tok)}(he:(pickOrder (w.params.setOrder a ay) es).toList=l.map (ent w))(hl:l.length=es.size)(h8:ar≠a)(A':Around)(hh:A'.handled=none):
  Walks P w A' ar [ar,a] [ar] l.length (strAt l) (λi h=>h.get? ar=some (uG (rawInt 0) i a es.size ay)/\h.get? a=some o) where
 sub:=λb hb=>by simp at hb;simp[hb]
 frame:=λi h h' st k=>⟨k ar (by simp) _ st.1,k a (by simp) _ st.2⟩
 item:=λi s Q E hi st n=>by
  have I:(pickOrder (w.params.setOrder a ay) es)[i]?=(l[i]?).map (ent w):=by rw[<-nJ,he,ck]
  rw[b_ hi]at I;refine Bo (slot:=0) (r:=some ((ent w l[i]).2,0)) hh st.1 st.2 hd hf (λB M S q=>Aj hb st.2 hd hf (by rw[I];exact q)) (λx nx e h' g L=>?_) λe=>nomatch e;cases e;exact n _ h' s.toks (by unfold strAt;rw[b_ hi];rfl) ⟨g,(L.2 a (Ne.symm h8)).trans st.2⟩ λb o hb e=>L.extBut b o (λz=>hb (by simp[z])) e
 done:=λs Q E st n=>by
  have I:(pickOrder (w.params.setOrder a ay) es)[l.length]?=none:=by
   rw[<-nJ,he,ck,jg.mpr (bu _)];rfl
  refine Bo (slot:=0) (r:=none) hh st.1 st.2 hd hf (λB M S q=>Aj hb st.2 hd hf (by rw[I];exact q)) (λx nx e=>nomatch e) λ_ h' eb=>?_
  exact n h' s.toks λb o hb e=>eb b o (λz=>hb (by simp[z])) e
 self:=λi s Q E st n=>Bp st.1 n
theorem K6(hb:Cj w=false)(hl:t.led=true)(hz:es.size<=1)(hd:o.data=.set es ay t)(hf:t.fits es.size=true){l:List (Str×Tok)}(he:es.toList=l.map (ent w))(h8:ar≠a)(A':Around)(hh:A'.handled=none):
  Walks P w A' ar [ar,a] [ar] l.length (strAt l) (λi h=>h.get? ar=some (uG (rawInt (if i=0 then(0:Nat)else t.place.getD 0 0+1:Nat)) i a es.size ay)/\h.get? a=some o) where
 sub:=λb hb=>by simp at hb;simp[hb]
 frame:=λi h h' st k=>⟨k ar (by simp) _ st.1,k a (by simp) _ st.2⟩
 item:=λi s Q E hi st n=>by
  have b9:l.length=es.size:=by have q:=dh List.length he;rw[gy,bt]at q;exact q.symm
  have L:i=0:=by omega
  subst L;have SX:t.place.size=es.size:=by
   simp only[SetTable.fits,bW,fo]at hf;exact hf.1
  obtain⟨j,I⟩:∃j,t.place=#[j]:=by
   exact one_place (by omega)
  have e0:es[0]?=some (ent w l[0]):=by rw[wL he,b_ hi];rfl
  refine Bo (slot:=0) (r:=some ((ent w l[0]).2,j+1)) hh st.1 st.2 hd hf (λB E' Q' q=>Dl hb hl hz st.2 hd hf (by rw[I,SV,e0];exact q)) (λx nx e h' g S=>?_) λe=>nomatch e;cases e;refine n _ h' s.toks (by unfold strAt;rw[b_ hi];rfl) ⟨?_,(S.2 a (Ne.symm h8)).trans st.2⟩ λb o hb e=>S.extBut b o (λz=>hb (by simp[z])) e;rw[I];exact g
 done:=λs Q E st n=>by
  have b9:l.length=es.size:=by have q:=dh List.length he;rw[gy,bt]at q;exact q.symm
  have SX:t.place.size=es.size:=by
   simp only[SetTable.fits,bW,fo]at hf;exact hf.1
  have fin:∀slot:Nat,s.heap.get? ar=some (uG (rawInt slot) l.length a es.size ay)->es[SetTable.below t.place slot]?=none->wpAny (model P w) A' (pyNext (.ref ar)) Q E s:=λslot hit e1=>by
   refine Bo (slot:=slot) (r:=none) hh hit st.2 hd hf (λB E' Q' q=>Dl hb hl hz st.2 hd hf (by rw[e1];exact q)) (λx nx e=>nomatch e) λ_ h' eb=>?_
   exact n h' s.toks λb o hb e=>eb b o (λz=>hb (by simp[z])) e
  by_cases h0:l.length=0
  ·have M:t.place=#[]:=Array.eq_empty_of_size_eq_zero (by omega);refine fin 0 ?_ ?_
   ·have q:=st.1;rw[aX h0]at q;exact q
   ·rw[M,SU,wL he,jg.mpr (by omega)];rfl
  ·obtain⟨j,I⟩:∃j,t.place=#[j]:=by
    exact one_place (by omega)
   refine fin (j+1) ?_ ?_
   ·have q:=st.1;rw[ba h0,I]at q;exact q
   ·rw[I,SW,wL he,jg.mpr (by omega)];rfl
 self:=λi s Q E st n=>Bp st.1 n
theorem Fb{tp:Addr}{ot:Obj}{ps:List Nat}{m:Nat}(hd:o.data=.set es ay t)(hf:t.fits es.size=true)(ZZ:ot.data=.seq (ps.map λi=>rawInt (i:Nat)).toArray m){l l':List (Str×Tok)}(he:es.toList=l.map (ent w))(hl':∀i:Nat,l'[i]?=(ps[i]?).bind λp=>l[p]?)(SX:∀p∈ps,p<l.length)
  (b9:l'.length=ps.length) (h8:ar≠a) (hnt:ar≠tp) (A':Around) (hh:A'.handled=none):
  Walks P w A' ar [ar,a,tp] [ar] l'.length (strAt l') (λi h=>h.get? ar=some (uG (.ref tp) i a es.size ay)/\h.get? a=some o/\h.get? tp=some ot) where
 sub:=λb hb=>by simp at hb;simp[hb]
 frame:=λi h h' st k=>⟨k ar (by simp) _ st.1,k a (by simp) _ st.2.1,k tp (by simp) _ st.2.2⟩
 item:=λi s Q E hi st r=>by
  have n:i<ps.length:=by omega
  have oX:(ps.map λi=>rawInt (i:Nat)).toArray[i]?=some (rawInt (ps[i]:Nat)):=by simp[n]
  have hp:ps[i]<l.length:=SX _ (kL n);have e1:es[ps[i]]?=some (ent w l[ps[i]]):=by rw[wL he,b_ hp];rfl
  have e2:l'[i]?=some l[ps[i]]:=by rw[hl',b_ n];exact b_ hp
  refine K5 hh st.1 st.2.1 hd hf st.2.2 ZZ (λp e I h2 h' g M=>?_) (λz=>by rw[oX]at z;cases z) (λv L=>?_)
  ·rw[oX]at I;have hpp:((ps[i]:Nat):Int)=(p:Int):=by
    have q:=Option.some.inj I;injection q
   have S:ps[i]=p:=by omega
   subst S;rw[e1]at h2;cases h2;exact r _ h' s.toks (by unfold strAt;rw[e2];rfl) ⟨g,(M.2 a (Ne.symm h8)).trans st.2.1,(M.2 tp (Ne.symm hnt)).trans st.2.2⟩ λb o hb e=>M.extBut b o (λz=>hb (by simp[z])) e
  ·rw[oX]at L;cases L;exact⟨_,_,rfl,e1⟩
 done:=λs Q E st r=>by
  have oX:(ps.map λi=>rawInt (i:Nat)).toArray[l'.length]?=none:=by simp[b9]
  refine K5 hh st.1 st.2.1 hd hf st.2.2 ZZ (λp e I=>by rw[oX]at I;cases I) (λ_ h' eb=>?_) (λv L=>by rw[oX]at L;cases L);exact r h' s.toks λb o hb e=>eb b o (λz=>hb (by simp[z])) e
 self:=λi s Q E st r=>Bp st.1 r
theorem IH{ss:List Str}(hS:lG w s.heap a ss)
  (hQ:∀(h':Heap) (d:Drawn) (ar:Addr) (fp:List Addr) (St:Nat->Heap->Prop) (l:List (Str×Tok)),(l.map (·.1)).Perm ss->(∀b o,s.heap.get? b=some o->h'.get? b=some o)->s.heap.objs.size<=ar->(∀b∈fp,b=a\/s.heap.objs.size<=b)->
   (∀A':Around,A'.handled=none->Walks P w A' ar fp [ar] l.length (strAt l) St)->St 0 h'->Q (.ref ar) {s with heap:=h',drawn:=d}):wpAny (model P w) A (pyIter (.ref a)) Q E s:=by
 obtain⟨o,es,ay,t,l,g,hex,hd,he,hp,hn,hb,hf,hl,oX⟩:=id hS;have hZ:a<s.heap.objs.size:=bA g;have b9:l.length=es.size:=by have q:=dh List.length he;rw[gy,bt]at q;exact q.symm
 refine wpAny_pyIter_slot hS.typeIs PySem.F.slot_set_iter (g6 PySem.F.slot_set_iter hS.typeIs wu ?_ (PySem.F.args_set_iter_1 _));unfold Builtin.«frozenset.__iter__»;refine aS (m:=Builtin.Frozenset.slot0 "__iter__" _) (bg ?_);refine aS ?_
 unfold Builtin.Frozenset.sizeOf;refine aS (md g hd hf (bg ?_));refine aS ?_
 unfold setDrawn;refine aS (kK g hd hf ?_);dsimp only;refine aS (qS (bg ?_));refine mM (λn=>?_) (λn=>?_)
 ·
  refine aS (rL _ _ _ _ (tM ..) λps d S=>?_);have hz:((ps.map λ(i:Nat)=>rawInt i)).length<=sizeLine:=by
   rw[bt,S.length_eq,tM];exact xF hb
  refine aS (wpAny_newTuple (hsz:=hz) ?_);have Qt:(s.heap.push {cls:=.type "tuple",data:=.seq (ps.map λ(i:Nat)=>rawInt i).toArray}).get? a=some o:=bS _ g;have L:(s.heap.push {cls:=.type "tuple",data:=.seq (ps.map λ(i:Nat)=>rawInt i).toArray}).objs.size=s.heap.objs.size+1:=jw ..;refine aS (wpAny_setEpoch_of Qt hd hf ?_);refine aS (kJ ?_);refine bg ⟨_,rfl,"set_iterator",_,⟨_,cy _ rfl,rfl⟩,dZ.lookup,?_⟩;have Xb:∀p∈ps,p<l.length:=λp hm=>by
   have q:=tX.mp (S.mem_iff.mp hm);omega
  have yw:(ps.map λp=>l.getD p (Str.empty,0)).Perm l:=by
   have q:=S.map λp=>l.getD p (Str.empty,0);have e:(List.range es.size).map (λp=>l.getD p (Str.empty,0))=l:=by
    rw[<-b9];refine List.ext_getElem (by simp) λi h1 h2=>?_
    simp[h2]
   rw[e]at q;exact q
  refine hQ _ d _ [_,a,s.heap.objs.size] _ (ps.map λp=>l.getD p (Str.empty,0)) ((yw.map _).trans hp) (λb o e=>bS _ (bS _ e)) (by rw[L];exact pJ _) (λb hm=>?_)
   (λA' r=>Fb (ot:={cls:=.type "tuple",data:=.seq (ps.map λ(i:Nat)=>rawInt i).toArray}) (ps:=ps) hd hf rfl he (λi=>?_) Xb (bt ..) ?_ ?_ A' r)
   ⟨cy _ rfl,bS _ Qt,bS _ (cy _ rfl)⟩
  ·simp only[bI,cJ,cK]at hm;rcases hm with rfl|rfl|rfl
   ·right;rw[L];exact pJ _
   ·left;rfl
   ·right;exact bu _
  ·rw[ck];cases e:ps[i]? with
   |none=>rfl
   |some p=>
    have oX:=Xb p (d6 e);show some (l.getD p (Str.empty,0))=l[p]?
    rw[eM,b_ oX];rfl
  ·rw[L];exact dN (lM hZ)
  ·rw[L];exact mJ _
 ·refine aS (bg ?_);refine aS (wpAny_setEpoch_of g hd hf ?_);refine aS (kJ ?_);refine bg ⟨_,rfl,"set_iterator",_,⟨_,cy _ rfl,rfl⟩,dZ.lookup,?_⟩;have zA:∀b∈[s.heap.objs.size,a],b=a\/s.heap.objs.size<=b:=λb hm=>by
   simp only[bI,cJ,cK]at hm;rcases hm with rfl|rfl
   ·exact .inr (bu _)
   ·exact .inl rfl
  have h8:s.heap.objs.size≠a:=dN hZ;cases M:Cj w with
  |true=>
   have I:=IF (w.params.setOrder a ay) es;rw[he]at I;obtain⟨l2,e2,p2⟩:=yv I;exact hQ _ s.drawn _ [_,a] _ l2 ((p2.map _).trans hp) (λb o e=>bS _ e) (bu _) zA (λA' r=>IG M hd hf e2 (p2.length_eq.trans b9) h8 A' r) ⟨cy _ rfl,bS _ g⟩
  |false=>
   have Z1:es.size<=1:=by
    by_cases hz:es.size<=1
    ·exact hz
    ·exfalso;refine n ?_
     show(!Cj w&&(!t.plain&&decide (es.size>1)))=true;rw[M,oX (by omega),gB (by omega)]
     rfl
   have IE:t.led=true:=hl.resolve_left (by rw[M];exact fI);exact hQ _ s.drawn _ [_,a] _ l hp (λb o e=>bS _ e) (bu _) zA (λA' r=>K6 M IE Z1 hd hf he h8 A' r) ⟨cy _ rfl,bS _ g⟩
end
def eW(ss xs:List Str):List Str:=xs.foldl gU ss
def yy(ss:List Str)(x:Str):(gU ss x).length<=ss.length+1:=by
 unfold gU;split
 ·omega
 ·simp
section
variable {prog:Program}{I:Addr}{fp:List Addr}{n:Nat}{P:Nat->Value->Prop}{St:Nat->Heap->Prop}
def lG.keep {h h':Heap}{ss:List Str}(x:lG w h a ss)(k:∀o,h.get? a=some o->h'.get? a=some o):lG w h' a ss:=by
 obtain⟨o,es,ep,t,l,b,r⟩:=x;exact⟨o,es,ep,t,l,k o b,r⟩
theorem K7(W:Walks prog w A.in1 I fp [I] n P St)(Z2:ar∉fp)(val:Nat->Str)(Ox:∀i v,P i v->∃t,v=Value.str (val i) t)(hb:n+1<scanBound):
  ∀(k i:Nat) (s:Shared) (ss:List Str),n - i=k->i<=n->St i s.heap->lG w s.heap ar ss->ss.length<=i->
   (∀h' q,(∀b o,b≠ar->b≠I->s.heap.get? b=some o->h'.get? b=some o)->lG w h' ar (eW ss ((List.range' i k).map val))->av (.ok (.ret .none)) {s with heap:=h',toks:=q})->
   codeAny (model prog w) A (.builtin "set.update.loop" ⟨[.ref ar,.ref I],[]⟩) av s:=by
 have r:I∈fp:=W.sub I (by simp);have Na:ar≠I:=λe=>Z2 (e▸r);intro k
 induction k with
 |zero=>
  intro i s ss hk hi cH L _ hR;have mw:i=n:=by omega
  subst mw;refine f9 F.entry_set_update_loop ?_
  rw[g0 xu _];show wpAny _ A.in1 (pyNext (.ref I)>>=_) _ _ s;refine aS (W.done s _ _ cH λh' q g=>?_);show wpAny _ A.in1 (ret Value.none) _ _ _;exact bg (hR h' q (λb o _ h2 e=>g b o (by simpa using h2) e) (L.keep λo e=>g ar o (by simpa using Na) e))
 |succ k ih=>
  intro i s ss hk hi cH L hl hR;have hZ:i<n:=by omega
  refine f9 F.entry_set_update_loop ?_
  rw[g0 xu _];show wpAny _ A.in1 (pyNext (.ref I)>>=_) _ _ s;refine aS (W.item i s _ _ hZ cH λv M S hP K8 g=>?_);obtain⟨u,rfl⟩:=Ox i v hP;have W9:lG w M ar ss:=L.keep λo e=>g ar o (by simpa using Na) e;show wpAny _ A.in1 (holding [Value.str (val i) u] (setAdd ar (.str (val i) u))>>=_) _ _ _;refine aS (fK ?_);unfold setAdd;refine fK ?_
  refine aS ((PySem.strKind prog w).pyHash (k:=val i) (by simp[PySem.strKind,Value.isStrOf]) ?_);refine p9 (s:={s with heap:=M,toks:=S+1}) W9 (by omega) λb h2 sb hS2=>?_
  have l:∀b o,b≠ar->M.get? b=some o->h2.get? b=some o:=λb o hb e=>(sb.2 b hb).trans e;refine bg ⟨g9 xu _,ih (i+1) _ (gU ss (val i)) (by omega) hZ (W.frame _ _ _ K8 λb hb o e=>l b o (λz=>Z2 (z▸hb)) e) hS2 (by have:=yy ss (val i);omega) λh' q kk' K3=>?_⟩;exact hR h' q (λb o E5 Ow e=>kk' b o E5 Ow (l b o E5 (g b o (by simpa using Ow) e))) K3
end
section
section
variable {prog:Program}
theorem _root_.PySem.K9 (a:Value){Q₁:Value->Shared->Prop}
  (h:Q₁ (.ref s.heap.objs.size) {s with heap:=s.heap.push {cls:=.type "set",dict:=none,data:=.set #[] 0 (.fresh 0 0 (!L2.Cj w))}}):
  codeAny (model prog w) A (.call (.builtin "set.__new__") ⟨[.type "set",a],[]⟩) (wants Q₁ E) s:=by
 refine codeAny_of_tree ?_
 show wpAny _ A.in1 (do checkBuiltinCall "set.__new__" ⟨[.type "set",a],[]⟩;again (.builtin "set.__new__" ⟨[.type "set",a],[]⟩)) _ _ s;refine aS (wpAny_of_eq (F.newCall_set_1 a) (bg ⟨g9 F.plain_set_new _,f9 F.entry_set_new ?_⟩));rw[g0 F.plain_set_new _];unfold Builtin.«set.__new__» Builtin.Frozenset.newClass;have b:=sub_set_self;obtain⟨hp,g,d,tk,os⟩:=s;dsimp only
 wp_walk
 refine wpAny_askSetting (bg ?_);dsimp only;simp only[newObj];refine aS (wpAny_alloc (bg ?_));exact bg h
set_option maxHeartbeats 3200000 in
theorem _root_.PySem.K_ {l:Addr}{a8:Array Value}{val:Nat->Str}(hh:A.handled=none)(hl:s.heap.IsList l a8)(hv:∀(i:Nat) (v:Value),a8[i]?=some v->∃t,v=.str (val i) t)(hb:a8.size+1<scanBound)
  (h:∀(h':Heap) (tk:Nat),L2.lG w h' s.heap.objs.size (L2.eW [] ((List.range' 0 a8.size).map val))->(∀b o,b<s.heap.objs.size->s.heap.get? b=some o->h'.get? b=some o)->Q (.ref s.heap.objs.size) {s with heap:=h',toks:=tk}):
  wpAny (model prog w) A (call (.type "set") [.ref l]) Q E s:=by
 obtain⟨c,tl,abU⟩:=jz.mro;have abO:=jz.made;have Q3:=jz.sub;refine pL (codeAny_of_tree ?_);show wpAny _ _ (callAny (.type "set") _) _ _ _;refine bg ⟨Code.quiet_builtin _ (by decide+kernel),f9 F.entry_type_call ?_⟩;rw[Around.under_plain (weight_type_call_type "set" [.ref l] []) rfl];have h1:=jz.notType;have h2:=jz.canCreate;have hct:=F.typeCall_set_1 (.ref l)
 repeat(any_goals (first|assumption|wp_step))
 refine iE (K9 (.ref l) (E:=E) (Q₁:=λobj dr=>obj=.ref s.heap.objs.size/\dr={s with heap:=s.heap.push {cls:=.type "set",dict:=none,data:=.set #[] 0 (.fresh 0 0 (!L2.Cj w))}}) ⟨rfl,rfl⟩) λr dr n=>?_
 cases r with
 |error e=>exact n
 |ok fl=>
  cases fl with
  |ret obj=>
   obtain⟨rfl,rfl⟩:=n;generalize L:({cls:=.type "set",dict:=none,data:=.set #[] 0 (.fresh 0 0 (!L2.Cj w))}:Obj)=ob;have hS:(s.heap.push ob).get? s.heap.objs.size=some ob:=cy _ (by rw[<-L];rfl);have hT:Shared.TypeIs {s with heap:=s.heap.push ob} (.ref s.heap.objs.size) "set":=⟨_,hS,by rw[<-L]⟩;have hli:=jz.init.lookup;have hbi:=jz.init.bind (.ref s.heap.objs.size)
   repeat(any_goals (first|assumption|wp_step))
   refine iE (xq (R:=wants (λr ug=>r=.none/\∃h' tk,ug={s with heap:=h',toks:=tk}/\L2.lG w h' s.heap.objs.size (L2.eW [] ((List.range' 0 a8.size).map val))/\
     (∀b o,b<s.heap.objs.size->s.heap.get? b=some o->h'.get? b=some o)) E) jz.init.plain F.entry_set_init (check_set_init_1 hT ?_)) λM ug S=>?_
   ·obtain⟨ol,Qv,Gk,nl,U_⟩:=hl;obtain⟨abV,Xc,abP,SY⟩:=ol;simp only at Gk U_;subst Gk;subst U_;have q:(s.heap.push ob).get? l=some {cls:=.type "list",dict:=Xc,data:=.seq a8 nl,slots:=SY}:=bS _ Qv;have abW:=F.sub_list_set;have abX:=F.sub_list_frozenset;have h8:(Value.type "list"==Value.type "dict")=false:=by decide
    have JD:(s.heap.push ob).IsList l a8:=⟨_,q,rfl,nl,rfl⟩;subst L;unfold Builtin.«set.__init__» noKeywords Builtin.Frozenset.updateFrom;generalize hPI:pyIter=PI
    wp_walk
    subst hPI;refine mL JD ?_
    refine aS (wpAny_runValue ?_);have g:l<s.heap.objs.size:=bA Qv;have hh3:A.in1.in1.in1.handled=none:=by simp[hh]
    generalize hsz:(s.heap.push {cls:=.type "set",dict:=none,data:=.set #[] 0 (.fresh 0 0 (!L2.Cj w))}).objs.size=I at*;have S0:I=s.heap.objs.size+1:=by rw[<-hsz,jw]
    have aa2:l≠I:=by rw[S0];exact cc (lM g)
    have Z2:s.heap.objs.size∉[I,l]:=by
     simp only[bI,cJ,cK,kP];exact⟨by rw[S0];exact cc (pq _),dN g⟩
    refine L2.K7 (Walks.list hh3 I l aa2 a8) Z2 val hv hb (a8.size - 0) 0 _ [] (by omega) (eP _) ⟨⟨_,by rw[<-hsz];exact cy _ rfl,rfl,rfl⟩,JD.push _⟩ ?hS0 (eP _) ?hR
    case hS0=>
     refine⟨_,#[],0,.fresh 0 0 (!L2.Cj w),[],bS _ hS,⟨rfl,rfl,rfl⟩,rfl,rfl,List.Perm.refl _,xG,by show 0<scanBound;decide,rfl,?_,λz=>absurd rfl z⟩;show L2.Cj w=true\/(!L2.Cj w)=true;cases L2.Cj w<;>simp
    case hR=>
     intro h' tk hk K3;show wpAny _ _ _ _ _ _;refine bg ?_
     show wpAny _ _ (ret Value.none) _ _ _;refine bg ⟨rfl,h',tk,rfl,K3,λb o hb e=>?_⟩;exact hk b o (cc hb) (by rw[S0];exact cc (lM hb)) (bS _ (bS _ e))
   ·cases M with
    |error e=>exact S
    |ok Xd=>
     cases Xd with
     |ret r=>
      obtain⟨rfl,h',tk,rfl,K3,Oz⟩:=S
      repeat(any_goals (first|assumption|wp_step))
      exact h _ _ K3 Oz
     |_=>exact S.elim
  |_=>exact n.elim
end
end
open PySem.Calls
section
variable {prog:Program}{ss:List Str}
theorem La{Q:Bool->Shared->Prop}(q:s.TypeIs (.ref a) "set")(h:Q false s):wpAny (model prog w) A (Builtin.List.listLengthHint (.ref a)) Q E s:=by
 unfold Builtin.List.listLengthHint;refine aS (wpAny_specialOf q PySem.F.slot_set_len.lookup ?_);generalize cn:("set.__len__":String)=g
 wp_delta
 rw[show splitId g=some ("set","__len__")from by subst cn;decide+kernel];subst cn;refine aS (pD (T:="set") (b:=true) q (by rw[isSubtype_type];kernel_rfl) ?_);refine mM (λl=>absurd l (by decide)) (λ_=>?_);refine mM (λ_=>?_) (λl=>absurd (by decide+kernel) l);exact aS (ua q (bg h))
theorem Dm{R:Result->Shared->Prop}(hh:A.handled=none)(hS:lG w s.heap a ss)(L:Addr)(hLa:L≠a)(res:Value)(hL:s.heap.get? L=some {cls:=.type "list",data:=.seq #[] 0})
  (hR:∀h' tk d ki c' l,(l.map (·.1)).Perm ss->(∀b o,b≠L->s.heap.get? b=some o->h'.get? b=some o)->h'.get? L=some {cls:=.type "list",dict:=none,data:=.seq ki c',slots:=#[]}->ItemsOf (strAt l) ki l.length->
   R (.ok (.ret res)) {s with heap:=h',toks:=tk,drawn:=d}) (hn:ss.length<=sizeLine):
  wpAny (model prog w) A.in1 (Builtin.List.listExtendWith (.ref L) (.ref a) res) (λfin s'=>match fin with|.done f=>R (.ok f) s'|.again c'=>c'.quiet=true/\codeAny (model prog w) A c' R s') (λe s'=>R (.error e) s') s:=by
 have Xe:L<s.heap.objs.size:=bA hL;unfold Builtin.List.listExtendWith;refine aS (ua (T:="set") hS.typeIs ?_);have h1:Builtin.List.listSameRef (.ref L) (.ref a)=false:=by simp[Builtin.List.listSameRef,hLa]
 have h2:(Value.type "set"==Value.type "list")=false:=by decide
 have h3:(Value.type "set"==Value.type "tuple")=false:=by decide
 simp only[h1,h2,h3,jx,cE,bZ];refine aS (IH hS λgj d I fp St l hp r hI zA W st=>?_);have b9:l.length=ss.length:=by have q:=hp.length_eq;rw[bt]at q;exact q
 have W9:Shared.TypeIs {s with heap:=gj,drawn:=d} (.ref a) "set":=by
  obtain⟨o,ho,hc⟩:=hS.typeIs;exact⟨o,r _ _ ho,hc⟩
 have g:L∉fp:=λm=>by
  rcases zA L m with e|e
  ·exact hLa e
  ·exact absurd (dg Xe e) (fb _)
 have hLI:L≠I:=cc (dg Xe hI);have M:=r _ _ hL;have key:∀(h:Heap) (c₁ tk:Nat),St 0 h->(∀b o,b≠L->s.heap.get? b=some o->h.get? b=some o)->h.get? L=some {cls:=.type "list",data:=.seq #[] c₁}->
   codeAny (model prog w) A (.builtin "list.extend.loop" ⟨[.ref L,.ref I,res],[]⟩) R {s with heap:=h,toks:=tk,drawn:=d}:=by
  intro h c₁ tk cH S Xf;refine codeAny_extend_loopS (W A.in1 hh).toS (by omega) L g res l.length 0 _ #[] c₁ rfl (eP _) cH Xf (ItemsOf.nil _) λs' ki c' hm Dn sD=>?_
  rw[Moved.eq_with hm];refine hR s'.heap s'.toks d ki c' l hp (λb o hb e=>hm.heap b o (λID=>?_) (S b o hb e)) Dn sD;rcases bI.mp ID with e'|ID
  ·exact hb e'
  ·exact absurd (dg (bA e) hI) (by rw[cQ.mp ID];exact fb _)
 refine aS (fK (La W9 ?_));refine mM (λ_=>?_) (λ_=>bg ⟨g9 PySem.F.plain_extend_loop _,key _ 0 _ st (λb o _ e=>r b o e) M⟩);refine aS (fQ ?_);refine aS ?_
 show wpAny _ _ (updateSeq L (·.push .none)>>=λ_=>updateSeq L (·.pop)) _ _ _;refine aS (pF M rfl ?_);have Qw:=tq (Obj.mapSeq (·.push Value.none)) M rfl;refine pF (hz:=by seq_fits) Qw rfl ?_
 have Xg:=tq (Obj.mapSeq (·.pop)) Qw rfl;refine bg ⟨g9 PySem.F.plain_extend_loop _,key _ _ _ ?_ (λb o hb e=>?_) Xg⟩
 ·refine(W A.in1 hh).frame 0 _ _ st λb hb o e=>?_
  have n:b≠L:=λz=>g (z▸hb);exact(nG _ _ (Ne.symm n)).trans ((nG _ _ (Ne.symm n)).trans e)
 ·exact(nG _ _ (Ne.symm hb)).trans ((nG _ _ (Ne.symm hb)).trans (r b o e))
theorem Bq{R:List Value->Shared->Prop}(hh:A.handled=none)(hS:lG w s.heap a ss)(hn:ss.length<=sizeLine)
  (h:∀(h':Heap) (tk:Nat) (d:Drawn) (l:List (Str×Tok)),(l.map (·.1)).Perm ss->(∀b o,s.heap.get? b=some o->h'.get? b=some o)->s.heap.objs.size<=h'.objs.size->R (l.map E_) {s with heap:=h',toks:=tk,drawn:=d}):wpAny (model prog w) A (collect (.ref a)) R E s:=by
 have hZ:a<s.heap.objs.size:=by obtain⟨o,ho,_⟩:=hS.typeIs;exact bA ho
 have M:∀(l:List (Str×Tok)) (acc:Array Value),ItemsOf (strAt l) acc l.length->acc.toList=l.map E_:=λl acc hi=>by
  refine pj λi=>?_
  rw[ck,nJ];cases e:acc[i]? with
  |none=>
   have S:acc.size<=i:=Array.getElem?_eq_none_iff.mp e;rw[hi.1]at S;rw[jg.mpr S];rfl
  |some v=>exact(hi.2 i v e).symm
 unfold collect;refine aS (wpAny_runValue (f9 entry_proto_collect' ?_));rw[g0 Co _];show wpAny _ A.in1 (newList []>>=λl=>again (.builtin "list.__iadd__" ⟨[l,.ref a],[]⟩)) _ _ s;refine aS (kJ ?_);refine bg ⟨g9 sY _,f9 entry_list_iadd' ?_⟩;rw[g0 sY _];have hL:(s.heap.push {cls:=.type "list",data:=.seq ([]:List Value).toArray}).get? s.heap.objs.size=some {cls:=.type "list",data:=.seq #[]}:=cy _ rfl;show wpAny _ A.in1 (Builtin.List.listExtendWith (.ref s.heap.objs.size) (.ref a) (.ref s.heap.objs.size)) _ _ _;have key:=Dm (prog:=prog) (A:=A) (s:={s with heap:=s.heap.push {cls:=.type "list",data:=.seq ([]:List Value).toArray}}) (ss:=ss)
  (R:=λ(q:Result) (s':Shared)=>∃(h':Heap) (tk:Nat) (d:Drawn) (g:Array Value) (r:Nat) (l:List (Str×Tok)),q=.ok (.ret (.ref s.heap.objs.size))/\s'={s with heap:=h',toks:=tk,drawn:=d}/\
   (l.map (·.1)).Perm ss/\(∀b o,s.heap.get? b=some o->h'.get? b=some o)/\h'.get? s.heap.objs.size=some {cls:=.type "list",dict:=none,data:=.seq g r,slots:=#[]}/\ItemsOf (strAt l) g l.length)
  hh (hS.keep λo e=>bS _ e) s.heap.objs.size (dN hZ) (.ref s.heap.objs.size) hL
  (λh' tk d g r l hp I n L=>⟨h',tk,d,g,r,l,rfl,rfl,hp,λb o e=>I b o (cc (bA e)) (bS _ e),n,L⟩) hn
 refine d7 key (λfin s' x=>?_) λe s' x=>?_
 ·cases fin with
  |done f=>
   obtain⟨h',tk,d,g,r,l,e,rfl,hp,I,n,L⟩:=x;cases e;show wpAny _ A (load s.heap.objs.size>>=_) _ _ _;refine aS (pK n ?_);refine bg ?_
   rw[M l g L];exact h h' tk d l hp I (dq (bA n))
  |again c₁=>
   refine⟨x.1,iE x.2 λq ug y=>?_⟩;obtain⟨h',tk,d,g,r,l,rfl,rfl,hp,I,n,L⟩:=y;show wpAny _ A (load s.heap.objs.size>>=_) _ _ _;refine aS (pK n ?_);refine bg ?_
   rw[M l g L];exact h h' tk d l hp I (dq (bA n))
 ·obtain⟨_,_,_,_,_,_,e',_⟩:=x;cases e'
theorem yz:∀l:List (Str×Tok),StrsAre (l.map E_) (l.map (·.1))
 |[]=>.nil
 |p::r=>.cons p.1 p.2 (yz r)
def Dp(hh:A.handled=none)(hS:lG w s.heap a ss)(Fc:ss.length<64)
  (h:∀h' tk d D out n Ck,(∀b o,s.heap.get? b=some o->h'.get? b=some o)->s.heap.objs.size<=D->h'.get? D=some {cls:=.type "list",data:=.seq out n}->StrsAre out.toList Ck->Ck.Perm ss->sortedS Ck=true->
   Q (.ref D) {s with heap:=h',toks:=tk,drawn:=d}):wpAny (model prog w) A (call (.builtin "sorted") [.ref a]) Q E s:=by
 have hz:ss.length<=sizeLine:=by rw[dW];omega
 refine call_function_entry kind_sorted plain_sorted entry_sorted (args_sorted1 _) ?_
 unfold Builtin.«sorted»;refine aS (m:=checkCount "sorted" 1 1 _) (bg ?_);refine aS (Bq (A:=A.in1) hh hS hz λg tk d l hp S hle=>?_);have b9:l.length=ss.length:=by have q:=hp.length_eq;rw[bt]at q;exact q
 refine aS (pI ?_ (by show(l.map E_).length<=_;rw[bt];omega));have r:=yz l;have I:(g.push (seqObj "list" (l.map E_).toArray 0)).get? g.objs.size=some (seqObj "list" (l.map E_).toArray 0):=cy _ rfl;refine aS (fK (g6 slot_list_sort ⟨_,I,rfl⟩ entry_list_sort
  (list_sort_treeK strKind_oneLt I r.keysOf (λaa3 aa4 c8 e=>keyKind_strs (by rw[<-e];exact r)) (by rw[bt];omega) λL a1 a2=>⟨_,rfl,?_⟩) (args_list_sort _)))
 refine bg ⟨_,rfl,?_⟩;obtain⟨Ck,q1,q2,q3⟩:=sorted_out_str r a1 a2;obtain⟨e,he⟩:=sortedHeap_at (out:=(arrOf L).map (·.2)) I;refine h _ tk d g.objs.size ((arrOf L).map (·.2)) e Ck (λb o q=>?_) hle he q1 (q2.trans hp) q3;have hb:=S b o q;have M:=bA hb;rw[sortedHeap_old (cc M) (by rw[jw];exact lM M)];exact bS _ hb
end
noncomputable def Dq(a b:Str):Bool:=!decide (b.cps.toList<a.cps.toList)
def wM:Dq x au=true↔x.cps.toList<=au.cps.toList:=by
 unfold Dq;rw[xr,decide_eq_false_iff_not];exact Iff.rfl
theorem Ak{c:Str}(q:Dq x au=true)(h2:Dq au c=true):Dq x c=true:=by
 rw[wM]at*;exact List.le_trans q h2
theorem II(a b:Str):(Dq a b||Dq b a)=true:=by
 rw[Bool.or_eq_true,wM,wM];exact List.le_total _ _
theorem Lb{b:Str}(q:Dq x b=true)(h2:Dq b x=true):x=b:=by
 rw[wM]at*;exact ext_toList (List.le_antisymm q h2)
def c_(ss:List Str):List Str:=ss.mergeSort Dq
def eL(ss:List Str):(c_ ss).Perm ss:=List.mergeSort_perm ss _
def sE(ss:List Str):(c_ ss).Pairwise (λa b=>Dq a b=true):=List.pairwise_mergeSort (le:=Dq) (λa b c g h2=>Ak g h2) II ss
theorem vY:∀(p:Str) (l:List Str),risingS p l=true->(p::l).Pairwise (λa b=>Dq a b=true)
 |p,[],_=>xg _ _
 |p,x::r,h=>by
  have h':(!ltCps x.cps.toList p.cps.toList&&risingS x r)=true:=h;rw[bW,ltCps_eq]at h';have n:=vY x r h'.2;have hp:Dq p x=true:=h'.1;refine List.pairwise_cons.mpr ⟨λy g=>?_,n⟩;rcases bI.mp g with rfl|g
  ·exact hp
  ·exact Ak hp (List.rel_of_pairwise_cons n g)
theorem Ds:∀l:List Str,sortedS l=true->l.Pairwise (λa b=>Dq a b=true)
 |[],_=>List.Pairwise.nil
 |x::r,h=>vY x r h
def vZ{b:List Str}(hp:ps.Perm b)(q:ps.Pairwise (λps b=>Dq ps b=true))(hb:b.Pairwise (λps b=>Dq ps b=true)):ps=b:=
 hp.eq_of_pairwise (λx y _ _ g h2=>Lb g h2) q hb
def uH{ss:List Str}(hp:ps.Perm ss)(hs:sortedS ps=true):ps=c_ ss:=vZ (hp.trans (eL ss).symm) (Ds _ hs) (sE ss)
def Dt{b:List Str}(h:ps.Perm b):c_ ps=c_ b:=vZ ((eL ps).trans (h.trans (eL b).symm)) (sE ps) (sE b)
def IJ(w:World)(a:Addr)(ss:List Str):HO:=.ext λh=>lG w h a ss
theorem qT:∀{vs:List Value} {ss:List Str},StrsAre vs ss->Vals (ss.map V.str) vs
 |_,_,.nil=>.nil
 |_,_,.cons y t r=>.cons ⟨t,rfl⟩ (qT r)
theorem vx:∀{ss:List Str} {vs:List Value},Vals (ss.map V.str) vs->StrsAre vs ss
 |[],_,.nil=>.nil
 |y::r,_,.cons b g=>by
  obtain⟨t,rfl⟩:=(show∃t,_=Value.str y t from b);exact .cons y t (vx g)
def IK(ts:List Str):(List.range' 0 ts.length).map (λi=>ts.getD i Str.empty)=ts:=by
 refine List.ext_getElem (by simp) λi b h2=>?_
 simp[h2]
def Inv.OA (I:Inv X U Z H s)(d:Drawn):Inv X U Z H {s with drawn:=d}:=
 I.step (h':=s.heap) (H':=H) (g':=s.gens) (t':=s.toks) (d':=d) (ch:=[]) (λ_ z=>nomatch z) (λb o _ _ _ e _=>e) (λb o _ _ _ e _=>⟨o.slots,e⟩) (λb o _ _ n=>n) (λb o _ e=>⟨o,e⟩) (λ_ _ e=>e) (λ_ _ _ e=>e)
   (λb ps e=>⟨#[],by rw[e];simp⟩) (λm hm=>hm) I.cX I.bare
theorem IL(hc:X.calm=true):gP X (.type "set") (λxs H Q=>∃(p:Addr) (ts:List Str),xs=[.ref p]/\l0 X.K H p (ts.map V.str)/\ts.length+1<scanBound/\∀a,H a=none->Q (.ref a) (upd H a (IJ X.w a (eW [] ts)))):=by
 intro U s Z H xs us Q I r h;obtain⟨p,ts,rfl,S,hb,q⟩:=h;obtain⟨u,rfl,g⟩:=vals1 r;cases(show u=Value.ref p from g);obtain⟨cw,rv,pl,hz⟩:=I.list S;have l:cw.length=ts.length:=by have e:=rv.length;rw[bt]at e;exact e.symm
 refine K_ (val:=λi=>ts.getD i Str.empty) (I.ok.hd hc) pl.isList (λi v hv=>?_) (by rw[cU,l];exact hb) λh' tk n hk=>?_
 ·have L:cw[i]?=some v:=by simpa using hv
  have hi:i<ts.length:=by rw[<-l];exact(gx.mp L).1
  obtain⟨u,M,g⟩:=rv.get (i:=i) (x:=V.str ts[i]) (by rw[ck,b_ hi];rfl);rw[L]at M;cases M;obtain⟨t,rfl⟩:=(show∃t,v=Value.str ts[i] t from g);exact⟨t,by rw[eM,b_ hi];rfl⟩
 ·have e0:cw.toArray.size=ts.length:=by rw[cU];exact l
  rw[e0,IK]at n;have hf:H s.heap.objs.size=none:=I.fresh;refine⟨.ref s.heap.objs.size,_,I.laid (o:=IJ X.w s.heap.objs.size (eW [] ts)) (λb o e=>hk b o (bA e) e) (bu _) ⟨n,?_,λh1 h2 x k=>lG.keep x k⟩,rfl,q _ hf⟩;obtain⟨o,_,_,_,_,ho,_⟩:=n;exact⟨o,ho⟩
theorem yA(hc:X.calm=true):gP X (.builtin "sorted") (λxs H Q=>∃(a:Addr) (ss:List Str),xs=[.ref a]/\H a=some (IJ X.w a ss)/\ss.length<64/\∀D,H D=none->Q (.ref D) (upd H D (.lst ((c_ ss).map V.str)))):=by
 intro U s Z H xs us Q I r h;obtain⟨a,ss,rfl,ha,g,q⟩:=h;obtain⟨u,rfl,l⟩:=vals1 r;cases(show u=Value.ref a from l);obtain⟨L,_,_⟩:=(show cY X.prog X.w H s.heap a (.ext λh=>lG X.w h a ss)from I.cX a _ ha);refine Dp (I.ok.hd hc) L g λh' M d D out n Ck S b hg cH hp hs=>?_
 have e:=uH hp hs;subst e;have hf:H D=none:=I.cX.fresh b;have hz:((c_ ss).map V.str).length<=sizeLine:=by
  rw[bt,(eL ss).length_eq,dW];omega
 have I1:Inv X U Z (upd H D (.lst ((c_ ss).map V.str))) {s with heap:=h',toks:=M}:=I.laid (o:=.lst ((c_ ss).map V.str)) S b ⟨hz,out.toList,n,qT cH,by rw[tm];exact hg⟩;exact⟨.ref D,_,I1.OA d,rfl,q _ hf⟩
theorem Br:gP X (.builtin "sorted") (λxs H Q=>∃(a:Addr) (ss:List Str),xs=[.ref a]/\l0 X.K H a (ss.map V.str)/\ss.length<64/\∀D,H D=none->Q (.ref D) (upd H D (.lst ((c_ ss).map V.str)))):=by
 intro U s Z H xs us Q I r h;obtain⟨a,ss,rfl,ha,Fc,q⟩:=h;obtain⟨u,rfl,l⟩:=vals1 r;cases(show u=Value.ref a from l);obtain⟨cw,rv,pl,_⟩:=I.list ha;have cH:=vx rv;have b9:cw.length=ss.length:=by have e:=rv.length;rw[bt]at e;exact e.symm
 refine sorted_strs pl.isList cH (by omega) λout Ck L h2 M=>?_
 have e:=uH h2 M;subst e;obtain⟨n,S⟩:=sortedAll_at s.heap cw out;have g:s.heap.objs.size<=s.heap.objs.size+1:=pJ _;have hf:H (s.heap.objs.size+1)=none:=I.cX.fresh g;have hz:((c_ ss).map V.str).length<=sizeLine:=by
  rw[bt,(eL ss).length_eq,dW];omega
 exact⟨.ref (s.heap.objs.size+1),_,I.laid (t':=s.toks) (o:=.lst ((c_ ss).map V.str)) (λb o e=>sortedAll_old e) g ⟨hz,out.toList,n,qT L,by rw[tm];exact S⟩,rfl,q _ hf⟩
theorem yB{t:Addr}{x:Value}(hit:s.heap.IsTupleIter ar t i)(q:s.heap.IsTuple t ak)(hx:ak[i]?=some x)
  (hQ:∀h',h'.IsTupleIter ar t (i+1)->Heap.SameBut ar s.heap h'->Q x {s with heap:=h'}):wpAny (model P w) A (Builtin.SmallTypes.nextOf (.ref ar)) Q E s:=by
 have key:wpAny (model P w) A (pyNext (.ref ar)) (λr s'=>∃v,r=some v/\Q v s') (λ_ _=>False) s:=wpAny_pyNext_tuple_item hit q hx λh' a b=>⟨x,rfl,hQ h' a b⟩;obtain⟨o,g,l,hd⟩:=id hit;obtain⟨ol,n,_,nl,I⟩:=q;unfold Builtin.SmallTypes.nextOf;refine aS (my (name:=Str.ofString "__next__") hit.typeIs sV (g6 sV hit.typeIs F.entry_tuple_iterator_next ?_ (F.args_tuple_iterator_next_1 _)));show wpAny _ _ (field (.ref ar) 0>>=_) _ _ s;refine aS (gC g hd (x:=.ref t) rfl ?_);show wpAny _ _ (if(Value.ref t==Value.none)=true then _ else _) _ _ s;rw[ba (show¬((Value.ref t==Value.none)=true)from fI)];show wpAny _ _ (field (.ref ar) 1>>=_) _ _ s;refine aS (gC g hd (x:=.int i 0) rfl ?_);show wpAny _ _ (seqItems? (.ref t)>>=_) _ _ s;refine aS (g8 n I ?_);simp only[lN,hx];refine aS (wpAny_setField g hd (by simp) (bg ⟨x,rfl,bg (hQ _ ?_ (ph ..))⟩));exact⟨_,tq _ g (Obj.isFreed_of_fields (Obj.data_mapFields hd _)),(Obj.cls_mapFields ..).trans l,by rw[Obj.data_mapFields hd];simp[rawInt]⟩
theorem IM{t:Addr}(q:A.handled=none)(hit:s.heap.IsTupleIter a t i)(ht:s.heap.IsTuple t ak)(hx:ak[i]?=none)
  (hE:∀h' (e:Addr),Heap.ExtBut a s.heap h'->Shared.TypeIs {s with heap:=h'} (.ref e) "StopIteration"->E (.ref e) {s with heap:=h'}):wpAny (model P w) A (Builtin.SmallTypes.nextOf (.ref a)) Q E s:=by
 obtain⟨o,g,L,hd⟩:=id hit;obtain⟨ol,l,_,nl,n⟩:=ht;unfold Builtin.SmallTypes.nextOf;refine aS (my (name:=Str.ofString "__next__") hit.typeIs sV (g6 sV hit.typeIs F.entry_tuple_iterator_next ?_ (F.args_tuple_iterator_next_1 _)));show wpAny _ _ (field (.ref a) 0>>=_) _ _ s;refine aS (gC g hd (x:=.ref t) rfl ?_);show wpAny _ _ (if(Value.ref t==Value.none)=true then _ else _) _ _ s;rw[ba (show¬((Value.ref t==Value.none)=true)from fI)];show wpAny _ _ (field (.ref a) 1>>=_) _ _ s;refine aS (gC g hd (x:=.int i 0) rfl ?_);show wpAny _ _ (seqItems? (.ref t)>>=_) _ _ s;refine aS (g8 l n ?_);simp only[lN,hx];refine aS (fQ (aS (wpAny_setField g hd (by simp) ?_)));show wpAny _ _ (newExc (.type "StopIteration") []>>=_) _ _ _;refine aS (yx q λh' x r I=>?_);exact hE h' x (λb o hb e=>I b o ((ph ..).extBut b o hb e)) r
structure ZA(z TI TO i1 i2:Addr):Prop where
 TIz:TI≠z
 TOz:TO≠z
 i1z:i1≠z
 i2z:i2≠z
 TITO:TI≠TO
 TIi1:TI≠i1
 TIi2:TI≠i2
 TOi1:TO≠i1
 TOi2:TO≠i2
 i12:i1≠i2
theorem IP{TO i1 i2 l1 l2:Addr}{ys:Array Value}{x y b:Value}(D:ZA a ar TO i1 i2)(hz:IsZip s.heap a ar TO .none)(Fd:IsPair s.heap ar (.ref i1) (.ref i2))(IQ:IsPair s.heap TO af b)
  (h1:s.heap.IsTupleIter i1 l1 i) (h2:s.heap.IsTupleIter i2 l2 ay) (JD:s.heap.IsTuple l1 ak) (Ng:s.heap.IsTuple l2 ys) (d1:l1≠a/\l1≠TO/\l1≠i1/\l1≠i2) (d2:l2≠a/\l2≠TO/\l2≠i1/\l2≠i2) (hx:ak[i]?=some x) (hy:ys[ay]?=some y)
  (hQ:∀h',IsZip h' a ar TO (rawInt s.heap.objs.size)->IsPair h' TO x y->h'.IsTupleIter i1 l1 (i+1)->h'.IsTupleIter i2 l2 (ay+1)->IsPair h' s.heap.objs.size x y->
   (∀c o,c≠a->c≠TO->c≠i1->c≠i2->s.heap.get? c=some o->h'.get? c=some o)->aK (some (.ref s.heap.objs.size)) {s with heap:=h'}):wpAny (model P w) A (pyNext (.ref a)) aK E s:=by
 have hT:s.TypeIs (.ref a) "zip":=⟨_,hz,rfl⟩;unfold pyNext;refine aS (t_ (my (name:=Str.ofString "__next__") hT t7 (g6 t7 hT F.entry_zip_next ?_ (F.args_zip_next_1 _))));show wpAny _ _ (field (.ref a) 2>>=_) _ _ _;refine aS (gC hz rfl (x:=.bool false) rfl ?_);show wpAny _ _ (field (.ref a) 3>>=_) _ _ _;refine aS (gC hz rfl (x:=.ref ar) rfl (aS (g8 Fd rfl ?_)));show wpAny _ _ (Builtin.SmallTypes.ownedTupleIsFree (.ref a)>>=_) _ _ _;refine aS ?_
 unfold Builtin.SmallTypes.ownedTupleIsFree;refine aS (gC hz rfl (x:=.none) rfl (bg ?_));simp only[bX];refine aS (fQ (aS (gC hz rfl (x:=.ref TO) rfl ?_)));refine aS (jh hz (by simp) λgj yC l=>?_);replace yC:IsZip gj a ar TO .ellipsis:=yC;refine aS ?_
 simp only[List.zipIdx_cons,List.zipIdx_nil,pA,xH];refine aS (aS (wpAny_onRaise ?_));show wpAny _ _ (Builtin.SmallTypes.nextOf (.ref i1)>>=_) _ _ _;refine aS (yB (s:={s with heap:=gj}) (h1.extBut l.extBut D.i1z) (JD.extBut l.extBut d1.1) hx λpU Xh r=>bg ?_);have Lc:IsPair pU TO af b:=r.extBut _ _ D.TOi1 (l.extBut _ _ D.TOz IQ);refine aS (g8 Lc rfl (aS (wpAny_updateSeq_pair Lc λzx Fe I=>?_)));replace Fe:IsPair zx TO x b:=Fe;refine aS (mQ (bg (aS (aS (wpAny_onRaise ?_)))));show wpAny _ _ (Builtin.SmallTypes.nextOf (.ref i2)>>=_) _ _ _;refine aS (yB (s:={s with heap:=zx}) (((h2.extBut l.extBut D.i2z).extBut r.extBut D.i12.symm).extBut I.extBut D.TOi2.symm) (((Ng.extBut l.extBut d2.1).extBut r.extBut d2.2.2.1).extBut I.extBut d2.2.1) hy λRX Xi L=>bg ?_);have Le:IsPair RX TO x b:=L.extBut _ _ D.TOi2 Fe;refine aS (g8 Le rfl (aS (wpAny_updateSeq_pair Le λg S M=>?_)));replace S:IsPair g TO x y:=S;refine aS (mQ (bg (bg ?_)));refine aS (g8 S rfl (aS (wpAny_newTuple ?_)));have hsz:g.objs.size=s.heap.objs.size:=by rw[M.1,L.1,I.1,r.1,l.1]
 have Qx:IsZip g a ar TO .ellipsis:=M.extBut _ _ D.TOz.symm (L.extBut _ _ D.i2z.symm (I.extBut _ _ D.TOz.symm (r.extBut _ _ D.i1z.symm yC)));have Xj:∀c o,c≠a->c≠TO->c≠i1->c≠i2->s.heap.get? c=some o->g.get? c=some o:=λc o n q c3 c4 e=>M.extBut _ _ q (L.extBut _ _ c4 (I.extBut _ _ q (r.extBut _ _ c3 (l.extBut _ _ n e))));have Xk:g.IsTupleIter i1 l1 (i+1):=((Xh.extBut I.extBut D.TOi1.symm).extBut L.extBut D.i12).extBut M.extBut D.TOi1.symm;have Xl:g.IsTupleIter i2 l2 (ay+1):=Xi.extBut M.extBut D.TOi2.symm;have Xm:a<g.objs.size:=bA Qx;show wpAny _ _ (Builtin.SmallTypes.ownedTupleHandOut (.ref a) (.ref g.objs.size)>>=_) _ _ _;refine aS ?_
 unfold Builtin.SmallTypes.ownedTupleHandOut;have Xn:IsZip (g.push {cls:=.type "tuple",data:=.seq #[x,y]}) a ar TO .ellipsis:=bS _ Qx;refine aS (jh Xn (by simp) λaa5 Lg Xo=>?_);replace Lg:IsZip aa5 a ar TO (rawInt g.objs.size):=Lg;refine jh Lg (by simp) λOB GV Xp=>?_
 replace GV:IsZip OB a ar TO (rawInt g.objs.size):=GV;have up:∀c o,c≠a->g.get? c=some o->OB.get? c=some o:=λc o n e=>Xp.extBut _ _ n (Xo.extBut _ _ n (bS _ e));have Qy:IsPair OB g.objs.size x y:=Xp.extBut _ _ (dN Xm) (Xo.extBut _ _ (dN Xm) (cy _ rfl));rw[hsz]at GV Qy;refine bg ⟨_,rfl,bg ?_⟩;show aK (some (.ref g.objs.size)) _;rw[hsz];exact hQ OB GV (up _ _ D.TOz S) (Xk.at λo e=>up _ o D.i1z e) (Xl.at λo e=>up _ o D.i2z e) Qy λc o n q c3 c4 e=>up c o n (Xj c o n q c3 c4 e)
theorem Lh{z i1 i2 l1:Addr}{b:Value}(hh:A.handled=none)(D:ZA z a ar i1 i2)(hz:IsZip s.heap z a ar .none)(Fd:IsPair s.heap a (.ref i1) (.ref i2))(IQ:IsPair s.heap ar af b)
  (h1:s.heap.IsTupleIter i1 l1 i) (JD:s.heap.IsTuple l1 ak) (d1:l1≠z) (hx:ak[i]?=none)
  (hQ:∀h',(∀c o,c≠z->c≠i1->s.heap.get? c=some o->h'.get? c=some o)->aK none {s with heap:=h'}):wpAny (model P w) A (pyNext (.ref z)) aK E s:=by
 have M:s.TypeIs (.ref z) "zip":=⟨_,hz,rfl⟩;unfold pyNext;refine aS (t_ (my (name:=Str.ofString "__next__") M t7 (g6 t7 M F.entry_zip_next ?_ (F.args_zip_next_1 _))));show wpAny _ _ (field (.ref z) 2>>=_) _ _ _;refine aS (gC hz rfl (x:=.bool false) rfl ?_);show wpAny _ _ (field (.ref z) 3>>=_) _ _ _;refine aS (gC hz rfl (x:=.ref a) rfl (aS (g8 Fd rfl ?_)));show wpAny _ _ (Builtin.SmallTypes.ownedTupleIsFree (.ref z)>>=_) _ _ _;refine aS ?_
 unfold Builtin.SmallTypes.ownedTupleIsFree;refine aS (gC hz rfl (x:=.none) rfl (bg ?_));simp only[bX];refine aS (fQ (aS (gC hz rfl (x:=.ref ar) rfl ?_)));refine aS (jh hz (by simp) λS n r=>?_);replace n:IsZip S z a ar .ellipsis:=n;refine aS ?_
 simp only[List.zipIdx_cons,List.zipIdx_nil,pA,xH];refine aS (aS (wpAny_onRaise ?_));show wpAny _ _ (Builtin.SmallTypes.nextOf (.ref i1)>>=_) _ _ _;refine aS (IM (s:={s with heap:=S}) hh (h1.extBut r.extBut D.i1z) (JD.extBut r.extBut d1) hx λI e vt he=>?_);have Qz:IsZip I z a ar .ellipsis:=vt _ _ D.i1z.symm n;obtain⟨oe,g,l⟩:=he;have L:e≠z:=λq=>by
  have Xq:I.get? e=some oe:=g;rw[q,Qz]at Xq;cases Xq;simp at l
 refine jh (s:={s with heap:=I}) Qz (by simp) λzx _ Bs=>?_
 refine aS (pD (s:={s with heap:=zx}) (T:="StopIteration") (b:=true) ⟨oe,Bs.extBut _ _ L g,l⟩ isSubtype_stop ?_);exact bg (hQ zx λc o c1 c2 q=>Bs.extBut _ _ c1 (vt _ _ c2 (r.extBut _ _ c1 q)))
section
variable {h':Heap}
def jl.apart {b:Addr}{xs:List V}(I:Inv X U Z H s)(h:jl X.K H a xs)(f:kQ X U H b):a≠b:=by
 rcases h with(h|⟨o,h⟩)|⟨o,cw,n,g,_⟩
 ·exact bT h f.1
 ·exact bT h f.1
 ·intro e;subst e;have hb:=I.ok.mod.PR a o g;rcases f.2.2.2.1 with q|q
  ·exact I.ok.AS a o hb q
  ·exact absurd (dg (bA (I.ok.bs a o hb).1) q) (fb _)
def Inv.IS {ch:List Addr}{T:Addr}{o:HO}{t':Nat}(I:Inv X U Z H s)(zJ:∀b∈ch,kQ X U H b)(k:∀b o,b∉ch->s.heap.get? b=some o->h'.get? b=some o)(hT:s.heap.objs.size<=T)
  (new:cY X.prog X.w (upd H T o) h' T o):Inv X U Z (upd H T o) {s with heap:=h',toks:=t'}:=by
 have l:H T=none:=I.cX.fresh hT;have r:∀b u,H b=some u->b∉ch:=λb u e m=>by rw[(zJ b m).1]at e;cases e
 refine I.step (g':=s.gens) (d':=s.drawn) (ch:=ch) (λb hb=>?_) (λb o _ _ g e _=>k b o g e) (λb o _ _ g e _=>⟨o.slots,k b o g e⟩) (λb o _ e n=>?_) (λb o g e=>⟨o,k b o g e⟩) (λb xs e=>?_) (λb o u e=>?_) (λb ps e=>⟨#[],?_⟩) (λm hm=>?_) (λb u e=>?_) I.bare
 ·obtain⟨_,L,_,x3,M,S⟩:=zJ b hb;exact⟨x3,L,M,S⟩
 ·rw[bo (cc (dg (bA e) hT))];exact n
 ·rw[bo (bT e l)];exact e
 ·rw[bo (bT e l)];exact e
 ·rw[bo (bT e l),e];simp
 ·exact hm.at' λo e=>k _ o (λz=>(zJ _ z).2.1 rfl) e
 ·by_cases hb:b=T
  ·subst hb;rw[bO]at e;cases e;exact new
  ·rw[bo hb]at e;refine(I.cX b u e).pM (λc v g q=>k c v ?_ q) (λc q=>by rw[bo (bT q l)];exact q) λc xs q=>by rw[bo (bT q l)];exact q
   rcases g with rfl|g
   ·exact r c u e
   ·exact r c _ g
def Inv.qU {ch:List Addr}{t':Nat}(I:Inv X U Z H s)(zJ:∀b∈ch,kQ X U H b)(k:∀b o,b∉ch->s.heap.get? b=some o->h'.get? b=some o):Inv X U Z H {s with heap:=h',toks:=t'}:=by
 have l:∀b u,H b=some u->b∉ch:=λb u e m=>by rw[(zJ b m).1]at e;cases e
 refine I.step (g':=s.gens) (d':=s.drawn) (ch:=ch) (λb hb=>?_) (λb o _ _ g e _=>k b o g e) (λb o _ _ g e _=>⟨o.slots,k b o g e⟩) (λb o _ e n=>n) (λb o g e=>⟨o,k b o g e⟩) (λb xs e=>e) (λb o u e=>e) (λb ps e=>⟨#[],by rw[e];simp⟩) (λm hm=>?_) (λb u e=>?_) I.bare
 ·obtain⟨_,r,_,x3,L,M⟩:=zJ b hb;exact⟨x3,r,L,M⟩
 ·exact hm.at' λo e=>k _ o (λz=>(zJ _ z).2.1 rfl) e
 ·refine(I.cX b u e).pM (λc v g q=>k c v ?_ q) (λc q=>q) λc xs q=>q;rcases g with rfl|g
  ·exact l c u e
  ·exact l c _ g
end
def Itz(K:Frag)(a b:Addr):It:=
 ⟨λi H=>∃xs ys x y,jl K H a xs/\jl K H b ys/\xs[i]?=some x/\ys[i]?=some y,
  λi H v H'=>∃T x y,v=.ref T/\H T=none/\H'=upd H T (.tup [x,y])/\(∀xs,jl K H a xs->xs[i]?=some x)/\(∀ys,jl K H b ys->ys[i]?=some y),
  λi H=>∃xs,jl K H a xs/\xs.length<=i⟩
theorem Xr{G:Prop}(k:∀P:Prop,(G->P)->P):G:=k G id
theorem Li{z TO i1 i2 b:Addr}(D:ZA z ar TO i1 i2):
  Turn P w K (.Tuple az ay pos) (Itz K a b) [z,ar,TO,i1,i2] z (λi h=>IsZip h z ar TO .none/\IsPair h ar (.ref i1) (.ref i2)/\(∃p q,IsPair h TO p q)/\h.IsTupleIter i1 a i/\h.IsTupleIter i2 b i) where
 mem:=by simp
 obj:=λi h st c M=>by
  obtain⟨hz,g,⟨p,q,l⟩,⟨o1,e1,c1,d1⟩,⟨o2,e2,c2,d2⟩⟩:=st;simp only[bI,cJ,cK]at M;rcases M with rfl|rfl|rfl|rfl|rfl
  ·exact⟨_,hz,λv e=>by cases(show Data.fields _=Data.cell v from e)⟩
  ·exact⟨_,g,λv e=>by cases(show Data.seq _ _=Data.cell v from e)⟩
  ·exact⟨_,l,λv e=>by cases(show Data.seq _ _=Data.cell v from e)⟩
  ·exact⟨o1,e1,λv e=>by rw[d1]at e;cases e⟩
  ·exact⟨o2,e2,λv e=>by rw[d2]at e;cases e⟩
 keep:=λi h h' st k=>by
  obtain⟨hz,g,⟨p,q,l⟩,h1,h2⟩:=st;exact⟨k z (by repeat constructor) _ hz,k ar (by repeat constructor) _ g,⟨p,q,k TO (by repeat constructor) _ l⟩,h1.at λo e=>k i1 (by repeat constructor) o e,h2.at λo e=>k i2 (by repeat constructor) o e⟩
 item:=by
  intro X hP hw hK M i U s Z H E I hf st hg;subst hP hw hK;refine Xr λP go=>?_
  obtain⟨xs,ys,x,y,r,n,hx,hy⟩:=hg;obtain⟨hz,g,⟨p,q,l⟩,h1,h2⟩:=st;obtain⟨Lj,Z4,p1,_⟩:=I.tuple r;obtain⟨xV,Nb,p2,_⟩:=I.tuple n;obtain⟨S,hu1,ru1⟩:=Z4.get hx;obtain⟨u2,hu2,Xs⟩:=Nb.get hy;have Z5:∀c∈[z,ar,TO,i1,i2],a≠c:=λc m=>r.apart I (hf c m);have Z6:∀c∈[z,ar,TO,i1,i2],b≠c:=λc m=>n.apart I (hf c m);refine go ?_
  refine IP D hz g l h1 h2 (show s.heap.IsTuple a Lj.toArray from p1) (show s.heap.IsTuple b xV.toArray from p2) ⟨Z5 _ (by repeat constructor),Z5 _ (by repeat constructor),Z5 _ (by repeat constructor),Z5 _ (by repeat constructor)⟩ ⟨Z6 _ (by repeat constructor),Z6 _ (by repeat constructor),Z6 _ (by repeat constructor),Z6 _ (by repeat constructor)⟩
   (x:=S) (y:=u2) (by simpa using hu1) (by simpa using hu2) λgj g1 g2 g3 g4 g5 kk=>?_
  refine⟨_,rfl,wpAny_letOwnedTupleGo_zip g1 λpU k1 L=>?_⟩;have lt:∀{c:Addr} {o:Obj},s.heap.get? c=some o->s.heap.objs.size≠c:=λe=>dN (bA e);have hTz:s.heap.objs.size≠z:=lt hz;have up:∀c o,c∉[z,TO,i1,i2]->s.heap.get? c=some o->pU.get? c=some o:=λc o m e=>by
   simp only[bI,cJ,cK,kP]at m;exact L.extBut _ _ m.1 (kk c o m.1 m.2.1 m.2.2.1 m.2.2.2 e)
  have NI:IsPair pU s.heap.objs.size S u2:=L.extBut _ _ hTz g5;refine⟨.ref s.heap.objs.size,_,I.IS (t':=s.toks) (ch:=[z,TO,i1,i2]) (T:=s.heap.objs.size) (o:=.tup [x,y]) (λc m=>hf c ?_) up (bu _) ⟨by show 2<=sizeLine;decide,[S,u2],.cons ru1 (.cons Xs .nil),⟨_,NI,rfl,_,rfl⟩⟩,rfl,
   ⟨s.heap.objs.size,x,y,rfl,I.fresh,rfl,λxs' h=>by rw[I.qN h r];exact hx,λys' h=>by rw[I.qN h n];exact hy⟩,
   ⟨k1,L.extBut _ _ D.TIz (kk _ _ D.TIz D.TITO D.TIi1 D.TIi2 g),⟨S,u2,L.extBut _ _ D.TOz g2⟩,g3.extBut L.extBut D.i1z,g4.extBut L.extBut D.i2z⟩,λc m=>?_⟩
  ·simp only[bI,cJ,cK]at m;rcases m with rfl|rfl|rfl|rfl<;>repeat constructor
  ·rw[bo ?_]
   ·exact(hf c m).1
   ·simp only[bI,cJ,cK]at m;obtain⟨o1,e1,_⟩:=h1;obtain⟨o2,e2,_⟩:=h2;rcases m with rfl|rfl|rfl|rfl|rfl
    ·exact(lt hz).symm
    ·exact(lt g).symm
    ·exact(lt l).symm
    ·exact(lt e1).symm
    ·exact(lt e2).symm
 done:=by
  intro X hP hw hK M i U s Z H E I hf st hg;subst hP hw hK;obtain⟨xs,r,hx⟩:=hg;obtain⟨hz,g,⟨p,q,l⟩,h1,h2⟩:=st;obtain⟨Lj,Z4,p1,_⟩:=I.tuple r;have hl:=Z4.length;refine Lh (I.ok.hd M) D hz g l h1 (show s.heap.IsTuple a Lj.toArray from p1) (r.apart I (hf z (by repeat constructor))) (by simp;omega) λh' kk=>⟨rfl,?_⟩;refine I.qU (t':=s.toks) (ch:=[z,i1]) (λc m=>hf c ?_) λc o m e=>?_
  ·simp only[bI,cJ,cK]at m⊢;rcases m with h|h<;>simp[h]
  ·simp only[bI,cJ,cK,kP]at m;exact kk c o m.1 m.2 e
 self:=λ_ _ _ _ _ st h=>wpAny_pyIter_zip st.1 h
def S2(n:Nat):ZA (n+4) (n+2) (n+3) n (n+1):=⟨cc (by omega),cc (by omega),cc (by omega),cc (by omega),cc (by omega),dN (by omega),dN (by omega),dN (by omega),dN (by omega),cc (by omega)⟩
def aa6(K:Frag)(ta:TA):TI:=λZ H R=>ta Z H λvs H1=>∃a b xs ys,vs=[.ref a,.ref b]/\jl K H1 a xs/\jl K H1 b ys/\R (Itz K a b) H1
def IT:bootBuiltins "zip"=some (.type "zip"):=by decide+kernel
theorem S3{b:Expr}{ta:TA}(hg:Gl X "zip")(hm:X.mg "zip"=none)(ha:PA X [o,b] ta)(hs:starEach [o,b] X.env=[(false,eval o X.env),(false,eval b X.env)]:=by rfl) (VO:starEach [b] X.env=[(false,eval b X.env)]:=by rfl):
  PI X (.Tuple az i b8) (.Call (.Name "zip" p) [o,b] [] pos) (aa6 X.K ta):=by
 intro U s Z H R I h;refine Call_ (vf I hg hm IT (w6 (eJ (ha pos U s Z H _ I h) λus s1 ⟨vs,H1,g,r1,l⟩=>?_) (by rw[hs,VO]) (by rw[VO];rfl)));obtain⟨c,d,xs,ys,e,n,hd,q⟩:=l;subst e;obtain⟨u,v,rfl,r,rv⟩:=vals2 r1;cases(show u=Value.ref c from r);cases(show v=Value.ref d from rv);obtain⟨L,Z4,p1,_⟩:=g.tuple n;obtain⟨M,Nb,p2,_⟩:=g.tuple hd;refine HJ (show s1.heap.IsTuple c L.toArray from p1) (show s1.heap.IsTuple d M.toArray from p2) λh' hz S IQ g1 g2 kk=>?_
 have I2:Inv X U Z H1 {s1 with heap:=h'}:=g.kept (t':=s1.toks) kk;refine wpAny_pyIter_zip hz ⟨s1.heap.objs.size+4,[s1.heap.objs.size+4,s1.heap.objs.size+2,s1.heap.objs.size+3,s1.heap.objs.size,s1.heap.objs.size+1],_,_,H1,rfl,I2,Li (S2 _),⟨hz,S,⟨_,_,IQ⟩,g1,g2⟩,λb m=>?_,q⟩;have hb:s1.heap.objs.size<=b:=by
  simp only[bI,cJ,cK]at m;rcases m with rfl|rfl|rfl|rfl|rfl
  ·exact mK _ 4
  ·exact mK _ 2
  ·exact mK _ 3
  ·exact bu _
  ·exact mK _ 1
 exact g.zr hb (g.cX.fresh hb)
noncomputable def QC(us ws:List Tr):List Tr:=List.zipWith (λa b=>.tup [a,b]) us ws
section
variable {a b:Expr}
def IU{b:Addr}{ws:List V}{us:List Tr}(h:jl K (cn B H) ar aq)(r:bP K (cn B H) aq ts)(h2:jl K (cn B H) b ws)(r2:bP K (cn B H) ws us)(hl:ts.length<=us.length):oM K B (Itz K ar b) H (QC ts us) where
 go:=λi B' H' hi s hb=>by
  have l:i<ts.length:=by unfold QC at hi;rw[List.length_zipWith]at hi;omega
  have n:i<aq.length:=by rw[r.length];exact l
  have hw:i<ws.length:=by rw[r2.length];omega
  exact⟨aq,ws,aq[i],ws[i],bj.tup bM (s.h.tup h),bj.tup bM (s.h.tup h2),by simp[n],by simp[hw]⟩
 HR:=λi B' H' x M9 hi s hb ⟨T,y,z,I,g,L,q,M⟩=>by
  subst I L;obtain⟨t,S,rt⟩:=r.ya (q aq (bj.tup bM (s.h.tup h)));obtain⟨u,eu,ru⟩:=r2.ya (M ws (bj.tup bM (s.h.tup h2)));refine⟨bj.upd g,.tup [t,u],by unfold QC;rw[List.getElem?_zipWith,S,eu],.tup (.of (hb.new g)) (.cons ((rt.same s).same (bK (bj.upd g))) (.cons ((ru.same s).same (bK (bj.upd g))) .nil))⟩
 stop:=λB' H' s=>⟨aq,bj.tup bM (s.h.tup h),by unfold QC;rw[List.length_zipWith,r.length];omega⟩
def zpW(l:Rs (List Tr)):Rs (List Tr):=l.bind λts=>match ts with
 |[.tup us,.tup ws]=>if us.length<=ws.length then .ok (QC us ws)else .bad
 |_=>.bad
theorem Xt(hm:X.mg "zip"=none)(ha:PA X [a,b] (CO X L))(hg:Gl X "zip":=by rfl) (hs:bC [a,b]=true:=by rfl):PI X (.Tuple az ay b8) (.Call (.Name "zip" p) [a,b] [] pos) (tI X λY=>zpW (L Y)):=
 (S3 hg hm ha (by rw[bL _ _ (bp hs).1,bL _ _ (bp (bp hs).2).1];rfl) (by rw[bL _ _ (bp (bp hs).2).1];rfl)).weak λZ H R ⟨B,Y,hb,r,q⟩=>⟨B,Y,hb,r,q.bind.mono λts g vs H1 s1 l=>by
  split at g
  ·obtain⟨x,y,e,h1,h2⟩:=zW l;obtain⟨_,_,rfl,h,rr⟩:=h1.dX;obtain⟨_,_,rfl,h',n⟩:=h2.dX;split at g
   ·rename_i I;exact⟨_,_,_,_,e,bj.tup bM h,bj.tup bM h',g _ H1 s1 (IU h rr h' n I)⟩
   ·exact g.elim
  ·exact g.elim⟩
def OC:Tr->Rs Tr
 |.str z=>.ok (.str z)
 |.int i=>if i.natAbs.log2<1920/\(Str.ofString (toString i)).length<=cZ then .ok (.str (Str.ofString (toString i)))else .bad
 |_=>.bad
theorem S4(h:PE X e (tP X F)):PE X (.FormattedValue e (-1) none pos) (tP X λY=>(F Y).bind OC):=by
 intro U s Z H Q I ⟨B,Y,hb,r,q⟩;refine FormattedValue_plain (eJ (h U s Z H (λx H1=>∃t,Rep X.K (cn B H1) x t/\bj H H1/\Fi X H (OC t) λt=>∀e H',bj H H'->Rep X.K (cn B H') e t->Q e H') I ⟨B,Y,hb,r,q.bind.mono λt n e H1 s1 r1=>⟨t,r1,s1,n⟩⟩) λu s1 ⟨x,H1,b,g,t,rt,l,k⟩=>?_);cases rt with
 |str z hz=>
  obtain⟨L,rfl⟩:=(show∃t,u=Value.str z t from g);exact formatField_str (λt' M=>⟨.str z,H1,b.tok _,⟨_,rfl⟩,k _ H1 l (.str z hz)⟩) (cC hz lP)
 |int i=>
  obtain⟨L,rfl⟩:=(show∃t,u=Value.int i t from g);obtain⟨⟨k1,k2⟩,k⟩:=iq k;exact formatField_int_small k1 ⟨.str _,H1,(b.tok _).tok _,⟨_,rfl⟩,k _ H1 l (.str _ k2)⟩
 |_=>exact fe k
def PJ(X:Cx)(az:List Expr)(J:bY->Str->Rs Tr):Prop:=∀(U:List (Addr×Obj)) (s:Shared) (Z:St) (H:Hp) (acc:Str) (Q:VK),Inv X U Z H s->tP X (λY=>J Y acc) Z H Q->wpAny (model X.prog X.w) X.A (joinParts acc (evalEach az X.env)) (EP X U Z Q) X.xe s
def Du(acc:Str):Rs Tr:=if acc.length<=cZ then .ok (.str acc)else .bad
theorem Xu:PJ X [] λ_ acc=>Du acc:=by
 intro U s Z H acc Q I ⟨B,Y,hb,r,q⟩;obtain⟨b,k⟩:=iq q;exact joinParts_nil ⟨.str acc,H,I.tok _,⟨_,rfl⟩,k _ H (bj.refl H) (.str acc b)⟩ (cC b lP)
def uI(r:Rs Tr)(J:Str->Rs Tr)(acc:Str):Rs Tr:=r.bind λt=>match t with
 |.str y=>if(acc++y).length<=cZ then J (acc++y)else .bad
 |_=>.bad
theorem S5{J:bY->Str->Rs Tr}(h:PE X e (tP X F))(hr:PJ X az J):PJ X (e::az) λY acc=>uI (F Y) (J Y) acc:=by
 intro U s Z H acc Q I ⟨B,Y,hb,r,q⟩;refine joinParts_cons (eJ (h U s Z H (λx H1=>∃y,x=.str y/\(acc++y).length<=cZ/\bj H H1/\Fi X H (J Y (acc++y)) λt=>∀v H',bj H H'->Rep X.K (cn B H') v t->Q v H') I ⟨B,Y,hb,r,q.bind.mono λt b v H1 s1 n=>?_⟩) λu s1 ⟨x,H1,L,M,y,ex,g,l,k⟩=>?_)
 ·cases n with
  |str y hy=>
   by_cases g:(acc++y).length<=cZ
   ·exact⟨y,rfl,g,s1,by have k:Fi X H (if(acc++y).length<=cZ then J Y (acc++y)else .bad) _:=b;rw[aX g]at k;exact k⟩
   ·have k:Fi X H (if(acc++y).length<=cZ then J Y (acc++y)else .bad) _:=b;rw[ba g]at k;exact fe k
  |_=>exact fe b
 ·subst ex;obtain⟨tk,rfl⟩:=(show∃t,u=Value.str y t from M);exact⟨cC g lP,hr U s1 Z H1 _ Q L ⟨B,Y,hb.same l,r.same l,(k.same l).mono λt b v H2 s2 S=>b v H2 (l.trans s2) S⟩⟩
theorem OD{J:bY->Str->Rs Tr}(h:PJ X (e::o::az) J):PE X (.JoinedStr (e::o::az) pos) (tP X λY=>J Y Str.empty):=λU s Z H Q I q=>JoinedStr_many (h U s Z H Str.empty Q I q)
def yD:List Tr->Rs (List String)
 |[]=>.ok []
 |.ty n::ts=>(yD ts).bind λns=>.ok (n::ns)
 |_::_=>.bad
theorem GW:∀{ts:List Tr} {ns:List String},yD ts=.ok ns->ts=ns.map Tr.ty
 |[],ns,h=>by cases h;rfl
 |t::ts,ns,h=>by
  cases t with
  |ty n=>
   cases e:yD ts with
   |ok ms=>
    rw[yD,e]at h;cases h;rw[GW e];rfl
   |_=>rw[yD,e]at h;cases h
  |_=>cases h
theorem Dv:∀{ts:List Tr} {c:Tr},yD ts≠ .exc c
 |[],c,h=>by cases h
 |t::ts,c,h=>by
  cases t with
  |ty n=>
   cases e:yD ts with
   |ok ms=>rw[yD,e]at h;cases h
   |exc b=>exact Dv e
   |bad=>rw[yD,e]at h;cases h
  |_=>cases h
theorem Dw{H:Vw}:∀{ns:List String} {vs:List V},bP K H vs (ns.map Tr.ty)->vs=ns.map V.ty
 |[],_,r=>by cases r;rfl
 |n::ns,_,r=>by
  cases r with
  |cons h r=>cases h;rw[Dw r];rfl
theorem GX(K:Frag)(a:String)(q:a∈["NoneType","bool","int","str","tuple","list","dict"]):∀(cs:List String),(∀c∈cs,c∈kinds)->PySem.W.kitAny K (.type a) (cs.map Value.type)=some (cs.any λc=>a==c||(a=="bool"&&c=="int"))
 |[],_=>rfl
 |c::cs,h=>by
  have b:=GX K a q cs λd m=>h d (cx _ m);have k1:=GG K a q c (h c (cB ..));rw[bB,PySem.W.kitAny,k1,b,jj];cases(a==c||(a=="bool"&&c=="int"))<;>rfl
def QH:List Tr->Rs Tr
 |[t,.tup cs]=>(yD cs).bind λns=>if yl t=true/\ns.all (λc=>kinds.contains c)=true then .ok (.bl (ns.any (ZU t)))else .bad
 |_=>.bad
def Xv{W:Vw}{H:Hp}{x:V}{t:Tr}(r:Rep K W x t)(f:yl t=true):yn t∈["NoneType","bool","int","str","tuple","list","dict"]/\P_ x=true/\uj K H x (.type (yn t)):=by
 cases r with
 |cu=>exact⟨.head _,rfl,.cu⟩
 |bl b=>exact⟨.tail _ (.head _),rfl,.bl b⟩
 |int i=>exact⟨.tail _ (.tail _ (.head _)),rfl,.int i⟩
 |str z _=>exact⟨.tail _ (.tail _ (.tail _ (.head _))),rfl,.str z⟩
 |_=>cases f
theorem S6:lQ X (.builtin "isinstance") QH:=by
 intro U s Z H xs us Q I b ⟨B,ts,hb,r,q⟩;unfold QH at q;split at q
 ·rename_i t cs;obtain⟨ay,M,rfl,h1,h2⟩:=zW r;obtain⟨a,vs,rfl,h,rr⟩:=h2.dX;cases e:yD cs with
  |exc c=>exact(Dv e).elim
  |bad=>rw[e]at q;exact fe q
  |ok ns=>
   rw[e]at q;have f:=iq q;have g:=GW e;subst g;have ev:=Dw rr;subst ev;have mem:∀c∈ns,c∈kinds:=λc m=>by
    have:=dD.mp f.1.2 c m;simpa using this
   obtain⟨l,n,tx⟩:=Xv (H:=H) h1 f.1.1;refine Ig U s Z H _ us Q I b ⟨_,_,ns,.type (yn t),_,rfl,n,h.up,tx,GX X.K _ l ns mem,?_⟩;have L:(ns.any λc=>yn t==c||(yn t=="bool"&&c=="int"))=ns.any (ZU t):=rfl;rw[L];exact f.2 _ H (bj.refl H) (.bl _)
 ·exact fe q
end
theorem yE:∀{xs:List V} {cw:List Value},xs.length=cw.length->(∀(i:Nat) (x:V) (u:Value),xs[i]?=some x->cw[i]?=some u->RelV x u)->Vals xs cw
 |[],[],_,_=>.nil
 |[],_::_,h,_=>by cases h
 |_::_,[],h,_=>by cases h
 |x::xs,u::us,h,k=>.cons (k 0 x u rfl rfl) (yE (by simpa using h) λi y w b g=>k (i+1) y w (by simpa using b) (by simpa using g))
def vy{k:Key}{v:Value}(h:mT k v=true):RelV (kV k) v:=by
 rcases dQ h with⟨j,t,b,g⟩|⟨y,t,b,g⟩
 ·rw[b,g];exact⟨t,rfl⟩
 ·rw[b,g];exact⟨t,rfl⟩
def IV{kvs:List (Key×V)}{vs:List (Key×Value)}(q:KV kvs vs)(hi:ItemsOf (λi v=>∃k x,vs[i]?=some (k,x)/\mT k v=true) ak vs.length):Vals (kvs.map λp=>kV p.1) ak.toList:=by
 refine yE (by have e:=hi.1;rw[bt,sA q,<-e,gy]) λi x u b l=>?_
 rw[nJ]at l;obtain⟨k,y,n,r⟩:=hi.2 i u l;rw[ck]at b;cases g:kvs[i]? with
 |none=>rw[g]at b;cases b
 |some p=>
  rw[g]at b;cases b;obtain⟨z,I⟩:=Bl q (k:=p.1) (v:=p.2) g;rw[I]at n;cases n;exact vy r
section
variable {prog:Program}{vs:List (Key×Value)}{ep:Nat}
theorem Bu{R:List Value->Shared->Prop}(hh:A.handled=none)(hd:(a==sysModules)=false)(hm:s.heap.DictAt (cp prog w) a vs ep)(hn:vs.length<=sizeLine)
  (h:∀(h':Heap) (tk:Nat) (acc:Array Value),ItemsOf (λi v=>∃k x,vs[i]?=some (k,x)/\mT k v=true) acc vs.length->(∀b o,s.heap.get? b=some o->h'.get? b=some o)->s.heap.objs.size<=h'.objs.size->R acc.toList {s with heap:=h',toks:=tk}):wpAny (model prog w) A (collect (.ref a)) R E s:=by
 have M:a<s.heap.objs.size:=hm.lt_size;unfold collect;refine aS (wpAny_runValue (f9 entry_proto_collect' ?_));rw[g0 Co _];show wpAny _ A.in1 (newList []>>=λl=>again (.builtin "list.__iadd__" ⟨[l,.ref a],[]⟩)) _ _ s;refine aS (kJ ?_);refine bg ⟨g9 sY _,f9 entry_list_iadd' ?_⟩;rw[g0 sY _];have S:(s.heap.push {cls:=.type "list",data:=.seq ([]:List Value).toArray}).get? s.heap.objs.size=some {cls:=.type "list",data:=.seq #[]}:=cy _ rfl;show wpAny _ A.in1 (Builtin.List.listExtendWith (.ref s.heap.objs.size) (.ref a) (.ref s.heap.objs.size)) _ _ _;have key:=PySem.W.kdl_extend (prog:=prog) (A:=A) (s:={s with heap:=s.heap.push {cls:=.type "list",data:=.seq ([]:List Value).toArray}})
  (R:=λ(q:Result) (s':Shared)=>∃(h':Heap) (tk:Nat) (g:Array Value) (r:Nat),q=.ok (.ret (.ref s.heap.objs.size))/\s'={s with heap:=h',toks:=tk}/\
   (∀b o,s.heap.get? b=some o->h'.get? b=some o)/\h'.get? s.heap.objs.size=some {cls:=.type "list",dict:=none,data:=.seq g r,slots:=#[]}/\ItemsOf (λi v=>∃k x,vs[i]?=some (k,x)/\mT k v=true) g vs.length)
  (PySem.W.kdl_dict (knd:=cp prog w) (kvs:=vs) (ep:=ep) hd) hh (hm.push _) s.heap.objs.size (dN M) (dN M) (.ref s.heap.objs.size) 0 S
  (λh' tk g r I n L=>⟨h',tk,g,r,rfl,rfl,λb o e=>I b o (cc (bA e)) (bS _ e),n,L⟩) hn
 refine d7 key (λfin s' x=>?_) λe s' x=>?_
 ·cases fin with
  |done f=>
   obtain⟨h',tk,g,r,e,rfl,I,n,L⟩:=x;cases e;show wpAny _ A (load s.heap.objs.size>>=_) _ _ _;refine aS (pK n ?_);exact bg (h h' tk g L I (dq (bA n)))
  |again c₁=>
   refine⟨x.1,iE x.2 λq ug y=>?_⟩;obtain⟨h',tk,g,r,rfl,rfl,I,n,L⟩:=y;show wpAny _ A (load s.heap.objs.size>>=_) _ _ _;refine aS (pK n ?_);exact bg (h h' tk g L I (dq (bA n)))
 ·obtain⟨_,_,_,_,e',_⟩:=x;cases e'
def Dx{ss:List Str}(hh:A.handled=none)(hd:(a==sysModules)=false)(hm:s.heap.DictAt (cp prog w) a vs ep)(hv:vs.map (·.1)=ss.map Sum.inr)(Fc:ss.length<64)
  (h:∀h' tk D out n Ck,(∀b o,s.heap.get? b=some o->h'.get? b=some o)->s.heap.objs.size<=D->h'.get? D=some {cls:=.type "list",data:=.seq out n}->StrsAre out.toList Ck->Ck.Perm ss->sortedS Ck=true->
   Q (.ref D) {s with heap:=h',toks:=tk}):wpAny (model prog w) A (call (.builtin "sorted") [.ref a]) Q E s:=by
 have M:vs.length=ss.length:=by have q:=dh List.length hv;rw[bt,bt]at q;exact q
 have hz:vs.length<=sizeLine:=by rw[dW];omega
 refine call_function_entry kind_sorted plain_sorted entry_sorted (args_sorted1 _) ?_
 unfold Builtin.«sorted»;refine aS (m:=checkCount "sorted" 1 1 _) (bg ?_);refine aS (Bu (A:=A.in1) hh hd hm hz λl tk acc hi hk hle=>?_);have r:StrsAre acc.toList ss:=by
  refine vx (yE (by have e:=hi.1;rw[bt,<-M,<-e,gy]) λi x u g S=>?_);rw[nJ]at S;obtain⟨k,y,e3,e4⟩:=hi.2 i u S;have I:(vs.map (·.1))[i]?=some k:=by rw[ck,e3];rfl
  rw[hv,ck]at I;rw[ck]at g;cases e6:ss[i]? with
  |none=>rw[e6]at g;cases g
  |some z=>rw[e6]at g I;cases g;cases I;exact vy e4
 have b9:acc.toList.length=ss.length:=by rw[gy,hi.1,M]
 refine aS (pI ?_ (by rw[b9,dW];omega));have L:(l.push (seqObj "list" acc.toList.toArray 0)).get? l.objs.size=some (seqObj "list" acc.toList.toArray 0):=cy _ rfl;refine aS (fK (g6 slot_list_sort ⟨_,L,rfl⟩ entry_list_sort
  (list_sort_treeK strKind_oneLt L r.keysOf (λaa3 aa4 c8 e=>keyKind_strs (by rw[<-e];exact r)) (by rw[b9];omega) λxN a1 a2=>⟨_,rfl,?_⟩) (args_list_sort _)))
 refine bg ⟨_,rfl,?_⟩;obtain⟨Ck,q1,q2,q3⟩:=sorted_out_str r a1 a2;obtain⟨e,he⟩:=sortedHeap_at (out:=(arrOf xN).map (·.2)) L;refine h _ tk l.objs.size ((arrOf xN).map (·.2)) e Ck (λb o q=>?_) hle he q1 q2 q3;have hb:=hk b o q;have hZ:=bA hb;rw[sortedHeap_old (cc hZ) (by rw[jw];exact lM hZ)];exact bS _ hb
end
section
theorem Ff(hc:X.calm=true):gP X (.type "list") (λxs H Q=>∃(a:Addr) (kvs:List (Key×V)),xs=[.ref a]/\Rd H a (.dK kvs)/\∀D,H D=none->Q (.ref D) (upd H D (.lst (kvs.map λp=>kV p.1)))):=by
 intro U s Z H xs us Q I r h;obtain⟨a,kvs,rfl,ha,q⟩:=h;obtain⟨u,rfl,b⟩:=vals1 r;cases(show u=Value.ref a from b);obtain⟨hz,hs,vs,rv,hm⟩:=(show cY X.prog X.w H s.heap a (.dK kvs)from ha.ok I.cX);obtain⟨ep,hm⟩:=hm.dictAt;have g:=sA rv;refine PySem.W.kdl_call (PySem.W.kdl_dict (knd:=cp X.prog X.w) (kvs:=vs) (ep:=ep) hs) (I.ok.hd hc) hm (by rw[<-g];exact hz) λh' l n L M S sD=>?_
 have hf:H s.heap.objs.size=none:=I.fresh;exact⟨.ref s.heap.objs.size,_,I.laid (t':=l) (o:=.lst (kvs.map λp=>kV p.1)) M (bu _) ⟨by rw[bt];exact hz,n.toList,L,IV rv sD,by rw[tm];exact S⟩,rfl,q _ hf⟩
theorem Bv(hc:X.calm=true):gP X (.builtin "sorted") (λxs H Q=>∃(a:Addr) (kvs:List (Key×V)) (ss:List Str),xs=[.ref a]/\Rd H a (.dK kvs)/\kvs.map (·.1)=ss.map Sum.inr/\ss.length<64/\∀D,H D=none->Q (.ref D) (upd H D (.lst ((c_ ss).map V.str)))):=by
 intro U s Z H xs us Q I r h;obtain⟨a,kvs,ss,rfl,ha,b,l,q⟩:=h;obtain⟨u,rfl,L⟩:=vals1 r;cases(show u=Value.ref a from L);obtain⟨hz,hs,vs,rv,hm⟩:=(show cY X.prog X.w H s.heap a (.dK kvs)from ha.ok I.cX);obtain⟨ep,hm⟩:=hm.dictAt;have M:vs.map (·.1)=ss.map Sum.inr:=by
  rw[<-b];refine pj λi=>?_
  rw[ck,ck];cases e:kvs[i]? with
  |none=>
   have S:vs[i]?=none:=jg.mpr (by rw[<-sA rv];exact jg.mp e)
   rw[S];rfl
  |some p=>
   obtain⟨z,e6⟩:=Bl rv (k:=p.1) (v:=p.2) e;rw[e6];rfl
 refine Dx (I.ok.hd hc) hs hm M l λh' tk D out n Ck b g hg cH hp hs=>?_
 have e:=uH hp hs;subst e;have hf:H D=none:=I.cX.fresh g;have hz:((c_ ss).map V.str).length<=sizeLine:=by
  rw[bt,(eL ss).length_eq,dW];omega
 exact⟨.ref D,_,I.laid (t':=tk) (o:=.lst ((c_ ss).map V.str)) b g ⟨hz,out.toList,n,qT cH,by rw[tm];exact hg⟩,rfl,q _ hf⟩
noncomputable def oP:List Tr->Option (List Str)
 |[]=>some []
 |.str z::ts=>(oP ts).map λr=>z::r
 |_=>none
theorem vz{W:Vw}:∀{vs:List V} {ts:List Tr} {ss:List Str},bP K W vs ts->oP ts=some ss->vs=ss.map V.str/\∀z∈ss,z.length<=cZ
 |[],[],ss,_,e=>by cases e;exact⟨rfl,λz h=>by cases h⟩
 |[],_::_,_,h,_=>by cases h
 |v::vs,ts,ss,h,e=>by
  cases h with
  |cons h r=>
   cases h with
   |str z hz=>
    rename_i ts;have b:(oP ts).map (λr=>z::r)=some ss:=e;cases q:oP ts with
    |none=>rw[q]at b;cases b
    |some rs=>
     rw[q]at b;cases b;obtain⟨l,h2⟩:=vz r q;exact⟨by rw[l];rfl,λy g=>by
      rcases bI.mp g with rfl|g
      ·exact hz
      ·exact h2 y g⟩
   |_=>cases e
def v5:List (Key×Tr)->Option (List Str)
 |[]=>some []
 |(.inr z,_)::ts=>if z.length<=cZ then(v5 ts).map λr=>z::r else none
 |_=>none
theorem Dy:∀{bE:List (Key×Tr)} {ss:List Str},v5 bE=some ss->bE.map (·.1)=ss.map Sum.inr/\∀z∈ss,z.length<=cZ
 |[],ss,e=>by cases e;exact⟨rfl,λz h=>by cases h⟩
 |(.inl _,_)::_,_,e=>by cases e
 |(.inr z,t)::ts,ss,e=>by
  have b:(if z.length<=cZ then(v5 ts).map λr=>z::r else none)=some ss:=e;by_cases hz:z.length<=cZ
  ·rw[aX hz]at b;cases q:v5 ts with
   |none=>rw[q]at b;cases b
   |some rs=>
    rw[q]at b;cases b;obtain⟨h1,h2⟩:=Dy q;exact⟨by rw[bB,bB,h1],λy g=>by
     rcases bI.mp g with rfl|g
     ·exact hz
     ·exact h2 y g⟩
  ·rw[ba hz]at b;cases b
def Al(o:Option (List Str)):Rs Tr:=match o with
 |some ss=>if ss.length<64 then .ok (.lst ((c_ ss).map .str))else .bad
 |none=>.bad
def nU:List Tr->Rs Tr
 |[.lst ts]=>Al (oP ts)
 |[.bU bE]=>Al (v5 bE)
 |_=>.bad
def yF{W:Vw}(h:∀z∈ps,z.length<=cZ):bP K W ((c_ ps).map V.str) ((c_ ps).map Tr.str):=zV λz hz=>h z ((eL ps).mem_iff.mp hz)
def Am{o:Option (List Str)}(q:Fi X H (Al o) aA):∃ss,o=some ss/\ss.length<64/\aA (.lst ((c_ ss).map .str)):=by
 unfold Al at q;split at q
 ·have f:=iq q;exact⟨_,rfl,f.1,f.2⟩
 ·exact q.elim
theorem jF(hc:X.calm=true):lQ X (.builtin "sorted") nU:=by
 intro U s Z H xs us Q I n ⟨B,ts,hb,r,q⟩;unfold nU at q;split at q
 ·obtain⟨x,rfl,b⟩:=gm r;obtain⟨a,vs,rfl,h,rr⟩:=b.lst_inv;obtain⟨ss,g,l,k⟩:=Am q;obtain⟨rfl,hs⟩:=vz rr g;exact Br U s Z H _ us Q I n ⟨_,ss,rfl,.of (d8 h),l,λp hp=>k _ _ (bj.upd hp) (.Bf hb hp (yF hs))⟩
 ·obtain⟨x,rfl,b⟩:=gm r;obtain⟨a,kvs,rfl,h,L,rr⟩:=b.nO;obtain⟨ss,g,l,k⟩:=Am q;obtain⟨M,hs⟩:=Dy g;exact Bv hc U s Z H _ us Q I n ⟨_,_,ss,rfl,h.same bM,L.trans M,l,λp hp=>k _ _ (bj.upd hp) (.Bf hb hp (yF hs))⟩
 ·exact q.elim
def Fg:List Tr->Rs Tr
 |[.bU bE]=>(Dh bE).bind λts=>.ok (.lst ts)
 |_=>.bad
theorem Dz{W:Vw}:∀{kvs:List (Key×V)} {bE:List (Key×Tr)},kvs.map (·.1)=bE.map (·.1)->bE.all (λp=>keyOk p.1)=true->bP K W (kvs.map λp=>kV p.1) (bE.map λp=>Ag p.1)
 |[],[],_,_=>.nil
 |[],_::_,e,_=>by cases e
 |_::_,[],e,_=>by cases e
 |(k1,v)::kvs,(k2,t)::bE,e,h=>by
  rw[bB,bB]at e;injection e with b g
  have l:k1=k2:=b;subst l;rw[iD,bW]at h;exact .cons (Ah h.1) (Dz g h.2)
theorem OE(hc:X.calm=true):lQ X (.type "list") Fg:=by
 intro U s Z H xs us Q I b ⟨B,ts,hb,r,q⟩;unfold Fg at q;split at q
 ·obtain⟨x,rfl,g⟩:=gm r;obtain⟨a,kvs,rfl,h,l,rr⟩:=g.nO;have f:=iq (Fi.bind q);exact Ff hc U s Z H _ us Q I b ⟨_,_,rfl,h.same bM,λp hp=>f.2 _ _ (bj.upd hp) (.Bf hb hp (Dz l f.1))⟩
 ·exact q.elim
def qa:Tr->Rs Tr
 |.lst ts=>match oP ts with
  |some ss=>if ss.length<64 then .ok (.lst ((c_ (eW [] ss)).map .str))else .bad
  |none=>.bad
 |_=>.bad
variable {l:Expr}{p1 p2 Xw Xx:Pos}
end
def wz(ts:List Tr)(x:Tr):Rs Tr:=if sj x=true/\ts.all yl=true then(match ts.findIdx? (λy=>eqT y x)with|some j=>.ok (.int j)|none=>.bad)else .bad
def OF(ts:List Tr)(x:Tr):Rs Tr:=if sj x=true/\ts.all yl=true then .ok (.int (ts.countP λy=>eqT y x:Nat))else .bad
theorem GY{W:Vw}{x:Tr}:∀{vs:List V} {ts:List Tr} {us:List Value},bP K W vs ts->ts.all yl=true->Vals vs us->us.map (eU x)=ts.map λy=>eqT y x
 |[],_,_,r,_,rv=>by cases r;cases rv;rfl
 |_::_,_,_,r,f,rv=>by
  cases r with
  |cons h r=>
   cases rv with
   |cons b rv=>
    rw[iD,bW]at f;rw[bB,bB,EZ h f.1 b,GY r f.2 rv]
theorem GZ{x:Tr}{j:Nat}(e:am.map (eU x)=ts.map λy=>eqT y x)(h:ts.findIdx? (λy=>eqT y x)=some j):∃hj:j<am.length,eU x am[j]=true/\∀m (hm:m<am.length),m<j->eU x am[m]=false:=by
 obtain⟨hj,h1,h2⟩:=Cn.mp h;have b:am.length=ts.length:=by have q:=dh List.length e;rw[bt,bt]at q;exact q
 have at_:∀(i:Nat) (h1:i<am.length) (h2:i<ts.length),eU x am[i]=eqT ts[i] x:=λi h1 h2=>by
  have q:=dh (λl:List Bool=>l[i]?) e;simp only[ck,b_ h1,b_ h2]at q;exact Option.some.inj q
 refine⟨by rw[b];exact hj,by rw[at_ j _ hj];exact h1,λm hm g=>?_⟩;rw[at_ m hm (by rw[<-b];exact hm)];have q:=h2 m g;cases z:eqT ts[m] x with
 |false=>rfl
 |true=>exact absurd z q
def DA{x:Tr}(q:Fi X H (wz ts x) aA):sj x=true/\ts.all yl=true/\∃j:Nat,ts.findIdx? (λy=>eqT y x)=some j/\aA (.int j):=by
 unfold wz at q;by_cases z:sj x=true/\ts.all yl=true
 ·rw[aX z]at q;cases e:ts.findIdx? (λy=>eqT y x)with
  |none=>rw[e]at q;exact fe q
  |some j=>rw[e]at q;exact⟨z.1,z.2,j,rfl,q⟩
 ·rw[ba z]at q;exact fe q
def Ll{x:Tr}(q:Fi X H (OF ts x) aA):sj x=true/\ts.all yl=true/\aA (.int (ts.countP λy=>eqT y x:Nat)):=by
 unfold OF at q;by_cases z:sj x=true/\ts.all yl=true
 ·rw[aX z]at q;exact⟨z.1,z.2,q⟩
 ·rw[ba z]at q;exact fe q
theorem count_at{x:Tr}(e:am.map (eU x)=ts.map λy=>eqT y x):am.countP (eU x)=ts.countP λy=>eqT y x:=by
 have a:am.countP (eU x)=(am.map (eU x)).countP id:=by rw[List.countP_map];rfl
 have b:(ts.countP λy=>eqT y x)=(ts.map λy=>eqT y x).countP id:=by rw[List.countP_map];rfl
 rw[a,b,e]
section
def S7{W:Vw}{v:V}{rJ:Addr->Option Nat}{Q:VK}(hu:X.A.units+1<cLine)(I:Inv X U Z H s)(h:jl X.K H a aq)(r:bP X.K (⟨H,rJ⟩:Vw) aq ts)(rx:Rep X.K (⟨H,rJ⟩:Vw) v aB)(ru:RelV v af)(q:Fi X H (wz ts aB) aA)(hk:∀j:Nat,aA (.int j)->Q (.int j) H):
  wpAny (model X.prog X.w) X.A (call (.builtin "tuple.index") [.ref a,af]) (EP X U Z Q) X.xe s:=by
 obtain⟨p1,p2,j,e,q⟩:=DA q;obtain⟨cw,rv,pl,hz⟩:=I.tuple h
 ·obtain⟨l,h1,h2⟩:=GZ (GY r p2 rv) e;obtain⟨⟨cls,dd,data,sl⟩,b,g,n,hd⟩:=(show s.heap.IsTuple a cw.toArray from pl);simp only at g hd;subst g hd;refine kO xa ⟨_,b,rfl⟩ PySem.F.entry_tuple_index (PySem.F.args_tuple_index_2 _ _) (SeqAt.zp a cw.toArray n dd sl af (eU aB) j (by simpa using l) (by simpa using h1) λm hm L=>by simpa using h2 m (by simpa using hm) L) ⟨b,λy M=>pY I (A:=X.A.in1) hu rx p1 ru r p2 rv y (by simpa using M),?_⟩;exact⟨.int j,H,I.tok _,⟨_,rfl⟩,hk j q⟩
theorem S8{v:V}{rJ:Addr->Option Nat}{Q:VK}(hu:X.A.units+1<cLine)(I:Inv X U Z H s)(h:l0 X.K H a aq)(r:bP X.K (⟨H,rJ⟩:Vw) aq ts)(rx:Rep X.K (⟨H,rJ⟩:Vw) v aB)(ru:RelV v af)(q:Fi X H (wz ts aB) aA)(hk:∀j:Nat,aA (.int j)->Q (.int j) H):
  wpAny (model X.prog X.w) X.A (call (.builtin "list.index") [.ref a,af]) (EP X U Z Q) X.xe s:=by
 obtain⟨p1,p2,j,e,q⟩:=DA q;obtain⟨cw,rv,pl,hz⟩:=I.list h
 ·obtain⟨l,h1,h2⟩:=GZ (GY r p2 rv) e;have hs:(j:Int)<2 ^63 - 1:=by
   have:=rv.length;rw[dW]at hz;omega
  obtain⟨⟨cls,dd,data,sl⟩,n,b,g,L,hd⟩:=id pl;simp only at g hd L;have M:=hd;subst g;subst M;refine kO PySem.F.slot_list_index ⟨_,b,rfl⟩ PySem.F.entry_list_index (PySem.F.args_list_index_2 _ _) (SeqAt.list_indexAt a cw.toArray n dd sl af (eU aB) j (by simpa using l) hs (by simpa using h1) λm hm S=>by simpa using h2 m (by simpa using hm) S) ⟨b,λy hy=>pY I (A:=X.A.in1) hu rx p1 ru r p2 rv y (by simpa using hy),?_⟩;exact⟨.int j,H,I.tok _,⟨_,rfl⟩,hk j q⟩
theorem S9{v:V}{rJ:Addr->Option Nat}{Q:VK}(hu:X.A.units+1<cLine)(I:Inv X U Z H s)(h:l0 X.K H a aq)(r:bP X.K (⟨H,rJ⟩:Vw) aq ts)(rx:Rep X.K (⟨H,rJ⟩:Vw) v aB)(ru:RelV v af)(q:Fi X H (OF ts aB) aA)(hk:∀j:Nat,aA (.int j)->Q (.int j) H):
  wpAny (model X.prog X.w) X.A (call (.builtin "list.count") [.ref a,af]) (EP X U Z Q) X.xe s:=by
 obtain⟨p1,p2,q⟩:=Ll q;obtain⟨cw,rv,pl,hz⟩:=I.list h;rw[<-count_at (GY r p2 rv)]at q;obtain⟨⟨cls,dd,data,sl⟩,n,b,g,l,hd⟩:=id pl;simp only at g hd l;have L:=hd;subst g;subst L;refine kO PySem.F.slot_list_count ⟨_,b,rfl⟩ PySem.F.entry_list_count (PySem.F.args_list_count_2 _ _) (SeqAt.list_countAt a cw.toArray n dd sl af (eU aB)) ⟨b,λy M=>pY I (A:=X.A.in1) hu rx p1 ru r p2 rv y (by simpa using M),?_⟩;exact⟨.int (cw.countP (eU aB):Nat),H,I.tok _,⟨_,rfl⟩,hk _ q⟩
variable {es:List Expr}{abY dH:Pos}
def lmR(h:List Tr->Tr->Rs Tr)(r:Rs Tr)(a:Rs Tr):Rs Tr:=r.bind λt=>match t with
 |.lst ts=>a.bind λx=>h ts x
 |_=>.bad
inductive XC(X:Cx)(h:List Tr->Tr->Rs Tr)(x:V)(xs:List V)(H:Hp)(Q:VK):Prop
 |mk (B:fy) (ts:List Tr) (y:V) (ty:Tr):HB B H->Rep X.K (cn B H) x (.lst ts)->xs=[y]->Rep X.K (cn B H) y ty->(Fi X H (h ts ty) fun t=>∀v H',bj H H'->Rep X.K (cn B H') v t->Q v H')->XC X h x xs H Q
theorem S_(hu:X.A.units+1<cLine):RD X "list.index" (XC X wz):=by
 intro U s Z H x xs v us Q I b g ⟨B,ts,y,ty,hb,r,e,l,q⟩;subst e;obtain⟨u,rfl,n⟩:=vals1 g;cases r with
 |lst h L=>
  cases b;exact S8 (rJ:=B.ix) hu I (.of (d8 h)) (L.same fL) (l.same fL) n q λj z=>z _ H (bj.refl H) (.int _)
theorem Ta(hu:X.A.units+1<cLine):RD X "list.count" (XC X OF):=by
 intro U s Z H x xs v us Q I b g ⟨B,ts,y,ty,hb,r,e,l,q⟩;subst e;obtain⟨u,rfl,n⟩:=vals1 g;cases r with
 |lst h L=>
  cases b;exact S9 (rJ:=B.ix) hu I (.of (d8 h)) (L.same fL) (l.same fL) n q λj z=>z _ H (bj.refl H) (.int _)
theorem aa7{h:List Tr->Tr->Rs Tr}(slot:Slot "list" au ax)(NF:typeOf (.builtin ax)=pure (.type "method_descriptor"))(hm:RD X ax (XC X h))(ho:PE X o (tP X F))(he:PE X e (tP X G))(pa:PlainAttrs "list":=by exact sX)
  (pQ:isCall o=false:=by rfl) (cH:bC [e]=true:=by rfl) (gi:(b8.endLine==dH.line)=true:=by rfl):
  PE X (.Call (.Attribute o au b8) [e] [] dH) (tP X λY=>lmR h (F Y) (G Y)):=
 (Gd pa slot NF hm ho (Bc he Gq (bp cH).1) (gE pQ) (by rw[jB cH];rfl) gi (bL _ _ (bp cH).1) (cS (bp cH).2)).weak λZ H Q ⟨B,Y,hb,r,q⟩=>⟨B,Y,hb,r,q.bind.mono λt g v H1 s1 I=>by
  split at g
  ·rename_i ts;obtain⟨a,vs,rfl,l,rr⟩:=I.lst_inv;refine⟨.inl ⟨rfl,vs,.of (d8 l)⟩,B,Y,hb.same s1,r.same s1,?_⟩;have b:=(Fi.bind g).same s1;refine Fi.mono (r:=yh (G Y) (.ok [])) (k:=λzs=>∃x,zs=[x]/\Fi X H (h ts x) λt=>∀v H',bj H H'->Rep X.K (cn B H') v t->Q v H') ?_ λzs ⟨x,L,M⟩ ws H2 s2 S=>?_
   ·cases n:G Y with
    |ok x=>rw[n]at b;exact⟨x,rfl,b⟩
    |_=>rw[n]at b;exact b
   ·subst L;obtain⟨y,rfl,ry⟩:=gm S;exact⟨B,ts,_,x,hb.same (s1.trans s2),.lst ((bK s2).h _ _ l) (rr.same (bK s2)),rfl,ry,(M.same (s1.trans s2)).mono λt k v H3 s3 r3=>k v H3 ((s1.trans s2).trans s3) r3⟩
  ·exact g.elim⟩
end
structure Lm(K:Frag)(mg:Str->Option Value)(x:Str)(ts:List Tr):Prop where
 g:Wf K mg x (.tup ts)
 nd:∃a o,mg x=some (.ref a)/\K.lookup a=some o/\o.cls=.type "tuple"/\o.dict=none
section
variable {es:List Expr}{dH:Pos}
inductive rTI(X:Cx)(x:V)(xs:List V)(H:Hp)(Q:VK):Prop
 |mk (B:fy) (ts:List Tr) (y:V) (ty:Tr):HB B H->Rep X.K (cn B H) x (.tup ts)->xs=[y]->Rep X.K (cn B H) y ty->(Fi X H (wz ts ty) fun t=>∀v H',bj H H'->Rep X.K (cn B H') v t->Q v H')->rTI X x xs H Q
theorem Ln(hu:X.A.units+1<cLine):RD X "tuple.index" (rTI X):=by
 intro U s Z H x xs v us Q I b g ⟨B,ts,y,ty,hb,r,e,l,q⟩;subst e;obtain⟨u,rfl,n⟩:=vals1 g;cases r with
 |tup h L=>
  cases b;exact S7 (W:=cn B H) (rJ:=B.ix) hu I (bj.tup bM h) (L.same fL) (l.same fL) n q λj z=>z _ H (bj.refl H) (.int _)
def XD{B:fy}{Y:bY}(s1:bj H ac)(q:Fi X H (G Y) aA):Fi X ac (yh (G Y) (.ok [])) λzs=>∃x,zs=[x]/\aA x:=by
 have b:=Fi.same q s1;cases g:G Y with
 |ok x=>rw[g]at b;exact⟨x,rfl,b⟩
 |_=>rw[g]at b;exact b
theorem XF(hu:X.A.units+1<cLine)(g:Lm X.K X.mg x ts)(he:PE X e (tP X G))(hg:Gl X x:=by rfl) (hd:Db x:=by decide) (cH:bC [e]=true:=by rfl) (gi:(b8.endLine==dH.line)=true:=by rfl):
  PE X (.Call (.Attribute (.Name x p) "index" b8) [e] [] dH) (tP X λY=>(G Y).bind (wz ts)):=by
 obtain⟨⟨v,u,hm,r,l⟩,a,ob,b,n,I,hn⟩:=g;rw[hm]at b;cases b;obtain⟨a',_,rfl,_⟩:=(l ⟨λ_=>none,λ_=>none⟩).dX;cases r;refine(Gd PySem.F.plainAttrs_tuple xa PySem.F.type_tuple_index (Ln hu) (AW (v:=.ref a) hg hm rfl hd) (Bc he Gq (bp cH).1) (gE rfl) (by rw[jB cH];rfl) gi (bL _ _ (bp cH).1) (cS (bp cH).2)).weak λZ H Q ⟨B,Y,hb,r,q⟩=>?_
 refine⟨.inr (.inl ⟨rfl,ob,n,I,hn⟩),B,Y,hb,r,(XD (B:=B) (bj.refl H) (Fi.bind q)).mono λzs ⟨x,L,M⟩ ws H2 s2 S=>?_⟩;subst L;obtain⟨y,rfl,ry⟩:=gm S;exact⟨B,ts,_,x,hb.same s2,l _,rfl,ry,(Fi.same M s2).mono λt k v H3 s3 r3=>k v H3 (s2.trans s3) r3⟩
theorem XG{x1}(hu:X.A.units+1<cLine)(ht:PA X es (CO X L))(he:PE X e (tP X G))(cH:bC [e]=true:=by rfl) (gi:(b8.endLine==dH.line)=true:=by rfl):
  PE X (.Call (.Attribute (.Tuple es x1 pos) "index" b8) [e] [] dH) (tP X λY=>(L Y).bind λts=>if ts.length<=dU then(G Y).bind (wz ts)else .bad):=by
 intro U s Z H Q I ⟨B,Y,hb,r,q⟩;refine wpAny_Call_method_late (gE rfl) (by rw[jB cH];rfl) gi rfl (wpAny_Tuple_spliced (eJ (ht pos U s Z H _ I ⟨B,Y,hb,r,q.bind.mono λts g vs H1 s1 r1=>(⟨ts,g,s1,r1⟩:∃ts,Fi X H (if ts.length<=dU then(G Y).bind (wz ts)else .bad) _/\bj H H1/\bP X.K (cn B H1) vs ts)⟩) λus s1 ⟨xs,H1,S,rv,ts,g,sm,r1⟩=>?_));by_cases hz:ts.length<=dU
 ·rw[aX hz]at g;have Z1:us.length<=sizeLine:=by rw[<-rv.length,r1.length,<-jO];exact hz
  refine⟨Z1,?_⟩;have hf:H1 s1.heap.objs.size=none:=S.cX.fresh (bu _);have l:=cy s1.heap (o:={cls:=.type "tuple",data:=.seq us.toArray}) rfl;have I2:Inv X U Z (upd H1 s1.heap.objs.size (.tup xs)) {s1 with heap:=s1.heap.push {cls:=.type "tuple",data:=.seq us.toArray}}:=S.laid (t':=s1.toks) (λb u e=>bS _ e) (bu _) ⟨by rw[rv.length];exact Z1,us,rv,⟨_,l,rfl,_,rfl⟩⟩;have s2:bj H (upd H1 s1.heap.objs.size (.tup xs)):=sm.trans (bj.upd hf);have rt:Rep X.K (cn B (upd H1 s1.heap.objs.size (.tup xs))) (.ref s1.heap.objs.size) (.tup ts):=.tup (.inl (.inl ((hb.same sm).new hf))) (r1.same (bK (bj.upd hf)));refine⟨"tuple","tuple.index",PySem.F.plainAttrs_tuple,xa,PySem.F.type_tuple_index,⟨_,l,rfl⟩,λa ea=>by cases ea;exact⟨_,l,rfl⟩,?_⟩;have hA:=(Bc he Gq (bp cH).1) dH U _ Z _ (λvs H3=>rTI X (.ref s1.heap.objs.size) vs H3 Q) I2 ⟨B,Y,hb.same s2,r.same s2,(XD (B:=B) s2 (Fi.bind g)).mono λzs ⟨x,ez,qx⟩ ws H3 s3 r3=>by
   subst ez;obtain⟨y,rfl,ry⟩:=gm r3;exact⟨B,ts,_,x,hb.same (s2.trans s3),rt.same (bK s3),rfl,ry,(Fi.same qx (s2.trans s3)).mono λt k v n s4 M=>k v n ((s2.trans s3).trans s4) M⟩⟩
  rw[bL _ _ (bp cH).1]at hA⊢;refine nF (by show(false||(backTo dH (starEach [] X.env)).any (·.1))=false;rw[cS (es:=[]) rfl];rfl) (nK ?_);exact eJ hA λus s4 ⟨vs,n,I4,M,q4⟩=>Ln hu U s4 Z n (.ref s1.heap.objs.size) vs _ us Q I4 rfl M q4
 ·rw[ba hz]at g;exact fe g
noncomputable def XH:List Tr->Rs Tr
 |[.int i]=>.ok (.int i)
 |[.bl b]=>.ok (.int (if b then 1 else 0))
 |_=>.bad
theorem XI:lQ X (.type "int") XH:=by
 intro U s Z H xs us Q I b ⟨B,ts,hb,r,q⟩;unfold XH at q;split at q
 ·obtain⟨x,e,r⟩:=gm r;exact zM U s Z H _ us Q I b (.inl ⟨_,by rw[e,r.int_inv],q _ H (bj.refl H) (.int _)⟩)
 ·obtain⟨x,e,r⟩:=gm r;exact zM U s Z H _ us Q I b (.inr ⟨_,by rw[e,r.yf],q _ H (bj.refl H) (.int _)⟩)
 ·exact q.elim
variable {c m:Str}{st:Stmt}{f:Addr}{fd:FuncData}{k:Nat}
end
structure MethAt(K:Frag)(c m:Str)(st:Stmt)(ps:List Str)(f:Addr)(fd:FuncData):Prop where
 fn:∃qual,zm K m qual st f fd
 bd:Binds K fd ps []
 mt:Meth K (clsAt K c) m f
 cl:EC K (clsAt K c)
def Ep(fs:List (Str×Tr))(m:Str):Bool:=(fs.lookup m).isNone
theorem nV{W:Vw}(f:Str):∀{il:List (Str×V)} {fs:List (Str×Tr)},il.map (·.1)=fs.map (·.1)->bP K W (il.map (·.2)) (fs.map (·.2))->(fs.lookup f=none/\il.lookup f=none)\/∃t v,fs.lookup f=some t/\il.lookup f=some v/\Rep K W v t
 |[],[],_,_=>.inl ⟨rfl,rfl⟩
 |[],_::_,e,_=>by cases e
 |_::_,[],e,_=>by cases e
 |(k1,v1)::il,(k2,b)::fs,e,r=>by
  rw[bB,bB]at e;injection e with g l
  have n:k1=k2:=g;subst n;cases r with
  |cons I r=>
   by_cases z:f=k1
   ·subst z;exact .inr ⟨b,v1,by rw[cP,bR],by rw[cP,bR],I⟩
   ·rw[cP,kc z,cP,kc z];exact nV f l r
section
variable {dH:Pos}{m:Str}{fd:FuncData}{k:Nat}
def v7(au m:Str)(h:List Tr->Rs Tr)(r:Rs Tr)(l:Rs (List Tr)):Rs Tr:=r.bind λt=>match t with
 |.ob x fs=>if x=au/\Ep fs m=true then l.bind λts=>h (.ob x fs::ts)else .bad
 |_=>.bad
def Bw{W:Vw}{il:List (Str×V)}(e:il.map (·.1)=bE.map (·.1))(r:bP K W (il.map (·.2)) (bE.map (·.2)))(hm:Ep bE m=true):il.lookup m=none:=by
 rcases nV m e r with⟨_,z⟩|⟨t,v,z,_⟩
 ·exact z
 ·unfold Ep at hm;rw[z]at hm;cases hm
theorem Tb(D:MethAt X.K au m ai ps ar fd)(G:eC X.prog X.w X.K X.mg X.base mv k ar fd ps (spT X.K h))(hr:di k X.A)(ho:PE X o (tP X F))(ha:PA X (e::az) (CO X L)){pl:Sem Bool}(cH:bC (e::az)=true:=by rfl)
  (ht:eval (.Call (.Attribute o m b8) (e::az) [] pos) X.env=uc pos b8 o m (e::az) X.env pl:=by rfl):PE X (.Call (.Attribute o m b8) (e::az) [] pos) (tP X λY=>v7 au m h (F Y) (L Y)):=
 (Ga (pl:=pl) ho D.cl D.mt G hr D.bd .nil Kp ha (cH:=bL _ _ (bp cH).1) (oX:=cS (bp cH).2) ht).weak λZ H Q ⟨B,Y,hb,r,q⟩=>⟨B,Y,hb,r,q.bind.mono λt g v H1 s1 I=>by
  split at g
  ·rename_i x fs;obtain⟨a,dx,il,rfl,l,n,rr⟩:=I.Ba;split at g
   ·rename_i z;obtain⟨rfl,hm⟩:=z;refine⟨a,dx,il,rfl,d8 l,Bw n rr hm,B,Y,hb.same s1,r.same s1,(Fi.same (Fi.bind g) s1).mono λts b vs H2 s2 M=>?_⟩;cases e:h (.ob x fs::ts)with
    |ok t=>
     rw[e]at b;exact⟨B,.ob x fs::ts,hb.same (s1.trans s2),by
      show bP X.K (cn B H2) (V.ref a::(vs++[])) (.ob x fs::ts);rw[j9];exact .cons ((Rep.ob l n rr).same (bK s2)) M,t,e,λv S s3 r3=>b v S ((s1.trans s2).trans s3) r3⟩
    |exc au=>rw[e]at b;exact(b _ (bj.refl _)).elim
    |bad=>rw[e]at b;exact fe b
   ·exact g.elim
  ·exact g.elim⟩
theorem OG(D:MethAt X.K au m ai ps ar fd)(G:eC X.prog X.w X.K X.mg X.base mv k ar fd ps (spT X.K h))(hr:di k X.A)(ho:PE X o (tP X F)){pl:Sem Bool}
  (ht:eval (.Call (.Attribute o m b8) [] [] pos) X.env=uc pos b8 o m [] X.env pl:=by rfl):PE X (.Call (.Attribute o m b8) [] [] pos) (tP X λY=>v7 au m h (F Y) (.ok [])):=
 (CA (pl:=pl) ho D.cl D.mt G hr D.bd .nil Kp ht).weak λZ H Q ⟨B,Y,hb,r,q⟩=>⟨B,Y,hb,r,q.bind.mono λt g v H1 s1 I=>by
  split at g
  ·rename_i x fs;obtain⟨a,dx,il,rfl,l,n,rr⟩:=I.Ba;split at g
   ·rename_i z;have b:Fi X H (h [.ob x fs]) _:=g;obtain⟨rfl,hm⟩:=z;refine⟨a,dx,il,rfl,d8 l,Bw n rr hm,?_⟩;cases e:h [.ob x fs]with
    |ok t=>
     rw[e]at b;exact⟨B,[.ob x fs],hb.same s1,.cons (.ob l n rr) .nil,t,e,λv L s3 M=>b v L (s1.trans s3) M⟩
    |exc au=>rw[e]at b;exact(b _ (bj.refl _)).elim
    |bad=>rw[e]at b;exact fe b
   ·exact g.elim
  ·exact g.elim⟩
end
def xcZ(K:Frag)(B:fy)(H:Hp)(E:XK):Tr->Ab->Prop:=λc A=>∀B' H',Grows B H B' H'->HA K B' A H'->E (WR K c) none H'
inductive v8(K:Frag)(f:List Tr->Ab->Rz Tr)(vs:List V)(H:Hp)(Q:VK)(E:XK):Prop
 |mk (B:fy) (A:Ab) (ts:List Tr):HA K B A H->bP K (cn B H) vs ts->(iC (xcZ K B H E) (f ts A) fun t A'=>∀v B' H',Grows B H B' H'->HA K B' A' H'->Rep K (cn B' H') v t->Q v H')->v8 K f vs H Q E
theorem eC.toZ {base:Heap}{k:Nat}{f:Addr}{fd:FuncData}(F:eC P w K mg base mv k f fd ps (spT K h)):eC P w K mg base (vo P w) k f fd ps (v8 K λts A=>gY (h ts) A):=by
 have key:∀{vs:List V} {H:Hp} {Q:VK} {E:XK},v8 K (λts A=>gY (h ts) A) vs H Q E->∀E',spT K h vs H Q E':=λ{vs H Q E} ⟨B,A,ts,ha,r,q⟩ E'=>by
  have q:iC (xcZ K B H E) (gY (h ts) A) _:=q;cases e:h ts with
  |ok t=>rw[e]at q;exact⟨B,ts,ha.hb,r,t,e,λv H' s b=>q v B H' (.of s) (ha.same s) b⟩
  |_=>rw[e]at q;exact fe q
 refine⟨λvs H Q E q=>F.len vs H Q E (key q E),λA outer s H args us vs Q E g l hb n q=>?_⟩;refine iE (F.run A outer s H args us vs Q E g l hb n (key q E)) λr s' z=>?_
 cases r with
 |error e=>exact fe z
 |ok fl=>
  cases fl with
  |_=>exact z
def cD(r:Rz Out):Rz Tr:=r.bind λo A=>match o with
 |.nx _=>.ok .cu A
 |.ret t=>.ok t A
 |_=>.bad
def zm.okS {base:Heap}{qual:Str}{st:Stmt}{f:Addr}{fd:FuncData}{N:List Str}{k:Nat}{h:List Tr->Ab->Rz Tr}(Fn:zm K x qual st f fd)(S:g_ N ps (bJ st))(len:∀ts A,h ts A≠ .bad->ts.length=ps.length)
  (kR:∀(gf:Value) (A:Around) (outer:List Env) (s:Shared) (H:Hp) (E:XK),di k (A.deeper (envOfC qual (bJ st) s.heap.objs.size f gf))->
   ∃G,o5 (oY (vo P w) P w K mg base N qual (bJ st) f gf A outer s H E) (f_ st) (tZ (oY (vo P w) P w K mg base N qual (bJ st) f gf A outer s H E) G)/\∀ts A,h ts A≠ .bad->h ts A=cD (G (startT N.length ts) A)):eC P w K mg base (vo P w) (k+1) f fd ps (v8 K h):=by
 obtain⟨oc,od,kV,doc,pm,an,gf,ct,Kd,rfl,lk,n⟩:=Fn.ex;have nb:∀{B:fy} {A:Ab} {H:Hp} {E:XK} {ts:List Tr} {k:Tr->Ab->Prop},iC (xcZ K B H E) (h ts A) k->h ts A≠ .bad:=λ{B A H E ts k} q z=>by rw[z]at q;exact q
 refine P7 lk n S (λvs H Q E ⟨B,A,ts,ha,r,q⟩=>by rw[r.length];exact len ts A (nb q)) λA outer s H vs Q E I ⟨B,A1,ts,ha,r,q⟩=>?_
 obtain⟨G,L,M⟩:=kR gf A outer s H E I;refine⟨_,L,B,H,B,A1,startT N.length ts,ha.hb,.refl,ha,cL.start r,yt,?_⟩;rw[M ts A1 (nb q)]at q;refine(iC.bind q).imp (λc A2 z B' H' g b e s x=>KR x (z B' H' g b))|>.mono λo A2 z=>?_
 cases o with
 |nx Y=>exact λdF B' H' g b l n'=>z .cu B' H' g b .cu
 |ret t=>exact λv B' H' g b l=>z v B' H' g b l
 |_=>exact fe z
def ff(n m:Nat)(G:bY->Ab->Rz Out)(ts:List Tr)(A:Ab):Rz Tr:=if ts.length=n then cD (G (startT m ts) A)else .bad
def DB{n:Nat}{A:Ab}(h:ff n i aJ ts A≠ .bad):ts.length=n:=by
 unfold ff at h;by_cases z:ts.length=n
 ·exact z
 ·rw[ba z]at h;exact absurd rfl h
def OH{A:Ab}(h:ff i ay aJ ts A≠ .bad):ff i ay aJ ts A=cD (aJ (startT ay ts) A):=by
 unfold ff;rw[aX (DB h)]
section
variable {h:List Tr->Ab->Rz Tr}{fd:FuncData}{k:Nat}
def Fh{B1:fy}{A1:Ab}{Q:VK}(hb:HB B H)(g:Grows B H B1 ac)(ha:HA X.K B1 A1 ac)(r:bP X.K (cn B1 ac) aq ts)(q:iC (XE X B H) (h ts A1) λt A'=>∀v B' H',Grows B H B' H'->HA X.K B' A' H'->Rep X.K (cn B' H') v t->Q v H'):v8 X.K h aq ac Q (EX X):=
 ⟨B1,A1,ts,ha,r,(q.imp λc A' z=>z.grow hb g).mono λt A' z v B' H' g' b l=>z v B' H' (g.trans hb g') b l⟩
theorem XJ(D:zT X.K X.mg x ai ps ar fd)(G:eC X.prog X.w X.K X.mg X.base (vo X.prog X.w) k ar fd ps (v8 X.K h))(hr:di k X.A)(ha:PA X (e::az) (M' X aG))(hx:X.ex=[]:=by rfl) (hg:Gl X x:=by rfl) (fR:Db x:=by decide) (cH:bC (e::az)=true:=by rfl):
  PE X (.Call (.Name x p) (e::az) [] pos) (tE X λY A=>(aG Y A).bind h):=
 (F_ (p:=p) (pos:=pos) G hr hg D.mg D.fn.kp D.bd .nil (m5 hx) ha (fR:=fR) (he:=bL _ _ (bp cH).1) (oX:=cS (bp cH).2)).weak λZ H Q ⟨B,A,Y,ha,r,n,q⟩=>⟨B,A,Y,ha,r,n,q.bind.mono λts A1 b vs B1 H1 g1 g l=>by
  show v8 X.K h (vs++[]) H1 Q (EX X);rw[j9];exact Fh ha.hb g1 g l b⟩
variable {c m:Str}
def rM(c m:Str)(h:List Tr->Ab->Rz Tr)(r:Rz Tr)(l:Ab->Rz (List Tr)):Rz Tr:=r.bind λt A=>match t with
 |.at i=>match A[i]? with
  |some (.ins x fs)=>if x=c/\Ep fs m=true then(l A).bind λts A=>h (.at i::ts) A else .bad
  |_=>.bad
 |_=>.bad
def G0{A:Ab}(q:HA K B A H)(rB:B.ix a=some i)(e:A[i]?=some (.ins x bE))(hm:Ep bE m=true):∃dx il,H a=some (.ins (clsAt K x) dx il)/\il.lookup m=none:=by
 obtain⟨_,dx,il,h1,_,_,b,g⟩:=q.get rB e;refine⟨dx,il,h1,?_⟩;rcases nV m b g with⟨_,z⟩|⟨t,v,z,_⟩
 ·exact z
 ·unfold Ep at hm;rw[z]at hm;cases hm
theorem Td(D:MethAt X.K c m ai ps ar fd)(G:eC X.prog X.w X.K X.mg X.base (vo X.prog X.w) k ar fd ps (v8 X.K h))(hr:di k X.A)(ho:PE X o (tE X aH))(ha:PA X (e::az) (M' X aG)){pl:Sem Bool}(hx:X.ex=[]:=by rfl) (cH:bC (e::az)=true:=by rfl)
  (ht:eval (.Call (.Attribute o m b8) (e::az) [] pos) X.env=uc pos b8 o m (e::az) X.env pl:=by rfl):PE X (.Call (.Attribute o m b8) (e::az) [] pos) (tE X λY A=>rM c m h (aH Y A) (aG Y)):=
 (Ga (pl:=pl) ho D.cl D.mt G hr D.bd .nil (m5 hx) ha (cH:=bL _ _ (bp cH).1) (oX:=cS (bp cH).2) ht).weak λZ H Q ⟨B,A,Y,ha,r,n,q⟩=>⟨B,A,Y,ha,r,n,q.bind.mono λt A1 b v B1 H1 g1 g I=>by
  split at b
  ·obtain⟨a,rfl,l⟩:=I.nP;split at b
   ·rename_i L;obtain⟨⟨rfl,hm⟩,M⟩:=ir b;obtain⟨dx,il,k1,k2⟩:=G0 g l L hm;refine⟨a,dx,il,rfl,k1,k2,B1,A1,Y,g,r.grow n g1,n,((iC.bind M).imp λc A' z=>z.grow ha.hb g1).mono λts A2 S vs B2 H2 g2 p8 rs=>?_⟩;show v8 X.K h (.ref a::(vs++[])) H2 Q (EX X);rw[j9];exact Fh ha.hb (g1.trans ha.hb g2) p8 (.cons (.at (g2.kE.x _ _ l)) rs) S
   ·exact b.elim
  ·exact b.elim⟩
theorem OI(D:MethAt X.K c m ai ps ar fd)(G:eC X.prog X.w X.K X.mg X.base (vo X.prog X.w) k ar fd ps (v8 X.K h))(hr:di k X.A)(ho:PE X o (tE X aH)){pl:Sem Bool}(hx:X.ex=[]:=by rfl)
  (ht:eval (.Call (.Attribute o m b8) [] [] pos) X.env=uc pos b8 o m [] X.env pl:=by rfl):PE X (.Call (.Attribute o m b8) [] [] pos) (tE X λY A=>rM c m h (aH Y A) λA=>.ok [] A):=
 (CA (pl:=pl) ho D.cl D.mt G hr D.bd .nil (m5 hx) ht).weak λZ H Q ⟨B,A,Y,ha,r,n,q⟩=>⟨B,A,Y,ha,r,n,q.bind.mono λt A1 b v B1 H1 g1 g I=>by
  split at b
  ·obtain⟨a,rfl,l⟩:=I.nP;split at b
   ·rename_i L;obtain⟨⟨rfl,hm⟩,M⟩:=ir b;obtain⟨dx,il,k1,k2⟩:=G0 g l L hm;refine⟨a,dx,il,rfl,k1,k2,?_⟩;show v8 X.K h [.ref a] H1 Q (EX X);exact Fh ha.hb g1 g (.cons (.at l) .nil) M
   ·exact b.elim
  ·exact b.elim⟩
end
noncomputable abbrev bmV:List Value:=[.type "ValueError",.type "Exception",.type "BaseException",.type "object"]
structure rN(K:Frag)(mg:Str->Option Value)(x:Str):Prop where
 mg:mg x=some (.ref (clsAt K x))
 ex:PySem.W.excIn K (clsAt K x) bmV "ValueError.__new__"=true
def OJ{h:Heap}{C:Addr}(X:K.In h)(q:PySem.W.excIn K C am ax=true):
  ∃bm N nm qn bs hd sn sub ab col dd k0 k1 k2 k3 k5 mN,h.get? C=some (excClassObj nm qn C N bs bm hd sn sub ab col dd k0 k1 k2 k3 k5 ax)/\h.Ns N mN/\mN "__init__"=none/\OwnTail h am bm:=by
 unfold PySem.W.excIn at q;split at q
 ·rename_i L cd sl M;split at q
  ·rename_i C2 bm S j1 j2 j3 n j5 hm hs;simp only[bW,fo,xr]at q;obtain⟨⟨⟨⟨⟨e1,e2⟩,e3⟩,e4⟩,e5⟩,e6⟩:=q;subst e1 e2;obtain⟨nm,bs,mro,ns,qn,hd,sn,sub,ab,col,del⟩:=cd;have g:mro=_:=hm;have U0:del=false:=e3;have b:PySem.W.nsOkIn K ns=true:=e5;have r:PySem.W.nsIn K ns "__init__"=some none:=e6;subst g U0;obtain⟨l⟩:=sl;have I:l=_:=hs;subst I;exact⟨bm,ns,nm,qn,bs,hd,sn,sub,ab,col,L,S,j1,j2,j3,j5,_,X _ _ M,.of_isNs (PySem.W.isNs_of_in X b),PySem.W.nsMap_none_of_in X b r,PySem.W.tail_of_in X e4⟩
  ·cases q
 ·cases q
section
variable {np:Pos}
def Fj(x:Str)(l:Rz (List Tr)):Rz Out:=l.bind λts A=>if ts.length<=dU then .exc (.str x) A else .bad
theorem OK(D:rN X.K X.mg x)(ha:PA X (e::az) (M' X aG))(hx:X.ex=[]:=by rfl) (hc:X.calm=true:=by rfl) (hg:Gl X x:=by rfl) (fR:Db x:=by decide) (cH:bC (e::az)=true:=by rfl):
  PS X (.Raise (some (.Call (.Name x np) (e::az) [] b8)) none pos) (tZ X λY A=>Fj x (aG Y A)):=by
 intro U s Z H D' I ⟨B0,H0,B,A,Y,hb,g,hA,r,n,q⟩;obtain⟨bm,N,nm,qn,bs,hd,sn,sub,ab,col,dd,k0,k1,k2,k3,k5,mN,hC,hN,M,T⟩:=OJ (h:=X.base) I.ok.mod.PR D.ex;have XM:starEach (e::az) X.env=(false,eval e X.env)::starEach az X.env:=bL _ _ (bp cH).1;have oX:(backTo b8 (starEach az X.env)).any (·.1)=false:=cS (bp cH).2;refine wpAny_Raise_call_subU (C:=clsAt X.K x) (nm:=nm) (q:=qn) (N:=N) (bs:=bs) (bm:=bm) (hdct:=hd) (sn:=sn) (sub:=sub) (ab:=ab) (col:=col) (dd:=dd) (k0:=k0) (k1:=k1) (k2:=k2) (k3:=k3) (k5:=k5)
  Cq (by decide+kernel) Cq (mN:=mN) (T.hasType (by decide+kernel)) (I.ok.hd hc) (by rw[XM];show(false||(backTo b8 (starEach az X.env)).any (·.1))=false;rw[oX];rfl) M
  (qM I hg D.mg ⟨rfl,?_⟩ fR)
 have L:=ha b8 U s Z H (λvs H2=>vs.length<=sizeLine/\EX X (.ref (clsAt X.K x)) none H2) I ⟨B,A,Y,hA,r,n,((iC.bind q).imp λc A' z=>z.grow hb g).mono λts A2 qt vs B2 H2 g2 p8 rs=>by
  obtain⟨S,q2⟩:=ir qt;exact⟨by rw[rs.length,<-jO];exact S,(show XE X B0 H0 (.str x) A2 from q2) B2 H2 (g.trans hb g2) p8⟩⟩
 rw[XM]at L⊢;refine nK (eJ L λus s2 ⟨vs,H2,l,rv,S,hE⟩=>⟨rfl,by rw[<-rv.length];exact S,l.bk _ _ hC,hN.keeps l.bk,T.keeps l.bk,λh' a hm=>hE _ _ ?_⟩);obtain⟨t,e1,e2,e3⟩:=hm.there;refine⟨a,U,Z,s2.heap,rfl,l.kept (t':=s2.toks) hm.keeps,⟨⟨_,_,_,e1,rfl,rfl,rfl,.inl rfl⟩,?_,hm.new⟩,λb n=>l.Dc hx n,λp hp=>⟨_,(l.pin p (jZ _ hp)).1⟩,λb nb=>by
  cases z:s2.heap.get? b with
  |none=>rfl
  |some o=>rw[hm.keeps b o z]at nb;cases nb⟩
 cases z:H2 a with
 |none=>rfl
 |some o=>
  obtain⟨u,e4⟩:=(l.cX a o z).get;rw[hm.new]at e4;cases e4
end
def IW{env:Env}:swapsWith e (some (.Subscript o tg p)) ay env=pure false:=by cases e<;>rfl
def IX{f:Str}{env:Env}:swapsWith e (some (.Attribute o f p)) i env=pure false:=by cases e<;>rfl
noncomputable def An(f:Str)(t:Tr):List (Str×Tr)->List (Str×Tr)
 |[]=>[(f,t)]
 |(g,x)::r=>if g=f then(g,t)::r else(g,x)::An f t r
theorem DC{W:Vw}{f:Str}{v:V}{t:Tr}(q:Rep K W v t):∀{il:List (Str×V)} {fs:List (Str×Tr)},il.map (·.1)=fs.map (·.1)->bP K W (il.map (·.2)) (fs.map (·.2))->(mV f v il).map (·.1)=(An f t fs).map (·.1)/\bP K W ((mV f v il).map (·.2)) ((An f t fs).map (·.2))
 |[],[],_,_=>⟨rfl,.cons q .nil⟩
 |[],_::_,e,_=>by cases e
 |_::_,[],e,_=>by cases e
 |(k1,v1)::il,(k2,I)::fs,e,r=>by
  rw[bB,bB]at e;injection e with g b
  have l:k1=k2:=g;subst l;cases r with
  |cons n r=>
   unfold mV An;by_cases z:k1=f
   ·rw[aX z,aX z];exact⟨by rw[bB,bB,b],.cons q r⟩
   ·rw[ba z,ba z];obtain⟨p1,p2⟩:=DC q b r;exact⟨by rw[bB,bB,p1],.cons n p2⟩
def lookup_some{W:Vw}{il:List (Str×V)}{t:Tr}(h:il.map (·.1)=bE.map (·.1))(r:bP K W (il.map (·.2)) (bE.map (·.2)))(e:bE.lookup x=some t):∃v,il.lookup x=some v/\Rep K W v t:=by
 rcases nV x h r with⟨z,_⟩|⟨t',v,z,ev,rv⟩
 ·cases e.symm.trans z
 ·cases e.symm.trans z;exact⟨v,ev,rv⟩
structure iY(K:Frag)(xs:List Str)(f:Str):Prop where
 all:∀x∈xs,EC K (clsAt K x)/\r9 K (clsAt K x) f
section
variable {f:Str}
def jV(ps:List Str)(f:Str):Tr->Rs Tr
 |.ob x fs=>if ps.contains x=true then l8 (fs.lookup f)else .bad
 |_=>.bad
theorem Te(T:iY X.K ps f)(he:PE X e (tP X F))(hb:attributeBase e f X.env (eval e X.env)=eval e X.env:=by first|exact gE rfl|rfl):PE X (.Attribute e f pos) (tP X λY=>(F Y).bind (jV ps f)):=
 (Ka he hb).weak λZ H Q ⟨B,Y,hb,r,q⟩=>⟨B,Y,hb,r,q.bind.mono λt b v H1 s1 rv=>by
  unfold jV at b;split at b
  ·obtain⟨a,dx,il,rfl,h,g,rr⟩:=rv.Ba;split at b
   ·rename_i l;obtain⟨t,n,k⟩:=gG b;have c:=T.all _ (de.mp l);obtain⟨v,ev,rv⟩:=lookup_some g rr n;exact⟨a,_,dx,il,v,rfl,d8 h,c.1,c.2,ev,k v H1 s1 rv⟩
   ·exact b.elim
  ·exact b.elim⟩
def rD(ps:List Str)(f:Str)(r:Rz Tr):Rz Tr:=r.bind λt A=>match t with
 |.at i=>match A[i]? with
  |some (.ins x fs)=>if ps.contains x=true then gY (l8 (fs.lookup f)) A else .bad
  |_=>.bad
 |_=>.bad
theorem Tf(T:iY X.K ps f)(he:PE X e (tE X aI))(hb:attributeBase e f X.env (eval e X.env)=eval e X.env:=by first|exact gE rfl|rfl):PE X (.Attribute e f pos) (tE X λY A=>rD ps f (aI Y A)):=
 (Ka he hb).weak λZ H Q ⟨B,A,Y,ha,r,n,q⟩=>⟨B,A,Y,ha,r,n,q.bind.mono λt A1 b v B1 H1 g1 g rv=>by
  split at b
  ·obtain⟨a,rfl,l⟩:=rv.nP;split at b
   ·rename_i I;obtain⟨L,M⟩:=ir b;obtain⟨_,dx,il,h1,_,_,S,h5⟩:=g.get l I;have c:=T.all _ (de.mp L);obtain⟨t,et,k⟩:=gG (p5 (X:=X) (H:=H1) M);obtain⟨v,ev,rv⟩:=lookup_some S h5 et;exact⟨a,_,dx,il,v,rfl,h1,c.1,c.2,ev,k v B1 H1 g1 g rv⟩
   ·exact b.elim
  ·exact b.elim⟩
def XN(ps:List Str)(f:Str)(v:Rz Tr)(o:Ab->Rz Tr)(Y:bY):Rz Out:=v.bind λtv A=>(o A).bind λt A=>match t with
 |.at i=>match A[i]? with
  |some (.ins x fs)=>if ps.contains x=true/\fs.length<1000 then .ok (.nx Y) (A.set i (.ins x (An f tv fs)))else .bad
  |_=>.bad
 |_=>.bad
theorem XO(T:iY X.K ps f)(ho:PE X o (tE X aI))(hv:PE X tg (tE X aH)):PS X (.Assign [.Attribute o f p] tg pos) (tZ X λY A=>XN ps f (aH Y A) (aI Y) Y):=
 (Ru ho hv IX).weak λD Z H ⟨B0,H0,B,A,Y,hb,g,ha,r,n,q⟩=>p7 hb g ha r n q.bind λtv A1 v B1 H1 q1 g1 nC r1 rv _=>p7 hb g1 nC r1 n (iC.bind q1) λt A2 w B2 H2 b g2 S r2 pP l=>by
  split at b
  ·obtain⟨a,rfl,I⟩:=pP.nP;split at b
   ·rename_i i _ x fs eo;obtain⟨⟨hx,hl⟩,q3⟩:=ir b;obtain⟨hd,dx,il,h1,h2,L,h4,h5⟩:=S.get I eo;have c:=T.all x (de.mp hx);have b9:il.length=fs.length:=by have:=dh List.length h4;rw[bt,bt]at this;exact this
    obtain⟨p1,p2⟩:=DC (f:=f) (rv.same l.kE) h4 h5;have M:dx≠a:=λz=>by rw[z,show B2.ix a=some i from I]at L;cases L
    obtain⟨g3,h6⟩:=S.write (o:=.ins x (An f tv fs)) (u:=.ins (clsAt X.K x) dx (mV f v il)) I ⟨hd,dx,_,bO,by rw[bo M];exact h2,L,p1,by rw[jo hd];exact p2⟩;exact⟨a,_,dx,il,rfl,h1,c.1,c.2,by rw[b9];exact hl,q3 Z B2 _ (g2.trans hb g3) h6 (r2.grow n g3) n⟩
   ·exact b.elim
  ·exact b.elim
end
def OL{xc:Tr->Ab->Prop}{r:Rs Tr}{A:Ab}{k:Tr->Ab->Prop}(q:iC xc (sS r A) k):Fi X H r λt=>JG t=true/\k t A:=by
 cases r with
 |ok t=>exact ir q
 |exc c=>exact fe q
 |bad=>exact q
section
variable {a b i:Expr}{E:bY->Ab->Rz Tr}{h:Tr->Tr->Rs Tr}
def OM(h:Tr->Tr->Rs Tr)(a:Rz Tr)(b:Ab->Rz Tr):Rz Tr:=a.bind λx A=>(b A).bind λy A=>sS (h (aZ 1 A x) (aZ 1 A y)) A
def IY{Q:VK}(q:tE X (λY A=>OM h (aH Y A) (aI Y)) Z H Q):Rj (rT X h) (tE X aH) (tE X aI) Z H Q:=by
 obtain⟨B,A,Y,ha,r,n,q⟩:=q;refine⟨B,A,Y,ha,r,n,q.bind.mono λx A1 g v B1 H1 g1 l I=>⟨B1,A1,Y,l,r.grow n g1,n,((iC.bind g).imp λc A' z=>z.grow ha.hb g1).mono λy A2 L u B2 H2 g2 b M=>?_⟩⟩;refine⟨B2.un,aZ 1 A2 x,aZ 1 A2 y,GN b.hb,jE b 1 (I.same g2.kE),jE b 1 M,(OL L).mono λt ⟨S,k⟩ w H3 s3 pP=>?_⟩;exact k w B2 H3 ((g1.trans ha.hb g2).trans ha.hb (.of s3)) (b.same s3) (Ac (b.same s3) pP S)
def aa8(hu:X.A.units+1<cLine)(h1:PE X a (tE X aH))(h2:PE X b (tE X aI))(hs:uk b:=by exact λ_ _=>rfl):PE X (.Subscript a b pos) (tE X λY A=>OM jM (aH Y A) (aI Y)):=(P8 (WH hu) h1 h2 hs).weak λ_ _ _ q=>IY q
def DD(A:Ab)(t q tv:Tr):Option Ab:=match t,kh q with
 |.at i,some k=>match A[i]? with
  |some (.bU bE)=>if bE.length<dU then some (A.set i (.bU (kT bE k tv)))else none
  |_=>none
 |_,_=>none
def Tg(v:Rz Tr)(o k:Ab->Rz Tr)(Y:bY):Rz Out:=v.bind λtv A=>(o A).bind λt A=>(k A).bind λb A=>match DD A t b tv with
 |some A'=>.ok (.nx Y) A'
 |none=>.bad
theorem d5.length {W:Vw}{kvs:List (Key×V)}{bE:List (Key×Tr)}(h:d5 K W kvs bE):kvs.length=bE.length:=by
 have e:=dh List.length h.keys;rw[bt,bt]at e;exact e
def Fl{A A':Ab}{tk tv:Tr}(e:DD A aB tk tv=some A'):∃j bE key,aB=.at j/\kh tk=some key/\A[j]?=some (.bU bE)/\bE.length<dU/\A'=A.set j (.bU (kT bE key tv)):=by
 unfold DD at e;split at e
 ·rename_i b;split at e
  ·rename_i g;split at e
   ·rename_i l;cases e;exact⟨_,_,_,rfl,b,g,l,rfl⟩
   ·cases e
  ·cases e
 ·cases e
theorem Th(hu:X.A.units+1<cLine)(ho:PE X o (tE X aH))(hi:PE X i (tE X aI))(hv:PE X tg (tE X E)):
  PS X (.Assign [.Subscript o i p] tg pos) (tZ X λY A=>Tg (E Y A) (aH Y) (aI Y) Y):=
 (NM hu ho hi hv IW).weak λD Z H ⟨B0,H0,B,A,Y,hb,g,ha,r,n,q⟩=>p7 hb g ha r n q.bind λtv A1 v B1 H1 q1 g1 nC r1 rv _=>p7 hb g1 nC r1 n (iC.bind q1) λt A2 w B2 H2 q2 g2 p8 r2 pP l=>p7 hb g2 p8 r2 n (iC.bind q2) λtk A3 y B3 H3 I g3 M r3 ry b=>by
  have L:=pP.same b.kE;have Z7:=(rv.same l.kE).same b.kE;split at I
  ·rename_i ed;obtain⟨j,bE,key,rfl,ek,eo,hl,rfl⟩:=Fl ed;obtain⟨c,rfl,S⟩:=L.nP;obtain⟨hd,kvs,h1,h2⟩:=M.get S eo;cases nQ ry ek;obtain⟨g4,h6⟩:=M.write (o:=.bU (kT bE key tv)) (u:=.dK (putK kvs key v)) S ⟨hd,_,bO,by rw[jo hd];exact h2.put key Z7⟩;exact⟨c,_,rfl,EI.k h1 (by rw[h2.length,<-jO];exact hl),I Z B3 _ (g3.trans hb g4) h6 (r3.grow n g4) n⟩
  ·exact I.elim
end
noncomputable def iI(bE:List (Key×Tr))(k:Key):List (Key×Tr):=bE.filter λb=>decide (b.1≠k)
theorem d5.drop {W:Vw}(k:Key):∀{kvs:List (Key×V)} {bE:List (Key×Tr)},d5 K W kvs bE->d5 K W (rH kvs k) (iI bE k)
 |[],[],_=>.nil
 |[],_::_,h=>by cases h.keys
 |_::_,[],h=>by cases h.keys
 |(k1,v1)::kvs,bE,h=>by
  obtain⟨t,r,rfl,rv,g⟩:=h.inv;have b:=d5.drop k g;unfold rH iI at b⊢;by_cases z:k1=k
  ·rw[jY (by simp[z]),jY (by simp[z])];exact b
  ·rw[lI (by simp[z]),lI (by simp[z])];exact .cons rv b
def m7(A:Ab)(i:Nat):Bool:=match A[i]? with
 |some (.bU _)=>true
 |_=>false
def qV{A:Ab}(q:HA K B A H)(e:B.ix a=some i)(h:m7 A i=true):∃bE kvs,A[i]?=some (.bU bE)/\B.hd a=true/\H a=some (.dK kvs)/\d5 K (cn B H) kvs bE:=by
 obtain⟨o,b,g⟩:=q.ex e;unfold m7 at h;rw[b]at h;cases o with
 |bU bE=>obtain⟨hd,kvs,h1,h2⟩:=g;exact⟨bE,kvs,b,hd,h1,h2⟩
 |_=>cases h
def dkZ{α:Type}(o:Rz Tr)(k:Ab->Rz Tr)(f:Nat->Key->Ab->Rz α):Rz α:=o.bind λt A=>match t with
 |.at i=>if m7 A i=true then(k A).bind λb A=>match kh b with
  |some key=>f i key A
  |none=>.bad
  else .bad
 |_=>.bad
def oZ(A:Ab)(i:Nat):List (Key×Tr):=match A[i]? with
 |some (.bU bE)=>bE
 |_=>[]
def Lo(o:Rz Tr)(k:Ab->Rz Tr):Rz Tr:=dkZ o k λi key A=>if m7 A i=true then match fc (oZ A i) key with
 |some v=>.ok v (A.set i (.bU (iI (oZ A i) key)))
 |none=>.bad
 else .bad
section
variable {dH:Pos}{E:bY->Ab->Rz Tr}
def Bx{A:Ab}{bE:List (Key×Tr)}(h:A[i]?=some (.bU bE)):oZ A i=bE:=by unfold oZ;rw[h]
theorem Ti(ho:PE X o (tE X aH))(he:PE X e (tE X aI))(hb:isCall o=false:=by rfl) (cH:bC [e]=true:=by rfl) (hl:(b8.endLine==dH.line)=true:=by rfl):PE X (.Call (.Attribute o "pop" b8) [e] [] dH) (tE X λY A=>Lo (aH Y A) (aI Y)):=
 (Km ho he (Qj hb cH hl)).weak λZ H Q ⟨B,A,Y,ha,r,n,q⟩=>⟨B,A,Y,ha,r,n,q.bind.mono λt A1 l v B1 H1 g1 L rv=>by
  split at l
  ·obtain⟨a,rfl,M⟩:=rv.nP;rename_i i;obtain⟨hd,q2⟩:=ir l;obtain⟨bE,kvs,e1,e2,e3,e4⟩:=qV L M hd;refine⟨a,rfl,.inl ⟨_,.inl e3⟩,B1,A1,Y,L,r.grow n g1,n,((iC.bind q2).imp λc A' z=>z.grow ha.hb g1).mono λtk A2 g y B2 H2 g2 S ry=>?_⟩;have By:=g2.kE.x _ _ M;cases I:kh tk with
   |none=>simp only[I]at g;exact fe g
   |some key=>
    simp only[I]at g;obtain⟨hd2,b⟩:=ir g;obtain⟨Tj,Lp,f1,f2,f3,f4⟩:=qV S By hd2;rw[Bx f1]at b;have ey:=nQ ry I;subst ey;rcases qQ key f4.keys f4.vals with⟨z,_⟩|⟨t,w,z,ev,pP⟩
    ·simp only[z]at b;exact fe b
    ·simp only[z]at b;obtain⟨g4,h6⟩:=S.write (o:=.bU (iI Tj key)) (u:=.dK (rH Lp key)) By ⟨f2,_,bO,by rw[jo f2];exact f4.drop key⟩;exact⟨Lp,key,w,f3,rfl,ev,b w B2 _ ((g1.trans ha.hb g2).trans ha.hb g4) h6 (by rw[jo f2];exact pP)⟩
  ·exact l.elim⟩
def Lq(o:Rz Tr)(k x:Ab->Rz Tr):Rz Tr:=dkZ o k λi key A=>(x A).bind λtx A=>if m7 A i=true then match fc (oZ A i) key with
 |some v=>.ok v (A.set i (.bU (iI (oZ A i) key)))
 |none=>.ok tx A
 else .bad
theorem Tn(ho:PE X o (tE X aH))(he:PE X e (tE X aI))(hf:PE X tg (tE X E))(hb:isCall o=false:=by rfl) (cH:bC [e,tg]=true:=by rfl) (hl:(b8.endLine==dH.line)=true:=by rfl):PE X (.Call (.Attribute o "pop" b8) [e,tg] [] dH) (tE X λY A=>Lq (aH Y A) (aI Y) (E Y)):=
 (Kn ho he hf (Qk hb cH hl)).weak λZ H Q ⟨B,A,Y,ha,r,n,q⟩=>⟨B,A,Y,ha,r,n,q.bind.mono λt A1 M v B1 H1 g1 nC rv=>by
  split at M
  ·obtain⟨a,rfl,rB⟩:=rv.nP;rename_i i;obtain⟨hd,q2⟩:=ir M;obtain⟨bE,kvs,e1,e2,e3,e4⟩:=qV nC rB hd;refine⟨a,rfl,.inl ⟨_,.inl e3⟩,B1,A1,Y,nC,r.grow n g1,n,((iC.bind q2).imp λc A' z=>z.grow ha.hb g1).mono λtk A2 I y B2 H2 g2 p8 ry=>?_⟩;have L:=g1.trans ha.hb g2;cases S:kh tk with
   |none=>simp only[S]at I;exact fe I
   |some key=>
    simp only[S]at I;refine⟨B2,A2,Y,p8,r.grow n L,n,((iC.bind I).imp λc A' z=>z.grow ha.hb L).mono λtx A3 qx z B3 H3 g3 JI rz=>?_⟩;have XQ:=g3.kE.x _ _ (g2.kE.x _ _ rB);obtain⟨hd3,b⟩:=ir qx;obtain⟨aa9,XR,f1,f2,f3,f4⟩:=qV JI XQ hd3;rw[Bx f1]at b;have ey:=nQ ry S;subst ey;refine⟨XR,key,f3,rfl,λw ev=>?_,λev=>?_⟩
    ·rcases qQ key f4.keys f4.vals with⟨_,g⟩|⟨t,w2,g,l,pP⟩
     ·rw[ev]at g;cases g
     ·rw[ev]at l;cases l;simp only[g]at b;obtain⟨g4,h6⟩:=JI.write (o:=.bU (iI aa9 key)) (u:=.dK (rH XR key)) XQ ⟨f2,_,bO,by rw[jo f2];exact f4.drop key⟩;exact b w B3 _ ((L.trans ha.hb g3).trans ha.hb g4) h6 (by rw[jo f2];exact pP)
    ·rcases qQ key f4.keys f4.vals with⟨z1,_⟩|⟨t,w2,g,l,_⟩
     ·simp only[z1]at b;exact b z B3 H3 (L.trans ha.hb g3) JI rz
     ·rw[ev]at l;cases l
  ·exact M.elim⟩
variable {c:Str}{h:List Tr->Ab->Rz Tr}{fa:Addr}{fd:FuncData}{k:Nat}
def yG(c:Str)(h:List Tr->Ab->Rz Tr)(l:Rz (List Tr)):Rz Tr:=l.bind λts A=>(h (.at A.length::ts) (A++[.ins c []])).bind λt A'=>if ZR t=true then .ok (.at A.length) A' else .bad
structure yH(K:Frag)(mg:Str->Option Value)(c:Str)(ps:List Str)(fa:Addr)(fd:FuncData):Prop where
 XU:Mk K (clsAt K c) fa
 bd:Binds K fd ps []
 mg:mg c=some (.ref (clsAt K c))
def G1{B1:fy}{A1:Ab}{vs:List V}{ts:List Tr}{Q:VK}(hb:HB B H)(g:Grows B H B1 ac)(ha:HA X.K B1 A1 ac)(rs:bP X.K (cn B1 ac) vs ts)
  (q:iC (XE X B H) ((h (.at A1.length::ts) (A1++[.ins c []])).bind λt A'=>if ZR t=true then .ok (.at A1.length) A' else .bad) λt A'=>∀v B' H',Grows B H B' H'->HA X.K B' A' H'->Rep X.K (cn B' H') v t->Q v H')
  (x dx:Addr) (h1:ac x=none) (h2:ac dx=none) (h3:dx≠x):v8 X.K h (.ref x::vs) (upd (upd ac dx (.own x)) x (.ins (clsAt X.K c) dx [])) (λv H2=>v=.cu/\Q (.ref x) H2) (EX X):=by
 have s1:bj ac (upd (upd ac dx (.own x)) x (.ins (clsAt X.K c) dx [])):=((bj.upd h2).trans (bj.upd (by rw[bo (Ne.symm h3)];exact h1)));obtain⟨g1,b⟩:=ha.push (p:=x) (o:=.ins c []) h1 s1 ⟨qR,dx,[],bO,by rw[bo h3,bO],by rw[iH h3];exact ha.free h2,rfl,.nil⟩;refine⟨_,_,_,b,.cons (.at iG) (rs.same g1.kE),((iC.bind q).imp λc A' z=>z.grow hb (g.trans hb g1)).mono λt A' z v B' H' g' l n=>?_⟩;obtain⟨r,I⟩:=ir z;refine⟨?_,I (.ref x) B' H' ((g.trans hb g1).trans hb g') l (.at (g'.kE.x _ _ iG))⟩;have e:=GC n;rw[r]at e;exact eN e
theorem To(D:yH X.K X.mg c ps fa fd)(aI:eC X.prog X.w X.K X.mg X.base (vo X.prog X.w) k fa fd ps (v8 X.K h))(hr:di (k+1) X.A)(ha:PA X (e::az) (M' X aG))(hx:X.ex=[]:=by rfl) (hg:Gl X c:=by rfl) (fR:Db c:=by decide) (cH:bC (e::az)=true:=by rfl):
  PE X (.Call (.Name c p) (e::az) [] pos) (tE X λY A=>yG c h (aG Y A)):=
 (Nx (p:=p) (pos:=pos) D.XU aI hr hg D.mg D.bd .nil (m5 hx) ha (fR:=fR) (he:=bL _ _ (bp cH).1) (oX:=cS (bp cH).2)).weak λZ H Q ⟨B,A,Y,ha,r,n,q⟩=>⟨B,A,Y,ha,r,n,q.bind.mono λts A1 b vs B1 H1 g1 g rs x dx l h2 I=>by
  show v8 X.K h (.ref x::(vs++[])) _ _ _;rw[j9];exact G1 ha.hb g1 g rs b x dx l h2 I⟩
theorem ON(D:yH X.K X.mg c ps fa fd)(aI:eC X.prog X.w X.K X.mg X.base (vo X.prog X.w) k fa fd ps (v8 X.K h))(hr:di (k+1) X.A)(hx:X.ex=[]:=by rfl) (hg:Gl X c:=by rfl) (fR:Db c:=by decide):
  PE X (.Call (.Name c p) [] [] pos) (tE X λ_ A=>yG c h (.ok [] A)):=
 (Kc (p:=p) (pos:=pos) D.XU aI hr hg D.mg D.bd .nil (m5 hx) (fR:=fR)).weak λZ H Q ⟨B,A,Y,ha,r,n,q⟩ x dx b h2 g=>G1 (vs:=[]) (ts:=[]) ha.hb .refl ha .nil q x dx b h2 g
end
def OO(ok:X.Ok):∀b∈X.fs,b∈jU X.stack:=λb hb=>by
 rcases ok.M7 with e|⟨e,_⟩
 ·rw[e];exact hb
 ·rw[e];obtain⟨v,g,hf⟩:=lL.mp hb;exact lL.mpr ⟨v,cx _ g,hf⟩
def Inv.Tp {h':Heap}{hs:List Addr}(I:Inv X U Z H s)(hx:X.ex=[])
  (kp:∀b o,b∉hs->b∉jU X.stack->s.heap.get? b=some o->h'.get? b=some o) (sl:∀b o,b∈jU X.stack->s.heap.get? b=some o->∃sl,h'.get? b=some {o with slots:=sl})
  (hn:∀b∈hs,H b=none/\X.gD.heap.get? b=none/\(∀p∈X.pn++U,p.1≠b)/\((∃o ws,s.heap.get? b=some o/\o.data=.fields ws)\/s.heap.get? b=none)):Inv X U Z H {s with heap:=h'}:=by
 have S:∀b:Addr,b∉X.ex:=λb=>by rw[hx];simp
 have any:∀b o,b∉hs->s.heap.get? b=some o->∃sl,h'.get? b=some {o with slots:=sl}:=λb o nb e=>by
  by_cases m:b∈jU X.stack
  ·exact sl b o m e
  ·exact⟨o.slots,kp b o nb m e⟩
 have hsF:∀b o,s.heap.get? b=some o->(∀ws,o.data≠ .fields ws)->b∉hs:=λb o e d m=>by
  rcases(hn b m).2.2.2 with⟨o2,ws,g,d2⟩|g
  ·rw[e]at g;cases g;exact d ws d2
  ·rw[e]at g;cases g
 have cellK:∀c v,s.heap.IsCell c v->h'.IsCell c v:=λc v ⟨o,ho,hd⟩=>by
  obtain⟨s1,L⟩:=any c o (hsF c o ho λws z=>by rw[hd]at z;cases z) ho;exact⟨_,L,hd⟩
 have old:∀b o,X.gD.heap.get? b=some o->b∉hs:=λb o e m=>by rw[(hn b m).2.1]at e;cases e
 refine⟨I.ok,I.os,I.bare,⟨λb o e n hb _=>?_,λb o e n hb _=>?_,I.base.free,λb o e _=>?_,I.base.mU,I.base.lE,I.base.nM⟩,?_,λx c e=>?_,I.free,I.gg,λp hp=>?_,λb u e=>?_,I.len⟩
 ·refine kp b o (old b o e) (λm=>?_) (I.base.keep b o e n hb (S b));rcases bI.mp (I.xK b m)with z|z
  ·exact absurd (dg (bA e) I.ok.above) (by rw[z];exact fb _)
  ·exact hb z
 ·obtain⟨s1,L⟩:=I.base.slot b o e n hb (S b);obtain⟨s2,g⟩:=sl b _ (OO I.ok b hb) L;exact⟨s2,g⟩
 ·obtain⟨o1,L⟩:=I.base.there b o e (S b);obtain⟨s2,g⟩:=any b o1 (old b o e) L;exact⟨_,g⟩
 ·obtain⟨m,hm,hl⟩:=I.loc;refine⟨m,?_,λi x v L g e3=>?_⟩
  ·obtain⟨o,es,ep,ho,hd,r⟩:=hm;obtain⟨s1,L⟩:=any _ o (hsF _ o ho λws z=>by rw[hd]at z;cases z) ho;exact⟨_,es,ep,L,hd,r⟩
  ·obtain⟨u,r,l⟩:=hl i x v L g e3;refine⟨u,r,?_⟩;rcases l with l|⟨k,c,e,z⟩
   ·exact .inl l
   ·exact .inr ⟨k,c,e,cellK c _ z⟩
 ·obtain⟨v,z⟩:=I.cell x c e;exact⟨v,cellK c v z⟩
 ·obtain⟨e,n,ne,nf,d⟩:=I.pin p hp;refine⟨kp p.1 p.2 (λm=>(hn _ m).2.2.1 p hp rfl) (λm=>?_) e,n,ne,nf,d⟩;rcases bI.mp (I.xK _ m)with z|z
  ·exact ne z
  ·exact nf z
 ·refine(I.cX b u e).pM (λc v M q=>kp c v (λm=>?_) (λm=>?_) q) (λ_ q=>q) λ_ _ q=>q
  ·have n:=(hn c m).1;rcases M with rfl|M
   ·rw[n]at e;cases e
   ·rw[n]at M;cases M
  ·have n:=I.wG c m;rcases M with rfl|M
   ·rw[n]at e;cases e
   ·rw[n]at M;cases M
def XW(h0:Heap)(H:Hp)(h:Heap)(a:Addr)(cls:Value):Prop:=∃b vs a0 T g ts,h.get? a=some b/\b.cls=cls/\b.data=.fields vs/\vs[0]?=some a0/\vs[1]?=some (.ref T)/\T≠a/\h0.get? T=none/\H T=none/\h.get? T=some g/\g.data=.fields ts/\ts[3]?=some .none
structure Nc(X:Cx)(h0:Heap)(Z:St)(H:Hp)(s:Shared)(a:Addr)(cls:Value):Prop where
 inv:Inv X [] Z H s
 GP:Qp h0 H s.heap a cls
 old:∀b,h0.get? b=none->X.gD.heap.get? b=none
 pn:∀p∈X.pn,∃o,h0.get? p.1=some o
 gr:∀b,s.heap.get? b=none->h0.get? b=none
def XS.cau {cls e:Value}(x:XS X H cls e s):∃a Z h0,e=.ref a/\Nc X h0 Z H s a cls:=by
 obtain⟨a,U,Z,h0,rfl,I,GP,old,pn,gr⟩:=x;exact⟨a,Z,h0,rfl,I.ke (λp hp=>I.pin p (jZ _ (by simpa using hp))),GP,old,pn,gr⟩
def Nc.step {h0:Heap}{cls a0:Value}{h':Heap}{hs:List Addr}(C:Nc X h0 Z H s a cls)(hx:X.ex=[])(ha:a∈hs)(q:∀b∈hs,H b=none/\h0.get? b=none/\∃o ws,s.heap.get? b=some o/\o.data=.fields ws)
  (k1:(PySem.W.hideAll s.heap (hs++jU X.stack)).StaysIn h') (k4:∀b o,s.heap.get? b=some o->(∀ws,o.data≠ .fields ws)->∃sl,h'.get? b=some {o with slots:=sl})
  (k3:h'.TracedW (PySem.W.hideAll s.heap (hs++jU X.stack)) a cls a0) (fr':∀b∈jU X.stack,∃o,h'.get? b=some o/\∀ws,o.data≠ .fields ws):Nc X h0 Z H {s with heap:=h'} a cls/\XW h0 H h' a cls:=by
 have hk:=C.inv.stack;have U7:∀L∈jU X.stack,∃o,s.heap.get? L=some o/\∀ws,o.data≠ .fields ws:=λL hL=>(hk.mem hL).2;have gp:∀b,h0.get? b=none->∀p∈X.pn++[],p.1≠b:=λb n p hp z=>by
  obtain⟨o,e⟩:=C.pn p (by simpa using hp);rw[z,n]at e;cases e
 have kp:∀b o,b∉hs->b∉jU X.stack->s.heap.get? b=some o->h'.get? b=some o:=λb o n1 n2 e=>k1 b o (mC _ e λm=>(dm.mp m).elim n1 n2);have sl:∀b o,b∈jU X.stack->s.heap.get? b=some o->∃sl,h'.get? b=some {o with slots:=sl}:=λb o m e=>by
  obtain⟨o2,e2,d2⟩:=U7 b m;rw[e]at e2;cases e2;exact k4 b o e d2
 have tr:XW h0 H h' a cls:=by
  obtain⟨l,vs,T,oT,ts,r,⟨I,M⟩,S,q5,g,q7,q8,q9,q10⟩:=k3;have hTf:T∉jU X.stack:=λm=>by
   obtain⟨o,e,d⟩:=fr' T m;rw[q8]at e;cases e;exact d ts q9
  have key:h0.get? T=none/\H T=none:=by
   by_cases m:T∈hs
   ·exact⟨(q T m).2.1,(q T m).1⟩
   ·have n:s.heap.get? T=none:=by
     cases z:s.heap.get? T with
     |none=>rfl
     |some o=>rw[mC _ z λmm=>(dm.mp mm).elim m hTf]at g;cases g
    refine⟨C.gr T n,?_⟩;cases z:H T with
    |none=>rfl
    |some o=>obtain⟨u,e⟩:=(C.inv.cX T o z).get;rw[n]at e;cases e
  exact⟨l,vs,a0,T,oT,ts,r,I,S,M,q5,q7,key.1,key.2,q8,q9,q10⟩
 refine⟨⟨C.inv.Tp hx kp sl λb m=>⟨(q b m).1,C.old b (q b m).2.1,gp b (q b m).2.1,.inl (q b m).2.2⟩,⟨?_,C.GP.fr,C.GP.nw⟩,C.old,C.pn,λb n=>?_⟩,tr⟩
 ·obtain⟨l,vs,b0,T,oT,ts,r,I,M,S,q5,g⟩:=tr;exact⟨l,vs,b0,r,I,M,S,.inr ⟨T,oT,ts,q5,g⟩⟩
 ·by_cases m:b∈hs
  ·exact(q b m).2.1
  ·refine C.gr b ?_
   cases z:s.heap.get? b with
   |none=>rfl
   |some o=>
    have n':h'.get? b=none:=n;by_cases m2:b∈jU X.stack
    ·obtain⟨s1,e1⟩:=sl b o m2 z;rw[n']at e1;cases e1
    ·rw[kp b o m m2 z]at n';cases n'
section
variable {h0:Heap}{cls:Value}{M:Model}
theorem OP(C:Nc X h0 Z H s a cls)(hx:X.ex=[])(cH:X.stack=X.env::X.outer)(hf:X.env.frame=some X.env.locals)(hA:A.frames=some X.stack){Q:Unit->Shared->Prop}(q:∀s',Nc X h0 Z H s' a cls->XW h0 H s'.heap a cls->Q () s'):
  wpAny M A (noteFrame (.ref a) X.env) (λ_ s2=>wpAny M A (setFlight (.ref a) none) Q E s2) E s:=by
 obtain⟨⟨oe,vs,a0,he,S,hd,g,h1⟩,fr,nw⟩:=C.GP;have hk:s.heap.FunFrames X.base X.stack:=C.inv.stack;have mw:∀e∈X.stack,∀b,e.frame=some b->b∈jU X.stack:=λe he b hb=>lL.mpr ⟨e,he,hb⟩;have after:∀(hs:List Addr) (h':Heap),a∈hs->(∀b∈hs,H b=none/\h0.get? b=none/\∃o ws,s.heap.get? b=some o/\o.data=.fields ws)->Heap.NotedW (PySem.W.hideAll s.heap (hs++jU X.stack)) X.stack a cls a0 (rawInt X.env.locals) s.heap h'->wpAny M A (setFlight (.ref a) none) Q E {s with heap:=h'}:=by
  intro hs h' n hh ⟨k1,k2,k3,k4⟩;refine wpAny_setFlight_noneW (s:={s with heap:=h'}) k1 k2 k3 λh2 j1 j2 j3 j4=>?_
  obtain⟨c1,c2⟩:=C.step hx n hh j1 (λb o e d=>by obtain⟨sl,e1⟩:=k4 b o e d;exact⟨sl,j4 b _ e1 d⟩) j3 λb m=>(j2.mem m).2;exact q _ c1 c2
 rcases h1 with h1|⟨T,oT,ts,h1,r,I,M_,hT,ZV,h3⟩
 ·have L:s.heap.FunFrames (PySem.W.hideAll s.heap ([a]++jU X.stack)) (X.env::X.outer):=by rw[<-cH];exact o_ hk λe he b hb=>dC _ (mw e he b hb)
  unfold noteFrame;simp only[hf];refine aS (gC he hd h1 ?_);rw[ba (by decide)];refine wpAny_entryW (base:=PySem.W.hideAll s.heap ([a]++jU X.stack)) (by rw[hA,cH]) L hf he (λb o z=>mE _ z) (lJ _ (jZ _ (cQ.mpr rfl))) hd (Array.getElem?_eq_some_iff.mp h1).1 g λh' l=>?_
  rw[S,<-cH]at l;refine after [a] h' (cQ.mpr rfl) (λb m=>?_) l;cases cQ.mp m;exact⟨fr,nw,oe,vs,he,hd⟩
 ·have L:s.heap.FunFrames (PySem.W.hideAll s.heap ([a,T]++jU X.stack)) (X.env::X.outer):=by rw[<-cH];exact o_ hk λe he b hb=>dC _ (mw e he b hb)
  refine wpAny_noteFrame_onW (base:=PySem.W.hideAll s.heap ([a,T]++jU X.stack)) (cls:=cls) (a0:=a0) (by rw[hA,cH]) L hf ⟨oe,vs,T,oT,ts,he,⟨S,g⟩,hd,h1,lJ _ (jZ _ (by simp)),r,hT,ZV,h3⟩ (λb o z=>mE _ z) (lJ _ (jZ _ (by simp))) λh' l=>?_
  rw[<-cH]at l;refine after [a,T] h' (by simp) (λb m=>?_) l;simp only[bI,cJ,cK]at m;rcases m with rfl|rfl
  ·exact⟨fr,nw,oe,vs,he,hd⟩
  ·exact⟨M_,I,oT,ts,hT,ZV⟩
theorem IZ(C:Nc X h0 Z H s a cls)(T:XW h0 H s.heap a cls)(hx:X.ex=[])(q:∀s',Nc X h0 Z H s' a cls->XW h0 H s'.heap a cls->ae () s'):wpAny M A (setFlight (.ref a) none) ae E s:=by
 obtain⟨oe,vs,a0,T,oT,ts,n,L,r,S,e5,e6,e7,e8,I,g,l⟩:=T;have hk:s.heap.FunFrames X.base X.stack:=C.inv.stack;have mw:∀e∈X.stack,∀b,e.frame=some b->b∈jU X.stack:=λe he b hb=>lL.mpr ⟨e,he,hb⟩;have hl:s.heap.FunFrames (PySem.W.hideAll s.heap ([a,T]++jU X.stack)) X.stack:=o_ hk λe he b hb=>dC _ (mw e he b hb);refine wpAny_setFlight_noneW (base:=PySem.W.hideAll s.heap ([a,T]++jU X.stack)) (cls:=cls) (a0:=a0) (fl:=.none) (λb o z=>mE _ z) hl ⟨oe,vs,T,oT,ts,n,⟨L,S⟩,r,e5,lJ _ (jZ _ (by simp)),e6,I,g,l⟩ λh2 j1 j2 j3 j4=>?_
 obtain⟨c1,c2⟩:=C.step hx (hs:=[a,T]) (by simp) (λb m=>by
  simp only[bI,cJ,cK]at m;rcases m with rfl|rfl
  ·exact⟨C.GP.fr,C.GP.nw,oe,vs,n,r⟩
  ·exact⟨e8,e7,oT,ts,I,g⟩) j1 (λb o e d=>⟨o.slots,j4 b o e d⟩) j3 λb m=>(j2.mem m).2
 exact q _ c1 c2
def Nc.XX (C:Nc X h0 Z H s a cls)(hx:X.ex=[]):∃oe:Obj,oe.cls=cls/\s.heap.get? a=some oe/\Inv X [] Z (upd H a (.ext λh=>h.get? a=some oe)) s:=by
 obtain⟨⟨oe,vs,a0,he,l,hd,_⟩,fr,nw⟩:=C.GP;have I:=C.inv;refine⟨oe,l,he,I.ok,I.os,I.bare,⟨I.base.keep,I.base.slot,λb o e n hb=>?_,I.base.there,λb ts e=>?_,λb o u e=>?_,λb p e=>?_⟩,I.loc,I.cell,?_,λy c e=>?_,λp hp=>?_,λb u e=>?_,I.len⟩
 ·rw[bo λz=>?_]
  ·exact I.base.free b o e n hb
  ·rw[z,C.old a nw]at e;cases e
 ·rw[bo λz=>?_]
  ·exact I.base.mU b ts e
  ·have q:=I.base.mU b ts e;rw[z,fr]at q;cases q
 ·rw[bo λz=>?_]
  ·exact I.base.lE b o u e
  ·have q:=I.base.lE b o u e;rw[z,fr]at q;cases q
 ·obtain⟨more,q⟩:=I.base.nM b p e;exact⟨more,by rw[bo λz=>(by rw[z,fr]at q;cases q)];exact q⟩
 ·rw[bo λz=>?_]
  ·exact I.free
  ·obtain⟨m,⟨o,es,ep,g,hd2,_⟩,_⟩:=I.loc;rw[z,he]at g;cases g;rw[hd]at hd2;cases hd2
 ·rw[bo λz=>?_]
  ·exact I.gg y c e
  ·obtain⟨v,o,g,hd2⟩:=I.cell y c e;rw[z,he]at g;cases g;rw[hd]at hd2;cases hd2
 ·obtain⟨r,L,M⟩:=I.pin p hp;refine⟨r,?_,M⟩;rw[bo λz=>?_]
  ·exact L
  ·obtain⟨o,e⟩:=C.pn p (by simpa using hp);rw[z,nw]at e;cases e
 ·by_cases z:b=a
  ·subst z;rw[bO]at e;cases e;exact⟨he,⟨oe,he⟩,λS h2 p k=>k _ p⟩
  ·rw[bo z]at e;exact(I.cX b u e).pM (λ_ _ _ q=>q) (λc q=>by rw[bo (bT q fr)];exact q) λc xs q=>by rw[bo (bT q fr)];exact q
theorem Ap{n:Str}(I:Inv X U Z H s)(hN:X.N.Nodup)(hi:X.N[i]?=some n)(hl:X.env.scope.names.lookup n=some .local)(q:∀s',Inv X U (Z.set i none) H s'->ae () s'):wpAny M A (do bindName X.env n .none;unbindBehindTheSuite X.env n pos) ae E s:=by
 obtain⟨m,hn,hlk⟩:=id I.loc;have Gk:(X.env.scope.kind== .class||(X.env.scope.kind== .module&&X.env.locals !=X.env.globals))=false:=by rw[I.ok.kind];rfl
 obtain⟨oL,_,_,F4,_⟩:=id hn;refine wpAny_nameGoes_keeps hl hn Gk λh' v PV hs=>q _ ?_
 have ne:∀b o,X.gD.heap.get? b=some o->b≠X.env.locals:=λb o e=>cc (dg (bA e) I.ok.above);refine⟨I.ok,I.os,I.bare,⟨λb o e n hb L=>?_,λb o e n hb L=>?_,I.base.free,λb o e L=>?_,I.base.mU,I.base.lE,I.base.nM⟩,⟨_,PV,λj y w g S e3=>?_⟩,λy c e=>?_,I.free,I.gg,λp hp=>?_,λb u e=>?_,by rw[kM];exact I.len⟩
 ·exact(hs.2 b (ne b o e)).trans (I.base.keep b o e n hb L)
 ·obtain⟨sl,g⟩:=I.base.slot b o e n hb L;exact⟨sl,(hs.2 b (ne b o e)).trans g⟩
 ·obtain⟨o1,g⟩:=I.base.there b o e L;exact⟨o1,(hs.2 b (ne b o e)).trans g⟩
 ·by_cases hj:j=i
  ·subst hj;have hjl:j<Z.length:=by rw[I.len];exact(gx.mp hi).1
   rw[o9 hjl]at S;cases S
  ·rw[mB (Ne.symm hj)]at S;obtain⟨u,r,l⟩:=hlk j y w g S e3;refine⟨u,r,?_⟩;rcases l with⟨k,e⟩|⟨k,c,e,z⟩
   ·refine .inl ⟨k,?_⟩;have hy:y≠n:=λz=>hj (ud hN g (z▸hi));show(if y=n then v else m y)=some u;rw[ba hy];exact e
   ·exact .inr ⟨k,c,e,z.sameBut hs (I.HQ y c e)⟩
 ·obtain⟨w,z⟩:=I.cell y c e;exact⟨w,z.sameBut hs (I.HQ y c e)⟩
 ·obtain⟨e,n2,ne2,nf,d⟩:=I.pin p hp;exact⟨(hs.2 p.1 ne2).trans e,n2,ne2,nf,d⟩
 ·refine(I.cX b u e).pM (λc w hc z=>(hs.2 c λy=>?_).trans z) (λ_ z=>z) λ_ _ z=>z;subst y;rcases hc with z2|z2
  ·rw[<-z2,I.free]at e;cases e
  ·rw[I.free]at z2;cases z2
end
theorem cL.none:cL K B H Z (List.replicate Z.length .no):=by
 have no:∀(i:Nat) (c:Cell),(List.replicate Z.length Cell.no)[i]?=some c->c=.no:=λi c e=>by
  rw[sW]at e;split at e
  ·exact(Option.some.inj e).symm
  ·cases e
 exact⟨xj,(λi t e=>by cases no i _ e),(λi ts e=>by cases no i _ e),(λi j ts us D _ e=>by cases no i _ e)⟩
def cL.unset {Y:bY}(h:cL K B H Z Y)(n:gF Y)(i:Nat):cL K B H (Z.set i Option.none) (Y.set i .no):=by
 refine⟨by rw[kM,kM];exact h.len,λj t e=>?_,λj ts e=>?_,λj k ts us D _ e=>?_⟩
 ·rcases fU e with⟨_,_,z⟩|⟨b,e⟩
  ·cases z
  ·obtain⟨v,g,r⟩:=h.sh j t e;exact⟨v,by rw[mB b];exact g,r⟩
 ·rcases fU e with⟨_,_,z⟩|⟨b,e⟩
  ·cases z
  ·exact absurd e (n j ts)
 ·rcases fU e with⟨_,_,z⟩|⟨b,e⟩
  ·cases z
  ·exact absurd e (n j ts)
def gF.unset {Y:bY}(h:gF Y)(i:Nat):gF (Y.set i .no):=λj ts e=>by
 rcases fU e with⟨_,_,z⟩|⟨b,e⟩
 ·cases z
 ·exact h j ts e
noncomputable abbrev Cx.kW (X:Cx)(pn:List (Addr×Obj))(E':Value->Shared->Prop):Cx:={X with pn:=pn,xe:=E'}
noncomputable abbrev Cx.qd (X:Cx)(pn:List (Addr×Obj))(e:Value):Cx:={X with A:=X.A.mark (some e),calm:=false,pn:=pn,xe:=fun _ _=>False}
section
variable {pn:List (Addr×Obj)}
theorem Cx.Ok.kW (ok:X.Ok):(X.kW pn E).Ok:=⟨ok.mod,ok.kind,ok.glob,ok.blt,ok.above,ok.inj,ok.has,ok.PU,ok.hd,ok.frames,ok.M7,ok.UU,ok.bs,ok.HP,ok.AS,ok.Cv,ok.rq,ok.JN⟩
def Cx.Ok.me (ok:(X.kW pn E).Ok):X.Ok:=⟨ok.mod,ok.kind,ok.glob,ok.blt,ok.above,ok.inj,ok.has,ok.PU,ok.hd,ok.frames,ok.M7,ok.UU,ok.bs,ok.HP,ok.AS,ok.Cv,ok.rq,ok.JN⟩
theorem Cx.Ok.qd (ok:X.Ok):(X.qd pn af).Ok:=⟨ok.mod,ok.kind,ok.glob,ok.blt,ok.above,ok.inj,ok.has,ok.PU,(λz=>by cases z),ok.frames,ok.M7,ok.UU,ok.bs,ok.HP,ok.AS,ok.Cv,ok.rq,ok.JN⟩
theorem Inv.kW (I:Inv X U Z H s):Inv (X.kW (X.pn++U) E) [] Z H s:=⟨I.ok.kW,I.os,I.bare,I.base,I.loc,I.cell,I.free,I.gg,λp hp=>I.pin p (by simpa using hp),I.cX,I.len⟩
theorem Inv.me (I:Inv (X.kW (X.pn++U) E) [] Z H s):Inv X U Z H s:=⟨I.ok.me,I.os,I.bare,I.base,I.loc,I.cell,I.free,I.gg,λp hp=>I.pin p (by simpa using hp),I.cX,I.len⟩
theorem Inv.qd (I:Inv (X.kW pn E) [] Z H s):Inv (X.qd pn af) [] Z H s:=⟨I.ok.me.qd,I.os,I.bare,I.base,I.loc,I.cell,I.free,I.gg,I.pin,I.cX,I.len⟩
def Inv.Lr (ok:X.Ok)(I:Inv (X.qd (X.pn++U) af) [] Z H s):Inv X U Z H s:=⟨ok,I.os,I.bare,I.base,I.loc,I.cell,I.free,I.gg,λp hp=>I.pin p (by simpa using hp),I.cX,I.len⟩
theorem SP.me {D:Ends}{f:Flow}(h:SP (X.kW (X.pn++U) E) [] D f s):SP X U D f s:=by
 cases f with
 |next=>obtain⟨dF,H',I,q⟩:=h;exact⟨dF,H',I.me,q⟩
 |brk=>obtain⟨dF,H',I,q⟩:=h;exact⟨dF,H',I.me,q⟩
 |cont=>obtain⟨dF,H',I,q⟩:=h;exact⟨dF,H',I.me,q⟩
 |ret u=>obtain⟨v,dF,H',I,r,q⟩:=h;exact⟨v,dF,H',I.me,r,q⟩
end
structure qW(K:Frag)(mg:Str->Option Value)(c:Str)(xs:List Str):Prop where
 mg:mg c=some (.ref (clsAt K c))
 all:∀x∈xs,PySem.W.exmOne K (.ref (clsAt K x)) (.ref (clsAt K c))=some true
noncomputable def XY(N i:Nat)(xs:List Str)(x:Str)(A:Ab)(G2:bY->Ab->Rz Out):Rz Out:=if xs.contains x=true then match G2 ((List.replicate N Cell.no).set i (.sh (.at A.length))) (A++[.Eo x])with
 |.ok (.nx Y) A=>.ok (.nx (Y.set i .no)) A
 |.ok (.ret t) A=>.ok (.ret t) A
 |_=>.bad
 else .bad
def Fm(N i:Nat)(xs:List Str)(r:Rz Out)(G2:bY->Ab->Rz Out):Rz Out:=match r with
 |.ok o A=>.ok o A
 |.exc (.str x) A=>XY N i xs x A G2
 |_=>.bad
section
variable {c:Str}{tp hp:Pos}{G2:bY->Ab->Rz Out}
theorem Qp.XZ {h0 h:Heap}{c:Value}(u:Qp h0 H h a c):PySem.W.Looks (model P w) h (typeOf (.ref a)) c:=by
 obtain⟨⟨b,vs,a0,he,rfl,_⟩,_,_⟩:=u;exact(mR (M:=model P w) (part:=none) he).andThen (f:=λo:Obj=>pure o.cls) .now
theorem Ls(Tc:qW X.K X.mg c ps)(hb:∀pn E',o5 (X.kW pn E') ah (tZ (X.kW pn E') aJ))(hs:∀pn e,o5 (X.qd pn e) (ai::aj) (tZ (X.qd pn e) G2))(hN:X.N.Nodup)(hi:X.N[i]?=some au)(hl:X.env.scope.names.lookup au=some .local)
  (cH:X.stack=X.env::X.outer) (hf:X.env.frame=some X.env.locals) (hx:X.ex=[]) (Nl:zl X au) (hg:Gl X c) (fR:Db c):
  PS X (.Try ah [.ExceptHandler (some (.Name c tp)) (some au) (ai::aj) hp] [] [] pos) (tZ X λY A=>Fm X.N.length i ps (aJ Y A) G2):=by
 intro U s Z H D I ⟨B0,H0,B,A,Y,JH,g,ha,r,no,q⟩;have l:=I.ok;refine wpAny_Try_except (d7 (hb (X.pn++U) _ [] s Z H D I.kW ⟨B0,H0,B,A,Y,JH,g,ha,r,no,?_⟩) (λf s1 h1=>?_) λe s1 z=>z)
 ·have b:iC (XE X B0 H0) (Fm X.N.length i ps (aJ Y A) G2) (Ad X D B0 H0):=q;cases eG:aJ Y A with
  |bad=>rw[eG]at b;exact fe b
  |ok o A1=>rw[eG]at b;cases o<;>exact b
  |exc t A1=>
   rw[eG]at b;cases t with
   |str x=>
    obtain⟨hxs,n⟩:=ir b;intro B' H' g' l7 e s1 xs1;obtain⟨a,ZD,h0,rfl,C⟩:=xs1.cau;refine OP C hx cH hf l.frames λs3 S T3=>?_
    refine wpAny_handleBy_cons (codeAny_handlers_test ?_) (by intro z;cases z);refine xf l.kind hg (Calls.loadGlobal_global (by rw[l.glob];exact l.mod.glob.keeps S.inv.bk) Tc.mg ?_) fR;refine PySem.W.exm_one S.inv.lZ S.GP.XZ (Tc.all x (by simpa using hxs)) _ _ _ s3 (λ_ _ z=>z) ?_
    refine codeAny_handlers_suite_as ?_
    refine IZ S T3 hx λs4 C4 T4=>?_
    refine hide λP go=>?_
    obtain⟨L,hc4,he4,I4⟩:=C4.XX hx;refine go ?_
    have M:H' a=none:=C4.GP.fr;refine xM (X:=X.kW (X.pn++U) _) I4 hN hi (.inl hl) (v:=.ref a) rfl (λs5 I5=>?_) Nl;have g5:=l7.push (p:=a) (o:=.Eo x) M (bj.upd M) ⟨qR,L,bO,hc4⟩;have b9:ZD.length=X.N.length:=C4.inv.len;have r5:cL X.K (pZ B' a A1.length) (upd H' a (.ext λh=>h.get? a=some L)) (ZD.set i (some (.ref a))) ((List.replicate X.N.length Cell.no).set i (.sh (.at A1.length))):=by
     rw[<-b9];exact cL.none.set i (.at iG)
    have no5:gF ((List.replicate X.N.length Cell.no).set i (.sh (.at A1.length))):=gF.set (λj ts z=>by
     rw[sW]at z;split at z<;>cases z) i _
    have key:iC (λ_ _=>False) (G2 ((List.replicate X.N.length Cell.no).set i (.sh (.at A1.length))) (A1++[.Eo x])) λo A2=>match o with
      |.nx Y=>Ad X D B0 H0 (.nx (Y.set i .no)) A2
      |.ret t=>Ad X D B0 H0 (.ret t) A2
      |_=>False:=by
     cases e2:G2 ((List.replicate X.N.length Cell.no).set i (.sh (.at A1.length))) (A1++[.Eo x])with
     |bad=>simp only[e2]at n;exact n
     |exc c1 A2=>simp only[e2]at n;exact n
     |ok o A2=>
      simp only[e2]at n;cases o<;>exact n
    refine d7 (hs (X.pn++U) (.ref a) [] s5 _ _ {nx:=λzt H2=>D.nx (zt.set i none) H2,rt:=D.rt} I5.qd ⟨B0,H0,pZ B' a A1.length,A1++[.Eo x],_,JH,g'.trans JH g5.1,g5.2,r5,no5,?_⟩) (λf s6 h6=>?_) λ_ _ z=>(show False from z).elim
    ·refine(key.imp λ_ _ z=>z.elim).mono λo A2 z=>?_
     cases o with
     |nx jL=>exact λzt B2 H2 g2 p8 r2 n2=>z (zt.set i none) B2 H2 g2 p8 (r2.unset n2 i) (n2.unset i)
     |ret t=>exact z
     |_=>exact z.elim
    ·cases f with
     |next=>
      obtain⟨σ6,H6,I6,q6⟩:=h6;exact Ap (I6.Lr l) hN hi hl λs7 I7=>⟨_,H6,I7,q6⟩
     |ret u=>
      obtain⟨v,σ6,H6,I6,rv,q6⟩:=h6;exact Ap (I6.Lr l) hN hi hl λs7 I7=>⟨v,_,H6,I7,rv,q6⟩
     |_=>obtain⟨_,_,_,z⟩:=h6;exact fe z
   |_=>exact fe b
 ·cases f with
  |next=>exact tY h1.me
  |_=>exact h1.me
end
section
variable {es:List Expr}{E:bY->Ab->Rz Tr}{keys:List (Option Expr)}{P:bY->Ab->Rz (List (Tr×Tr))}
structure Tq(X:Cx)(pos:Pos)(keys:List (Option Expr))(az:List Expr)(P:bY->Ab->Rz (List (Tr×Tr))):Prop where
 h:∃A8,UZ X pos keys az A8/\∀Z H Q,(∃B A Y,HA X.K B A H/\cL X.K B H Z Y/\gF Y/\iC (XE X B H) (P Y A) fun Ss A'=>∀Oj B' H',Grows B H B' H'->HA X.K B' A' H'->yp X.K (cn B' H') Oj Ss->Q Oj H')->xX A8 Z H Q
theorem Lu:Tq X pos [] [] λ_ A=>.ok [] A:=⟨[],Gh,λZ H Q ⟨B,A,Y,ha,r,n,q⟩=>q [] B H .refl ha .nil⟩
def QK(k:Rz Tr)(v:Ab->Rz Tr)(r:Ab->Rz (List (Tr×Tr))):Rz (List (Tr×Tr)):=k.bind λx A=>(v A).bind λy A=>(r A).bind λps A=>.ok ((x,y)::ps) A
theorem Lv(hk:PE X e (tE X aH))(hv:PE X o (tE X aI))(hr:Tq X pos keys az P):Tq X pos (some e::keys) (o::az) λY A=>QK (aH Y A) (aI Y) (P Y):=by
 obtain⟨A8,h1,h2⟩:=hr.h;refine⟨_,CJ hk hv h1,λZ H Q ⟨B,A,Y,ha,r,n,q⟩=>?_⟩;refine⟨B,A,Y,ha,r,n,(iC.bind q).mono λx A1 b u B1 H1 g1 g l=>⟨B1,A1,Y,g,r.grow n g1,n,((iC.bind b).imp λc A' z=>z.grow ha.hb g1).mono λy A2 I w B2 H2 g2 L M=>h2 _ _ _ ⟨B2,A2,Y,L,(r.grow n g1).grow n g2,n,((iC.bind I).imp λc A' z=>z.grow ha.hb (g1.trans ha.hb g2)).mono λps A3 S Oj B3 H3 g3 JI r3=>?_⟩⟩⟩;exact S _ B3 H3 ((g1.trans ha.hb g2).trans ha.hb g3) JI (.cons ((l.same g2.kE).same g3.kE) (M.same g3.kE) r3)
def isE(A:Ab)(i:Nat):Bool:=match A[i]? with
 |some (.bU [])=>true
 |_=>false
def X0(P:Ab->Rz (List (Tr×Tr)))(A:Ab):Rz Tr:=(P (A++[.bU []])).bind λps A2=>if ps.length<=15/\isE A2 A.length=true then(gY (yo ps) A2).bind λbE A2=>.ok (.at A.length) (A2.set A.length (.bU (l9 [] bE)))else .bad
theorem OQ(h:Tq X pos keys az P)(ve:keys.all (·.isSome)=true:=by rfl) (hl:keys.length=az.length:=by rfl) (h0:keys.isEmpty=false:=by rfl) (NN:keys.length<=15:=by decide):PE X (.Dict keys az pos) (tE X λY A=>X0 (P Y) A):=by
 obtain⟨A8,h1,h2⟩:=h.h;refine(Gi h1 ve hl (λz=>by rw[z]at h0;cases h0) NN).weak λZ H Q ⟨B,A,Y,ha,r,n,q⟩ p hp=>?_
 obtain⟨g1,nC⟩:=ha.push (p:=p) (o:=.bU []) hp (bj.upd (o:=.dK []) hp) ⟨qR,[],bO,.nil⟩;have rB:(pZ B p A.length).ix p=some A.length:=iG;refine h2 Z _ _ ⟨_,_,Y,nC,r.grow n g1,n,((iC.bind q).imp λc A' z=>z.grow ha.hb g1).mono λSs A2 g Oj B2 H2 g2 p8 r2=>?_⟩;obtain⟨⟨hz,he⟩,g⟩:=ir g;have I:=g2.kE.x _ _ rB;have L:A2[A.length]?=some (.bU []):=by
  unfold isE at he;split at he
  ·assumption
  ·cases he
 obtain⟨hd,l,e0,M⟩:=(show sq X.K B2 H2 p (.bU [])from p8.get I L);have S:l=[]:=by
  have e:=M.keys;cases l with
  |nil=>rfl
  |cons a b=>cases e
 subst S;cases ep:yo Ss with
 |ok bE=>
  rw[ep]at g;obtain⟨kvs,X1,k1,e1,rd⟩:=z7 (X:=X) (H0:=H2) (k:=λz=>z=bE) r2 (by rw[ep];rfl);subst k1;refine⟨e0,kvs,e1,?_,?_⟩
  ·have e2:=dh List.length e1;rw[bt,r2.length]at e2;rw[<-e2];exact hz
  ·obtain⟨g4,h6⟩:=p8.write (o:=.bU (l9 [] X1)) (u:=.dK (i8 [] kvs)) I ⟨hd,_,bO,by rw[jo hd];exact d5.merge rd d5.nil⟩;exact(show∀v B' H',Grows B H B' H'->HA X.K B' (A2.set A.length (.bU (l9 [] X1))) H'->Rep X.K (cn B' H') v (.at A.length)->Q v H' from g) (.ref p) B2 _ ((g1.trans ha.hb g2).trans ha.hb g4) h6 (.at I)
 |_=>rw[ep]at g;exact fe g
end
section
variable {a b:Expr}{es:List Expr}{ix:List (Option Nat)}{T:o6}
def Fo{Q:VK}(hT:kg T)(q:tF X (λY=>vV ix T aE F (L Y) Y) Z H Q):U1 (tJ X L) ix (Qf X.K T) (Qe X.K aE) (Qd X.K F) Z H (λv H'=>kU X H' (Q v)):=by
 obtain⟨B,Y,hb,r,q⟩:=q;refine⟨B,Y,hb,r,q.bind.mono λts b J H1 g gt D l=>?_⟩;by_cases hz:ts.length<=dU
 ·rw[aX hz]at b;exact wJ hT (wI ix Y) (g.hb hb) gt hz ((g.Iw r).comp ix (kS l)) l (Fi.bind b) λys H' k s' n=>by
   obtain⟨M,S,I,ku⟩:=g.Qs hb s';exact ku _ (k _ M S (I n) λp e=>by cases e;exact .lst (g.free l) (I n))
 ·rw[ba hz]at b;exact b.elim
theorem Lw(Lk:gX X ps ix aw)(hit:PI X tg al (tJ X L))(mw:N1 X aw ps tg o az T aE F)(hT:kg T)(hN:X.N.Nodup:=by assumption) (hc:X.calm=true:=by rfl) (hi:X.N[i]?=some x:=by rfl) (hx:Loc X.env.scope x:=by first|exact Or.inl rfl|exact Or.inr rfl)
  (Ie:swapsWith (.ListComp o [⟨tg,al,az,0⟩] aw pos) (some (.Name x p)) b8.line X.env=pure true:=by rfl) (hs:isSet al=false:=by rfl) (hf:zl X x:=by first|exact .inl rfl|exact .inr rfl|assumption):
  PS X (.Assign [.Name x p] (.ListComp o [⟨tg,al,az,0⟩] aw pos) b8) (tZ X λY A'=>Bk i (wq (vV ix T aE F (L (dM A' Y)) (dM A' Y)) A') Y):=
 (x_ Lk hc hN hi hx hit mw.U5 Ie (ip hs) hf).U8.weak λD Z H ⟨B0,H0,B,A',Y,hb,g,ha,r,n,q⟩=>Fo (Q:=λv H'=>D.nx (Z.set i (some v)) H') hT (sx (F:=λY=>vV ix T aE F (L Y) Y) (p7 (F:=λY A'=>wq (vV ix T aE F (L (dM A' Y)) (dM A' Y)) A') hb g ha r n q.bind λt A2 v B' H' b g' l I M _=>b _ B' H' g' l (I.set i M) (n.set i t)))
end
section
variable {P:bY->Ab->Rz Bool}{hp:Pos}{G2:bY->Ab->Rz Out}
def Ts(r:Rz Tr):Rz Bool:=r.bind λt A=>gY (uz t) A
theorem Tt(h:PE X e (tE X aH))(he:mZ e=true:=by rfl):PT X e (Qq X λY A=>Ts (aH Y A)):=
 (Cy h (yd he)).weak λZ H Q ⟨B,A,Y,ha,r,au,q⟩=>⟨B,A,Y,ha,r,au,q.bind.mono λt A1 b v B1 H1 g1 g l=>by
  obtain⟨o,h1,h2⟩:=yg (l.same fL) (p5 (X:=X) (H:=H1) b);exact⟨o,h1,h2 B1 H1 g1 g⟩⟩
def Tu(r:Rz Bool):Rz Bool:=r.bind λo A=>.ok (!o) A
theorem eq_not(h:PT X e (Qq X P)):PT X (.UnaryOp .Not e pos) (Qq X λY A=>Tu (P Y A)):=
 (JS h).weak λZ H Q ⟨B,A,Y,ha,r,au,q⟩=>⟨B,A,Y,ha,r,au,q.bind⟩
variable {st:Stmt}
def X2:PE X e (tP X λ_=>.bad):=λ_ _ _ _ _ _ ⟨_,_,_,_,q⟩=>(show False from q).elim
def X3:PS X st (tS X λ_=>.bad):=λ_ _ _ _ _ _ ⟨_,_,_,_,_,_,_,q⟩=>(show False from q).elim
end
open PySem.W
structure Bz(K:Frag)(D:Addr):Prop where
 ga:findIn K (.ref D) "__getattribute__"=some (some (.builtin "BaseException.__getattribute__"))
 gh:findIn K (.ref D) "__getattr__"=some none
 cl:findIn K (.ref D) "__class__"=some (some (.builtin "object.__class__"))
 ob:mroIn K D (.type "object")=some true
 be:mroIn K D (.type "BaseException")=some true
section
variable {g:Array GenState}{d:Drawn}{t:Nat}{os:OsState}{o:Obj}{K:Frag}
theorem Tv(G:Bz K ar)(X:K.In aa)(q:aa.get? a=some o)(hc:o.cls=.ref ar)(hq:av (.ok (.ret (.ref ar))) ⟨aa,g,d,t,os⟩):
  codeAny (model P w) A (.call (.builtin "getset_descriptor.__get__") ⟨[.builtin "object.__class__",.ref a,af],[]⟩) av ⟨aa,g,d,t,os⟩:=by
 have b:(⟨aa,g,d,t,os⟩:Shared).TypeIs (.builtin "object.__class__") "getset_descriptor":=xn;have l:Looks (model P w) aa (typeOf (.ref a)) (.ref ar):=hc▸(mR q).andThen .now;have n:Looks (model P w) aa (isSubtype (.ref ar) (.type (".".intercalate ("object.__class__".cutAt '.').dropLast))) true:=by rw[show".".intercalate ("object.__class__".cutAt '.').dropLast="object" by decide+kernel];exact looks_mroIn X G.ob
 refine xq F.slot_gs_get.plain F.entry_gs_get (F.slot_gs_get.check _ _ _ _ _ _ _ _ b (F.args_gs_get _ _ _) ?_)
 repeat(any_goals (first|assumption|(with_reducible refine l.at ?_)|(with_reducible refine n.at ?_)|wp_step))
 refine⟨Code.quiet_builtin _ (by decide+kernel),f9 F.entry_object_class ?_⟩
 repeat(any_goals (first|assumption|(with_reducible refine l.at ?_)|wp_step))
theorem Lx{tk:Tok}{Q:Fin->Shared->Prop}(G:Bz K ar)(X:K.In aa)(q:aa.get? a=some o)(hc:o.cls=.ref ar)(hq:Q (.done (.ret (.ref ar))) ⟨aa,g,d,t,os⟩):
  wpAny (model P w) A (Builtin.«object.__getattribute__» ⟨[.ref a,.str "__class__" tk],[]⟩) Q E ⟨aa,g,d,t,os⟩:=by
 have b:Looks (model P w) aa (typeOf (.ref a)) (.ref ar):=hc▸(mR q).andThen .now;have l:=t8 (M:=model P w) X G.cl;have n:(⟨aa,g,d,t,os⟩:Shared).TypeIs (.builtin "object.__class__") "getset_descriptor":=xn;have r:=xn;have I:=F.slot_gs_get.lookup;have L:=F.slot_gs_set.lookup
 repeat(any_goals (first|assumption|(with_reducible refine b.at ?_)|(with_reducible refine l.at ?_)|wp_step))
 refine Tv G X q hc ?_
 repeat(any_goals (first|assumption|wp_step))
theorem Ly{M:Model}(G:Bz K ar)(X:K.In aa)(q:aa.get? a=some o)(hc:o.cls=.ref ar)(hq:ae () ⟨aa,g,d,t,os⟩):wpAny M A (checkBuiltinCall "BaseException.__getattribute__" ⟨[.ref a,af],[]⟩) ae E ⟨aa,g,d,t,os⟩:=by
 have b:Looks M aa (typeOf (.ref a)) (.ref ar):=hc▸(mR q).andThen .now;have l:=looks_mroIn (M:=M) X G.be;have k1:builtinKind "BaseException.__getattribute__"=some .slot:=by decide+kernel
 have k2:splitId "BaseException.__getattribute__"=some ("BaseException","__getattribute__"):=by decide+kernel
 have n:=F.args_bexc_ga (.ref a) af;simp only[checkBuiltinCall,k1,k2];refine aS ?_
 unfold isInstance
 repeat(any_goals (first|assumption|(with_reducible refine b.at ?_)|(with_reducible refine l.at ?_)|wp_step))
theorem OR{tk:Tok}(G:Bz K ar)(X:K.In aa)(q:aa.get? a=some o)(hc:o.cls=.ref ar)(hq:av (.ok (.ret (.ref ar))) ⟨aa,g,d,t,os⟩):
  codeAny (model P w) A (.call (.builtin "BaseException.__getattribute__") ⟨[.ref a,.str "__class__" tk],[]⟩) av ⟨aa,g,d,t,os⟩:=
 xq (by decide+kernel) F.entry_bexc_ga (Ly G X q hc (Lx G X q hc hq))
theorem X4{tk:Tok}(FB:Slot "ValueError" "__getattribute__" "BaseException.__getattribute__")(G:Bz K ar)(X:K.In aa)(q:aa.get? a=some o)(hc:o.cls=.ref ar)(hq:Q (.ref ar) ⟨aa,g,d,t,os⟩):
  wpAny (model P w) A (getAttrBy (.ref a) (.str "__class__" tk) false) Q E ⟨aa,g,d,t,os⟩:=by
 have b:Looks (model P w) aa (typeOf (.ref a)) (.ref ar):=hc▸(mR q).andThen .now;have l:=t8 (M:=model P w) X G.ga;have L2:=t8 (M:=model P w) X G.gh;have n:=FB.bind (.ref a);have k0:onTheHeap (Value.builtin "BaseException.__getattribute__")=false:=rfl;have k2:(Value.builtin "BaseException.__getattribute__"==Value.builtin "object.__getattribute__")=false:=by decide+kernel
 have k1:(onTheHeap (Value.ref ar)&&Value.builtin "BaseException.__getattribute__"==Value.builtin "object.__getattribute__")=false:=by rw[k2];rfl
 repeat(any_goals (first|assumption|(with_reducible refine b.at ?_)|(with_reducible refine l.at ?_)|(with_reducible refine L2.at ?_)|wp_step))
 refine OR G X q hc ?_
 repeat(any_goals (first|assumption|wp_step))
def OS(FB:Slot "ValueError" "__getattribute__" "BaseException.__getattribute__")(G:Bz K ar)(X:K.In aa)(q:aa.get? a=some o)(hc:o.cls=.ref ar)(hq:aK (some (.ref ar)) ⟨aa,g,d,t+1,os⟩):
  wpAny (model P w) A (getAttr? (.ref a) "__class__") aK E ⟨aa,g,d,t,os⟩:=by
 unfold getAttr? getAttrBy?
 repeat(any_goals (first|assumption|with_reducible apply X4 FB G X q hc|wp_step))
theorem Lz(G:Bz K ar)(Gk:(clsIn K ar).isSome=true):KitX K (.ref a) (.ref ar) (λaa=>∃o,aa.get? a=some o/\o.cls=.ref ar) where
 ty:=λM aa X ⟨o,b,l⟩=>l▸(mR b).andThen .now
 it:=λM aa X _=>by
  unfold clsIn at Gk;split at Gk
  ·rename_i S d' r Vu I;intro A' Q' E' s' k q;unfold isType loadHead;exact aS (wpAny_loadPart (k _ _ (X _ _ I)) (bg q))
  ·cases Gk
 ne:=λaa tp dd cw n sl X L=>by
  refine Bool.eq_false_iff.mpr λq=>?_
  have e:ar=tp:=Value.ref.inj (fo.mp q);subst e;unfold clsIn at Gk;split at Gk
  ·rename_i S d' r Vu I;cases(X _ _ I).symm.trans L
  ·cases Gk
 ca:=λ{P w A E Q s} X ⟨o,b,l⟩ k=>by
  obtain⟨aa,g,d,t,os⟩:=s;exact OS F.excAttr_ValueError.ga G X b l k
end
structure iZ(K:Frag)(u:Value)(tab:List (Str×Bool)):Prop where
 all:∀x b,tab.lookup x=some b->kitOne K (.ref (clsAt K x)) u=some b/\Bz K (clsAt K x)/\(clsIn K (clsAt K x)).isSome=true
noncomputable def I0(tab:List (Str×Bool)):Tr->Rs Tr
 |.zU x=>match tab.lookup x with
  |some b=>.ok (.bl b)
  |none=>.bad
 |_=>.bad
section
variable {p2:Pos}{c:Str}{tab:List (Str×Bool)}{cv:V}
theorem DE(T:iZ X.K af tab)(hu:∀u',RelV cv u'->u'=af):gP X (.builtin "isinstance") (λxs H Q=>∃B y t,HB B H/\xs=[y,cv]/\Rep X.K (cn B H) y t/\Fi X H (I0 tab t) λt=>∀v H',bj H H'->Rep X.K (cn B H') v t->Q v H'):=by
 intro U s Z H xs us Q I r ⟨B,y,t,hb,ex,L,q⟩;subst ex;obtain⟨v,M,rfl,r1,r2⟩:=vals2 r;cases hu M r2;cases L with
 |@zU a n x h S=>
  cases r1;have g:=q;unfold I0 at g;dsimp only at g;cases l:tab.lookup x with
  |none=>rw[l]at g;exact fe g
  |some b=>
   rw[l]at g;obtain⟨k1,k2,k3⟩:=T.all x b l;obtain⟨ho,_⟩:=(show cY X.prog X.w H s.heap a (.ext λh=>h.get? a=some n)from I.cX a _ (d8 h));exact fm (Lz k2 k3) I.lZ ⟨n,ho,S⟩ k1 (λz=>nomatch z) λtk=>⟨.bl b,H,I.tok _,rfl,(show∀v H',bj H H'->Rep X.K (cn B H') v (.bl b)->Q v H' from g) _ H (bj.refl H) (.bl b)⟩
 |_=>exact fe q
def DF(hv:PE X (.Name c p2) (tC cv))(he:PE X e (tP X F))(cH:isStar e=false):PA X [e,.Name c p2] (λZ H Q=>∃B Y,HB B H/\cL X.K B H Z Y/\Fi X H (F Y) λt=>∀v H',bj H H'->Rep X.K (cn B H') v t->Q [v,cv] H'):=
 (lO he (lO hv r_ (bL _ _ rfl)) (bL _ _ cH)).weak λZ H Q ⟨B,Y,hb,r,q⟩=>⟨B,Y,hb,r,q.mono λt b v H1 s1 g=>b v H1 s1 g⟩
theorem Tw(T:iZ X.K (.ref (clsAt X.K c)) tab)(hm:X.mg c=some (.ref (clsAt X.K c)))(hi:X.mg "isinstance"=none)(he:PE X e (tP X F))(hg:Gl X c:=by rfl) (LA:Gl X "isinstance":=by rfl) (fR:Db c:=by decide) (cH:bC [e,.Name c p2]=true:=by rfl):
  PE X (.Call (.Name "isinstance" p) [e,.Name c p2] [] pos) (tP X λY=>(F Y).bind (I0 tab)):=
 (pO (DE (cv:=.ref (clsAt X.K c)) T λu' z=>z) LA hi rfl (DF (AW (v:=.ref (clsAt X.K c)) hg hm rfl fR) he (bp cH).1) (by decide) (by decide) (bL _ _ (bp cH).1) (cS (bp cH).2)).weak λZ H Q ⟨B,Y,hb,r,q⟩=>⟨B,Y,hb,r,q.bind.mono λt b v H1 s1 rv=>⟨B,v,t,hb.same s1,rfl,rv,(b.same s1).mono λt k v H2 s2 g=>k v H2 (s1.trans s2) g⟩⟩
theorem Tx(T:iZ X.K (.type ax) tab)(hm:X.mg c=none)(hi:X.mg "isinstance"=none)(he:PE X e (tP X F))(hv:bootBuiltins c=some (.type ax):=by rfl) (hg:Gl X c:=by rfl) (hn:c≠"__name__":=by decide) (LA:Gl X "isinstance":=by rfl) (fR:Db c:=by decide) (cH:bC [e,.Name c p2]=true:=by rfl):
  PE X (.Call (.Name "isinstance" p) [e,.Name c p2] [] pos) (tP X λY=>(F Y).bind (I0 tab)):=
 (pO (DE (cv:=.ty ax) T λu' z=>z) LA hi rfl (DF (F5 (v:=.ty ax) hg hm hv rfl hn fR) he (bp cH).1) (by decide) (by decide) (bL _ _ (bp cH).1) (cS (bp cH).2)).weak λZ H Q ⟨B,Y,hb,r,q⟩=>⟨B,Y,hb,r,q.bind.mono λt b v H1 s1 rv=>⟨B,v,t,hb.same s1,rfl,rv,(b.same s1).mono λt k v H2 s2 g=>k v H2 (s1.trans s2) g⟩⟩
end
noncomputable def rO:List Tr->Option (List Int)
 |[]=>some []
 |.int i::ts=>(rO ts).map λr=>i::r
 |_=>none
theorem Aq{W:Vw}:∀{vs:List V} {ts:List Tr} {ns:List Int},bP K W vs ts->rO ts=some ns->vs=ns.map V.int
 |[],[],ns,_,e=>by cases e;rfl
 |[],_::_,_,h,_=>by cases h
 |v::vs,ts,ns,h,e=>by
  cases h with
  |cons h r=>
   cases h with
   |int i=>
    rename_i ts;have b:(rO ts).map (λr=>i::r)=some ns:=e;cases q:rO ts with
    |none=>rw[q]at b;cases b
    |some rs=>
     rw[q]at b;cases b;rw[Aq r q];rfl
   |_=>cases e
noncomputable def rP(ns:List Int):Int:=ns.getD (argBest (λi j=>decide (ns.getD i 0>ns.getD j 0)) (ns.length - 1)) 0
def LB:List Tr->Rs Tr
 |[.lst ts]=>match rO ts with
  |some ns=>if 0<ns.length then .ok (.int (rP ns))else .bad
  |none=>.bad
 |[.int i,.int j]=>.ok (.int (if j>i then j else i))
 |_=>.bad
section
theorem I_(hc:X.calm=true):gP X (.builtin "max") (λxs H Q=>∃(a:Addr) (ns:List Int),xs=[.ref a]/\l0 X.K H a (ns.map V.int)/\0<ns.length/\Q (.int (rP ns)) H):=by
 intro U s Z H xs us Q I r h;obtain⟨a,ns,rfl,ha,h8,q⟩:=h;obtain⟨u,rfl,g⟩:=vals1 r;cases(show u=Value.ref a from g);obtain⟨cw,rv,pl,_⟩:=I.list ha;have l:cw.length=ns.length:=by have e:=rv.length;rw[bt]at e;exact e.symm
 have L:∀(i:Nat) (v:Value),cw.toArray[i]?=some v->∃t,v=.int (ns.getD i 0) t:=λi v hv=>by
  have M:cw[i]?=some v:=by simpa using hv
  have hi:i<ns.length:=by rw[<-l];exact(gx.mp M).1
  obtain⟨u,S,g⟩:=rv.get (i:=i) (x:=V.int ns[i]) (by rw[ck,b_ hi];rfl);rw[M]at S;cases S;obtain⟨t,rfl⟩:=(show∃t,v=Value.int ns[i] t from g);exact⟨t,by rw[eM,b_ hi];rfl⟩
 have n:=pl.isList;have hZ:a<s.heap.objs.size:=by obtain⟨_,e,_⟩:=n;exact bA e
 refine call_max_walk (mL n ?_);refine⟨_,_,_,_,_,_,_,rfl,Walks.list (A:=X.A.in1) (I.ok.hd hc) _ a (cc hZ) cw.toArray,⟨⟨_,cy _ rfl,rfl,rfl⟩,n.push _⟩,λb hb=>?_,by simpa[l]using h8,CmpOf.ints_gt (λi=>ns.getD i 0) L,λv h' tk hP hk=>?_⟩
 ·show b<(s.heap.push _).objs.size;rw[jw];rcases bI.mp hb with rfl|hb
  ·exact pq _
  ·rw[cQ.mp hb];exact lM hZ
 ·obtain⟨t,rfl⟩:=L _ v hP;have e:cw.toArray.size=ns.length:=by rw[cU];exact l
  rw[e];refine⟨.int (rP ns),H,I.kept (t':=tk) λb o e=>?_,⟨t,rfl⟩,q⟩;refine hk b o (λhm=>?_) (bS _ e);rw[cQ.mp hm]at e;exact absurd (bA e) (fb _)
def LC(q:Fi X H (LB ts) aA):(∃us ns,ts=[.lst us]/\rO us=some ns/\0<ns.length/\aA (.int (rP ns)))\/∃i j:Int,ts=[.int i,.int j]/\aA (.int (if j>i then j else i)):=by
 unfold LB at q;split at q
 ·rename_i us;cases e:rO us with
  |none=>rw[e]at q;exact fe q
  |some ns=>
   rw[e]at q;obtain⟨h0,z⟩:=iq q;exact .inl ⟨us,ns,rfl,e,h0,z⟩
 ·exact .inr ⟨_,_,rfl,q⟩
 ·exact fe q
theorem X5(hc:X.calm=true):lQ X (.builtin "max") LB:=by
 intro U s Z H xs us Q I b ⟨B,ts,hb,r,q⟩;rcases LC q with⟨g,ns,rfl,e,h0,k⟩|⟨i,j,rfl,k⟩
 ·obtain⟨x,rfl,h⟩:=gm r;obtain⟨a,vs,rfl,h,rr⟩:=h.lst_inv;cases Aq rr e;exact I_ hc U s Z H _ us Q I b ⟨_,ns,rfl,.of (d8 h),h0,k _ H (bj.refl H) (.int _)⟩
 ·obtain⟨x,y,e,h1,h2⟩:=zW r;exact HY hc U s Z H _ us Q I b ⟨i,j,by rw[e,h1.int_inv,h2.int_inv],k _ H (bj.refl H) (.int _)⟩
variable {l:Expr}{p1 p2 Xw Xx:Pos}
def DG(q:Fi X H (qa aB) aA):∃ts ss,aB=.lst ts/\oP ts=some ss/\ss.length<64/\aA (.lst ((c_ (eW [] ss)).map .str)):=by
 unfold qa at q;split at q
 ·rename_i ts;cases e:oP ts with
  |none=>rw[e]at q;exact fe q
  |some ss=>
   rw[e]at q;obtain⟨h0,z⟩:=iq q;exact⟨ts,ss,rfl,e,h0,z⟩
 ·exact fe q
theorem yI:∀(xs ss:List Str),(eW ss xs).length<=ss.length+xs.length
 |[],ss=>bu _
 |x::xs,ss=>by
  have b:=yI xs (gU ss x);have h2:=yy ss x;show(eW (gU ss x) xs).length<=_;rw[dw];omega
def Fp{ss:List Str}(h:au∈gU ss x):au∈ss\/au=x:=by
 unfold gU at h;split at h
 ·exact .inl h
 ·rcases dm.mp h with h|h
  ·exact .inl h
  ·exact .inr (cQ.mp h)
theorem yJ:∀{xs ss:List Str} {z:Str},z∈eW ss xs->z∈ss\/z∈xs
 |[],ss,z,h=>.inl h
 |x::xs,ss,z,h=>by
  rcases yJ (xs:=xs) (ss:=gU ss x) h with h|h
  ·rcases Fp h with h|h
   ·exact .inl h
   ·exact .inr (bI.mpr (.inl h))
  ·exact .inr (cx _ h)
theorem Tz(hs:X.mg "sorted"=none)(hm:X.mg "set"=none)(hl:PE X l (tP X F))(hc:X.calm=true:=by rfl) (hg:Gl X "sorted":=by rfl) (LA:Gl X "set":=by rfl) (cH:bC [l]=true:=by rfl):
  PE X (.Call (.Name "sorted" p1) [.Call (.Name "set" p2) [l] [] Xx] [] Xw) (tP X λY=>(F Y).bind qa):=
 (pO (yA hc) hg hs rfl (lO (vh (IL hc) LA hm rfl (lO hl r_ (bL _ _ (bp cH).1)) (by decide) (by decide) (bL _ _ (bp cH).1) (cS (bp cH).2)) r_ (bL _ _ rfl)) (by decide) (by decide) (bL _ _ rfl) (cS (es:=[]) rfl)).weak λZ H Q ⟨B,Y,hb,r,q⟩=>⟨B,Y,hb,r,q.bind.mono λt g v H1 s1 n=>by
  obtain⟨ts,ss,rfl,I,S,k⟩:=DG g;cases n with
  |lst h L=>
   obtain⟨rfl,hs⟩:=vz L I;refine⟨_,ss,rfl,.of (d8 h),?_,λa M=>⟨a,eW [] ss,rfl,bO,?_,λD b=>?_⟩⟩
   ·have:scanBound=9007199254740992\/ss.length+1<scanBound:=by
     right;show ss.length+1<scanBound;have NP:65<scanBound:=by decide
     omega
    rcases this with h|h
    ·omega
    ·exact h
   ·have:=yI ss [];simp at this;omega
   ·have s2:bj H1 (upd H1 a (IJ X.w a (eW [] ss))):=bj.upd M;have s3:bj (upd H1 a (IJ X.w a (eW [] ss))) (upd (upd H1 a (IJ X.w a (eW [] ss))) D (.lst ((c_ (eW [] ss)).map V.str))):=bj.upd b;exact k _ _ ((s1.trans s2).trans s3) (.Bf ((hb.same s1).same s2) b (yF λz hz=>hs z ((yJ hz).resolve_left (by simp))))⟩
end
def aba:V->List V->Hp->VK->Prop:=λx xs H Q=>∃a b kvs more,x=.ref a/\xs=[.ref b]/\a≠b/\H a=some (.dK kvs)/\Rd H b (.dK more)/\kvs.length+more.length<=sizeLine/\Q .cu (upd H a (.dK (i8 kvs more)))
theorem Ja:RD X "dict.update" aba:=by
 intro U s Z H x xs v us Q I L M ⟨a,b,kvs,more,S,e2,EW,ha,hb,hz,q⟩;subst S e2;obtain⟨u,rfl,ru⟩:=vals1 M;cases L;cases(show u=Value.ref b from ru);obtain⟨z1,s1,l,r1,r⟩:=(show cY X.prog X.w H s.heap a (.dK kvs)from I.cX a _ ha);obtain⟨z2,s2,n,r2,d2⟩:=(show cY X.prog X.w H s.heap b (.dK more)from hb.ok I.cX);refine jy PySem.F.slot_dict_update r.typeIs PySem.F.entry_dict_update (PySem.F.args_dict_update_2 _ _) (meets_dict_update (cp X.prog X.w) a b EW s2) ⟨l,n,r,d2,by rw[<-KV.length r1,<-KV.length r2];exact hz,λh' g _ hs=>?_⟩;have he:∃q,h'.get? a=some q:=let⟨q,_,_,hq,_⟩:=g;⟨q,hq⟩
 have hl:(i8 kvs more).length<=sizeLine:=cC (by have:=jm more kvs;omega) hz;exact⟨.cu,_,uu I (by rw[ha];exact True.intro) hs he (xW hl s1 (r2.merge r1) g),rfl,q⟩
def X6(o:Rz Tr)(k:Ab->Rz Tr):Rz Tr:=o.bind λt A=>match t with
 |.at i=>if m7 A i=true then(k A).bind λb A=>match b with
  |.bU E2=>if m7 A i=true/\(oZ A i).length+E2.length<=dU then .ok .cu (A.set i (.bU (l9 (oZ A i) E2)))else .bad
  |_=>.bad
  else .bad
 |_=>.bad
theorem X7(ho:PE X o (tE X aH))(he:PE X e (tE X aI))(hb:isCall o=false:=by rfl) (cH:bC [e]=true:=by rfl) (hl:(b8.endLine==p.line)=true:=by rfl):PE X (.Call (.Attribute o "update" b8) [e] [] p) (tE X λY A=>X6 (aH Y A) (aI Y)):=
 (Gd qL PySem.F.slot_dict_update PySem.F.type_dict_update Ja ho (GR he KZ (bp cH).1) (gE hb) (by rw[jB cH];rfl) hl (bL _ _ (bp cH).1) (cS (bp cH).2)).weak λZ H Q ⟨B,A,Y,ha,r,n,q⟩=>⟨B,A,Y,ha,r,n,q.bind.mono λt A1 I v B1 H1 g1 S rv=>by
  split at I
  ·obtain⟨a,rfl,rB⟩:=rv.nP;rename_i i;obtain⟨hd,q2⟩:=ir I;obtain⟨bE,kvs,e1,e2,e3,e4⟩:=qV S rB hd;refine⟨.inr (.inr (.inl ⟨rfl,.inl ⟨_,e3⟩⟩)),B1,A1,Y,S,r.grow n g1,n,?_⟩;have l:=(iC.bind q2).imp (λc A' (z:XE X B H c A')=>z.grow ha.hb g1);have step:iC (XE X B1 H1) (GQ (aI Y A1) λA=>.ok [] A) (λts A2=>∃L,ts=[L]/\iC (XE X B H) (match L with
     |.bU E2=>if m7 A2 i=true/\(oZ A2 i).length+E2.length<=dU then .ok .cu (A2.set i (.bU (l9 (oZ A2 i) E2)))else .bad
     |_=>.bad) λt A'=>∀v B' H',Grows B H B' H'->HA X.K B' A' H'->Rep X.K (cn B' H') v t->Q v H'):=by
    cases eg:aI Y A1 with
    |ok x A2=>rw[eg]at l;exact⟨x,rfl,l⟩
    |_=>rw[eg]at l;exact l
   refine step.mono λts A2 ⟨L,et,M⟩ vs B2 H2 g2 p8 rs=>?_
   subst et;obtain⟨y,rfl,ry⟩:=gm rs;have By:=g2.kE.x _ _ rB;split at M
   ·obtain⟨b,g,rfl,hm,em,rm⟩:=ry.nO;rename_i E2 _;obtain⟨⟨hd2,hz⟩,q4⟩:=ir M;obtain⟨Tj,Lp,f1,f2,f3,f4⟩:=qV p8 By hd2;rw[Bx f1]at hz q4;have EW:a≠b:=λz=>by
     have n:(cn B2 H2).H a=none:=by show(if B2.hd a=true then none else H2 a)=none;rw[aX f2]
     rw[<-z]at hm;rcases hm with h|⟨o,h⟩<;>(rw[n]at h;cases h)
    have b9:g.length=E2.length:=by have:=dh List.length em;rw[bt,bt]at this;exact this
    obtain⟨g4,h6⟩:=p8.write (o:=.bU (l9 Tj E2)) (u:=.dK (i8 Lp g)) By ⟨f2,_,bO,by rw[jo f2];exact d5.merge ⟨em,rm⟩ f4⟩;exact⟨a,b,Lp,g,rfl,rfl,EW,f3,hm.same bM,by rw[f4.length,b9,<-jO];exact hz,q4 .cu B2 _ ((g1.trans ha.hb g2).trans ha.hb g4) h6 .cu⟩
   ·exact M.elim
  ·exact I.elim⟩
def Itk(ks:List Str):It:=⟨λi _=>i<ks.length,λi H x H'=>H'=H/\∃z,ks[i]?=some z/\x=.str z,λi _=>ks.length<=i⟩
theorem Fq(a it:Addr)(kvs:List (Str×Value))(o:Obj)(es:Array DictEntry)(ep:Nat)(lk:K.lookup a=some o)(ex:o.ExactDict)(hd:o.data=.dict es ep)(hk:KeysOf (PySem.strKind P w) es/\Pairs (PySem.strKind P w) es.toList kvs/\(kvs.map (·.1)).Nodup):Turn P w K tg (Itk (kvs.map (·.1))) [it] it (λi h=>h.IsKeyIter it a i kvs.length ep) where
 mem:=by simp
 obj:=λi h st b hb=>by
  have e:b=it:=by simpa using hb
  subst e;obtain⟨o,e,c,d⟩:=st;exact⟨o,e,λv z=>by rw[d]at z;cases z⟩
 keep:=λi h h' st k=>by
  obtain⟨o,e,c⟩:=st;exact⟨o,k it (by simp) o e,c⟩
 item:=by
  intro X l hw n hc i U s Z H E I hf st r;subst l hw n;have hi:i<kvs.length:=by have q:i<(kvs.map (·.1)).length:=r;rw[bt]at q;exact q
  have L:s.heap.get? a=some o:=I.lZ a o lk;obtain⟨f0,f1,f2,M,f4,S⟩:=hf it (by simp);have g:kvs[i]?=some (kvs[i].1,kvs[i].2):=by simp[hi]
  refine wpAny_pyNext_dict_item (knd:=PySem.strKind X.prog X.w) st ⟨o,es,L,ex,hd,hk⟩ g λkey h' hk1 xN sb=>?_
  have I1:Inv X U Z H {s with heap:=h'}:=I.turned (t':=s.toks) (λb o hb e=>(sb.2 b hb).trans e) f0 f1 M f4 S;obtain⟨oi,e,c,d⟩:=id xN;refine⟨key,rfl,zL (s:={s with heap:=h'}) e c d (by decide) ⟨.str kvs[i].1,H,I1,?_,⟨rfl,kvs[i].1,by rw[ck,g];rfl,rfl⟩,xN,λb hb=>(hf b hb).1⟩⟩;exact vy (k:=.inr kvs[i].1) hk1
 done:=by
  intro X l hw n hc i U s Z H E I hf st r;subst l hw n;have hi:kvs.length<=i:=by have q:(kvs.map (·.1)).length<=i:=r;rw[bt]at q;exact q
  have L:s.heap.get? a=some o:=I.lZ a o lk;obtain⟨f0,f1,f2,M,f4,S⟩:=hf it (by simp);exact wpAny_pyNext_dict_end (knd:=PySem.strKind X.prog X.w) (I.ok.hd hc) st ⟨o,es,L,ex,hd,hk⟩ (List.getElem?_eq_none hi) λh' eb=>⟨rfl,I.turned (t':=s.toks) (λb o hb e=>eb b o hb e) f0 f1 M f4 S⟩
 self:=λ_ _ _ _ _ st h=>wpAny_pyIter_keyiter st h
def BA(K:Frag)(w:World)(mg:Str->Option Value)(x:Str)(ks:List Str):Prop:=∃a kvs,mg x=some (.ref a)/\CN K w a kvs/\kvs.map (·.1)=ks/\∀z∈ks,z.length<=cZ
theorem TB(T:BA X.K X.w X.mg x ps)(hg:Gl X x:=by rfl) (fR:Db x:=by decide):PI X tg (.Name x p) (tI X λ_=>.ok (ps.map .str)):=by
 obtain⟨a,kvs,hm,⟨hs,o,es,ep,lk,ex,hd,g⟩,rfl,hz⟩:=T;intro U s Z H R I ⟨B,Y,hb,r,q⟩;refine qM I hg hm ?_ fR
 have n:s.heap.get? a=some o:=I.lZ a o lk;refine wpAny_pyIter_dict (knd:=PySem.strKind X.prog X.w) hs ⟨o,es,n,ex,hd,g X.prog⟩ ?_
 refine⟨s.heap.objs.size,[s.heap.objs.size],_,Itk (kvs.map (·.1)),H,rfl,I.kept (t':=s.toks) λb o e=>bS _ e,Fq a _ kvs o es ep lk ex hd (g X.prog),⟨_,cy _ rfl,rfl,rfl⟩,λb hb=>?_,?_⟩
 ·have e:b=s.heap.objs.size:=by simpa using hb
  subst e;exact I.zr (bu _) (I.cX.fresh (bu _))
 ·refine(show∀J H',bj H H'->oM X.K B J H' ((kvs.map (·.1)).map .str)->R J H' from q) _ H (bj.refl H) ⟨λi B' H' hi _ _=>?_,λi B' H' y S hi s2 Ow ⟨L,z,l,M⟩=>?_,λB' H' _=>?_⟩
  ·have e:i<((kvs.map (·.1)).map Tr.str).length:=hi;rw[bt]at e;exact e
  ·subst L M;exact⟨bj.refl _,.str z,by rw[ck,l];rfl,.str z (hz z (d6 l))⟩
  ·show(kvs.map (·.1)).length<=((kvs.map (·.1)).map Tr.str).length;rw[bt (f:=Tr.str)];exact bu _
noncomputable def BB:Heap:={}
def qe(b:Addr):BB.get? b=none:=by
 cases e:BB.get? b with
 |none=>rfl
 |some o=>exact absurd (bA e) (xA _)
noncomputable def Fs(h:Heap)(L:Addr):List (Addr×Obj):=(List.range h.objs.size).filterMap λb=>if b=L then none else(h.get? b).map λo=>(b,o)
def Ft{o:Obj}:(ar,o)∈Fs aa a↔ar≠a/\aa.get? ar=some o:=by
 unfold Fs;rw[lL];constructor
 ·rintro ⟨c,_,e⟩
  by_cases z:c=a
  ·rw[aX z]at e;cases e
  ·rw[ba z]at e;cases q:aa.get? c with
   |none=>rw[q]at e;cases e
   |some u=>rw[q]at e;cases e;exact⟨z,q⟩
 ·rintro ⟨n,e⟩
  exact⟨ar,tX.mpr (bA e),by rw[ba n,e];rfl⟩
theorem Inv.LD {m:Str->Option Value}{h':Heap}{tk:Nat}(I:Inv X U Z H s)(hn0:s.heap.Ns X.env.locals m)(hn:h'.Ns X.env.locals m)(kp:∀b o,b≠X.env.locals->s.heap.get? b=some o->h'.get? b=some o):Inv X U Z H {s with heap:=h',toks:=tk}:=by
 obtain⟨m0,L,hl⟩:=id I.loc;have HQ:=I.HQ;have lo:∀{b:Addr} {o:Obj},X.gD.heap.get? b=some o->b≠X.env.locals:=λ{b o} e=>cc (dg (bA e) I.ok.above);have em:m0=m:=by
  obtain⟨o1,wt,ep1,a1,b1,_,d1⟩:=L;obtain⟨o2,es2,ep2,a2,b2,_,d2⟩:=hn0;rw[a1]at a2;cases a2;rw[b1]at b2;cases b2;funext x;rw[<-d1 x,<-d2 x]
 subst em;refine⟨I.ok,I.os,I.bare,⟨λb o e n hb g=>kp b o (lo e) (I.base.keep b o e n hb g),λb o e n hb g=>?_,I.base.free,λb o e g=>?_,I.base.mU,I.base.lE,I.base.nM⟩,⟨m0,hn,λj y v' l e2 e3=>?_⟩,λy c e=>?_,I.free,I.gg,λp hp=>?_,λb u e=>?_,I.len⟩
 ·obtain⟨sl,l⟩:=I.base.slot b o e n hb g;exact⟨sl,kp b _ (lo e) l⟩
 ·obtain⟨o',l⟩:=I.base.there b o e g;exact⟨o',kp b o' (lo e) l⟩
 ·obtain⟨u',r',q⟩:=hl j y v' l e2 e3;refine⟨u',r',?_⟩;rcases q with⟨k,e⟩|⟨k,c,e,z⟩
  ·exact .inl ⟨k,e⟩
  ·obtain⟨oc,M,S⟩:=id z;exact .inr ⟨k,c,e,oc,kp c oc (HQ y c e) M,S⟩
 ·obtain⟨w',z⟩:=I.cell y c e;obtain⟨oc,M,S⟩:=id z;exact⟨w',oc,kp c oc (HQ y c e) M,S⟩
 ·obtain⟨e,n,ne,nf,d⟩:=I.pin p hp;exact⟨kp p.1 p.2 ne e,n,ne,nf,d⟩
 ·refine(I.cX b u e).pM (λc w' r q=>kp c w' ?_ q) (λ_ q=>q) λ_ _ q=>q
  rintro rfl
  rcases r with rfl|r
  ·rw[I.free]at e;cases e
  ·rw[I.free]at r;cases r
def Ar:List Tr->Rs Tr
 |[.bU bE]=>.ok (.int bE.length)
 |ts=>Of ts
theorem i_:lQ X (.builtin "len") Ar:=by
 intro U s Z H xs us Q I b ⟨B,ts,hb,r,q⟩;by_cases z:∃bE,ts=[.bU bE]
 ·obtain⟨bE,rfl⟩:=z;cases r with
  |cons h r=>
   cases r;cases h with
   |@bU a kvs _ h g M=>
    obtain⟨u,rfl,l⟩:=vals1 b;cases l;have n:kvs.length=bE.length:=by have:=dh List.length g;rw[bt,bt]at this;exact this
    exact V0 I (h.same bM) λt s' L=>⟨.int kvs.length,H,L,⟨t,rfl⟩,(show∀v H',bj H H'->Rep X.K (cn B H') v (.int bE.length)->Q v H' from q) _ H (bj.refl H) (by rw[n];exact .int _)⟩
 ·have e:Ar ts=Of ts:=by
   unfold Ar;split
   ·exact absurd ⟨_,rfl⟩ z
   ·rfl
  rw[e]at q;exact WI U s Z H xs us Q I b ⟨B,ts,hb,r,q⟩
def Jb:typeLookup (.type "list") "keys"=pure none:=by rw[typeLookup_type,xm];kernel_rfl
section
variable {k:Nat}{sl:Array (Option Value)}
theorem Fu(q:s.heap.get? a=some {cls:=.type "list",dict:=none,data:=.seq ak k,slots:=sl}) (hA:A.handled=none)
  (h:∀h' tk,(∀b o,s.heap.get? b=some o->h'.get? b=some o)->aK none {s with heap:=h',toks:=tk}):wpAny (model P w) A (getAttr? (.ref a) "keys") aK E s:=by
 obtain⟨hp,g,d,tk,os⟩:=s;have r:∀l,(⟨hp,g,d,l,os⟩:Shared).TypeIs (.ref a) "list":=λ_=>⟨_,q,rfl⟩;have f1:=sub_AttributeError;have L:=xk.lookup;have f4:=xk.bind (.ref a);have M:=am_list_getattr_none;unfold getAttr? getAttrBy? getAttrBy
 repeat(any_goals (first|assumption|exact r _|((with_reducible show wpAny _ _ (call (Value.builtin "list.__getattribute__") _ _) _ _ _);refine kO xk (r _) am_entry_list_getattribute (F.args_list_getattribute_2 _ _) (meets_getattribute_miss_list a ak k sl "keys" _ Jb (by decide+kernel) (by size_fits)) ⟨q,hA,λh' l e I=>?_⟩)|wp_step))
 obtain⟨t',u',he⟩:=I.there;have n:∀l,(⟨h',g,d,l,os⟩:Shared).TypeIs (.ref e) "AttributeError":=λ_=>⟨_,he,rfl⟩;show wpAny _ _ (getattributeRaised _ _ _ _ _ _ _) _ _ _;unfold getattributeRaised
 repeat(any_goals (first|assumption|exact n _|wp_step))
 exact h h' l I.of.keeps
def As:entryFor table "dict.update.loop"=some Builtin.«dict.update.loop»:=entryFor_of_tree (by kernel_rfl)
def qX:plainId "dict.update.loop"=true:=by decide+kernel
theorem LF{h0:Heap}{d I:Addr}{pairs:List (Key×Value)}(hh:A.handled=none)(hl:h0.IsList a am.toArray)(b9:am.length=pairs.length)(hp:∀(j:Nat) (t:Value),am[j]?=some t->∃ad key k v,t=.ref ad/\h0.IsTuple ad #[key,v]/\mT k key=true/\pairs[j]?=some (k,v))
  (Xz:h0.get? d=none) (hI0:h0.get? I=none) (q:d≠I) (hz:pairs.length<=100000)
  (hR:∀h' wy,(∀b o,h0.get? b=some o->h'.get? b=some o)->h'.DictOf (cp P w) d (merged [] pairs)->av (.ok (.ret .none)) {s with heap:=h',toks:=wy}):
  ∀(r i:Nat) (h:Heap) (tk:Nat) (kvs:List (Key×Value)),pairs.length - i=r->i<=pairs.length->kvs.length<=i->merged kvs (pairs.drop i)=merged [] pairs->(∀b o,h0.get? b=some o->h.get? b=some o)->h.IsListIter I a i->h.DictOf (cp P w) d kvs->
   codeAny (model P w) A (.builtin "dict.update.loop" ⟨[.ref d,.ref I,rawInt i,.none],[]⟩) av {s with heap:=h,toks:=tk}:=by
 have l:∀{h:Heap},(∀b o,h0.get? b=some o->h.get? b=some o)->h.IsList a am.toArray:=λ{h} k=>by obtain⟨o,e,x⟩:=hl;exact⟨o,k _ _ e,x⟩
 have nd:∀{b:Addr} {o:Obj},h0.get? b=some o->b≠d:=λ{b o} e z=>by rw[z,Xz]at e;cases e
 have nI:∀{b:Addr} {o:Obj},h0.get? b=some o->b≠I:=λ{b o} e z=>by rw[z,hI0]at e;cases e
 intro r
 induction r with
 |zero=>
  intro i h tk kvs hr hi hk hm kp it dd;have e:i=pairs.length:=by omega
  subst e;refine f9 As ?_
  rw[g0 qX _];show wpAny _ A.in1 (pyNext (.ref I)>>=_) _ _ _;refine aS (wpAny_pyNext_list_end hh it (l kp) (by simp[b9]) λh' eb=>?_);rw[tR]at hm;have S:h'.DictOf (cp P w) d kvs:=by
   obtain⟨o,es,ep,e,x⟩:=dd;exact⟨o,es,ep,eb d o q e,x⟩
  show wpAny _ A.in1 (Builtin.Dict.addKeywords d []>>=_) _ _ _;refine aS (bg (bg ?_));exact hR h' tk (λb o e=>eb b o (nI e) (kp b o e)) (by rw[<-hm];exact S)
 |succ r ih=>
  intro i h tk kvs hr hi hk hm kp it dd;have hZ:i<pairs.length:=by omega
  have L:i<am.length:=by omega
  obtain⟨ad,key,k,v,et,tp,J8,ep⟩:=hp i am[i] (by simp[L]);have JP:pairs[i]=(k,v):=by rw[b_ hZ]at ep;exact Option.some.inj ep
  refine f9 As ?_
  rw[g0 qX _];show wpAny _ A.in1 (pyNext (.ref I)>>=_) _ _ _;refine aS (wpAny_pyNext_list_item it (l kp) (x:=.ref ad) (by simp[L,et]) λh' it' sb=>?_);have g:∀b o,h0.get? b=some o->h'.get? b=some o:=λb o e=>(sb.2 b (nI e)).trans (kp b o e);have S:h'.DictOf (cp P w) d kvs:=by
   obtain⟨o,es,ep,e,x⟩:=dd;exact⟨o,es,ep,(sb.2 d q).trans e,x⟩
  obtain⟨ot,e1,e2,n,e3⟩:=tp;have hT:Shared.TypeIs {s with heap:=h',toks:=tk} (.ref ad) "tuple":=⟨ot,g _ _ e1,e2⟩;refine aS ?_
  refine fK ?_
  refine aS (kN ?_);unfold Builtin.Dict.pairItems;refine aS (ua hT ?_);rw[aX (by decide)];refine aS (g8 (g _ _ e1) e3 ?_);refine bg ?_
  show wpAny _ A.in1 (holding [key,v] (dictSet d key v)) _ _ _;refine fK (wpAny_dictSet_pairs (knd:=cp P w) (hsz:=by rw[dW];omega) J8 S λh2 UR M=>?_);show wpAny _ A.in1 (pure _) _ _ _;refine bg ⟨g9 qX _,?_⟩;have hc:rawInt ((i:Int)+1)=rawInt ((i+1:Nat):Int):=by push_cast;rfl
  rw[hc];refine ih (i+1) h2 _ (stored kvs k v) (by omega) hZ ?_ ?_ (λb o e=>(M.2 b (nd e)).trans (g b o e)) ?_ UR
  ·exact cC (stored_length_le kvs k v) (by omega)
  ·rw[sT hZ,JP]at hm;exact hm
  ·obtain⟨o,e,x⟩:=it';exact⟨o,(M.2 I (Ne.symm q)).trans e,x⟩
theorem Fv{pairs:List (Key×Value)}{q:Array (Option Value)}(hh:A.handled=none)(hx:s.heap.get? a=some {cls:=.type "list",dict:=none,data:=.seq am.toArray i,slots:=q}) (b9:am.length=pairs.length)
  (hp:∀(j:Nat) (t:Value),am[j]?=some t->∃ad key k v,t=.ref ad/\s.heap.IsTuple ad #[key,v]/\mT k key=true/\pairs[j]?=some (k,v)) (hz:pairs.length<=100000)
  (h:∀h' wy,(∀b o,s.heap.get? b=some o->h'.get? b=some o)->h'.DictOf (cp P w) s.heap.objs.size (merged [] pairs)->Q (.ref s.heap.objs.size) {s with heap:=h',toks:=wy}):
  wpAny (model P w) A (call (.type "dict") [.ref a]) Q E s:=by
 refine callType_codes (Q₁:=λobj I=>obj=.ref s.heap.objs.size/\I={s with heap:=s.heap.push {cls:=.type "dict",data:=.dict #[]}}) F.kt_called_dict (F.kt_typeCall_dict_1 _) F.entry_dict_init (kt_code_dict_new _ ⟨rfl,rfl⟩) ?_
 rintro obj I ⟨rfl,rfl⟩
 have n:(s.heap.push {cls:=.type "dict",data:=.dict #[]}).DictOf (cp P w) s.heap.objs.size []:=Heap.DictOf.new s.heap;have l:=bS {cls:=.type "dict",data:=.dict #[]} hx;have L:Shared.TypeIs {s with heap:=s.heap.push {cls:=.type "dict",data:=.dict #[]}} (.ref a) "list":=⟨_,l,rfl⟩;refine⟨n.typeIs,F.args_dict_init_2 _ _,?_⟩;unfold Builtin.«dict.__init__»;refine aS ?_
 unfold Builtin.Dict.selfAndRest;refine aS (wpAny_notOrdered_dict n.typeIs ?_);show wpAny _ _ (pure (s.heap.objs.size,[Value.ref a])) _ _ _;refine bg ?_
 show wpAny _ _ (Builtin.Dict.updateFrom "dict.__init__" s.heap.objs.size (.ref a) [] .none) _ _ _;unfold Builtin.Dict.updateFrom;refine aS (ua L ?_);rw[aX (by decide)];refine aS (Fu l hh λg M k1=>?_);rw[aX (show(none:Option Value).isNone=true from rfl)];have k2:∀b o,s.heap.get? b=some o->g.get? b=some o:=λb o e=>k1 b o (bS _ e);have S:g.get? s.heap.objs.size=some {cls:=.type "dict",data:=.dict #[]}:=k1 _ _ (cy _ rfl);have r:g.DictOf (cp P w) s.heap.objs.size []:=by
  obtain⟨o,es,ep,e,x⟩:=n;exact⟨o,es,ep,k1 _ _ e,x⟩
 have hZ:s.heap.objs.size<g.objs.size:=bA S;have hl:s.heap.IsList a am.toArray:=⟨_,hx,rfl,_,rfl⟩;refine aS (fQ ?_);refine aS (mL (show g.IsList a am.toArray from⟨_,k2 _ _ hx,rfl,_,rfl⟩) ?_);refine bg ⟨g9 qX _,?_⟩;refine LF (s:=s) (h0:=s.heap) (A:=A.in1) hh hl b9 hp (by
   cases e:s.heap.get? s.heap.objs.size with
   |none=>rfl
   |some o=>exact absurd (bA e) (fb _)) (by
   cases e:s.heap.get? g.objs.size with
   |none=>rfl
   |some o=>exact absurd (bA (k2 _ _ e)) (fb _)) (cc hZ) hz (λh' wy kp dd=>⟨rfl,h h' wy kp dd⟩) _ 0 _ _ [] rfl (eP _) (bu _) rfl (λb o e=>bS _ (k2 b o e)) ⟨_,cy _ rfl,rfl,rfl⟩ ?_
 obtain⟨o,es,ep,e,x⟩:=r;exact⟨o,es,ep,bS _ e,x⟩
end
def BC:List Tr->Option (List (Key×Tr))
 |[]=>some []
 |.tup [k,v]::r=>match kh k,BC r with
  |some key,some l=>some ((key,v)::l)
  |_,_=>none
 |_=>none
def Fw:List Tr->Rs Tr
 |[.lst ts]=>match BC ts with
  |some bE=>if bE.length<=100000 then .ok (.bU (l9 [] bE))else .bad
  |none=>.bad
 |_=>.bad
def Jc(h:BC (aB::ts)=some aF):∃k v key l,aB=.tup [k,v]/\kh k=some key/\BC ts=some l/\aF=(key,v)::l:=by
 unfold BC at h;split at h
 ·cases‹aB::ts=[]›
 ·rename_i k v r e;cases e;cases b:kh k with
  |none=>rw[b]at h;cases h
  |some key=>
   cases g:BC ts with
   |none=>rw[b,g]at h;cases h
   |some l=>rw[b,g]at h;cases h;exact⟨k,v,key,l,rfl,b,rfl,rfl⟩
 ·cases h
theorem G3(I:Inv X U Z H s):∀{vs:List V} {ts:List Tr} {bE:List (Key×Tr)} {cw:List Value},bP X.K (cn B H) vs ts->BC ts=some bE->Vals vs cw->
  ∃(kvs:List (Key×V)) (ps:List (Key×Value)),d5 X.K (cn B H) kvs bE/\KV kvs ps/\cw.length=ps.length/\∀(j:Nat) (t:Value),cw[j]?=some t->∃ad key k v,t=.ref ad/\s.heap.IsTuple ad #[key,v]/\mT k key=true/\ps[j]?=some (k,v)
 |[],[],_,_,_,e,rv=>by cases e;cases rv;exact⟨[],[],.nil,.nil,rfl,λj t e=>by simp at e⟩
 |[],_::_,_,_,h,_,_=>by cases h
 |v::vs,ts,bE,cw,h,e,rv=>by
  cases h with
  |cons h r=>
   obtain⟨k,w',key,l,rfl,n,L,rfl⟩:=Jc e;cases rv with
   |cons M rv=>
    obtain⟨kvs,ps,S,q,q3,q4⟩:=G3 I r L rv;obtain⟨ad,us,rfl,hq,rr⟩:=h.dX;cases M;obtain⟨x1,x2,rfl,rk,pP⟩:=zW rr;obtain⟨xV,Nb,pl,_⟩:=I.tuple (bj.tup bM hq);obtain⟨u1,b,rfl,r1,r2⟩:=vals2 Nb;cases nQ rk n;refine⟨(key,_)::kvs,(key,b)::ps,.cons pP S,.cons ⟨rfl,r2⟩ q,by rw[dw,dw,q3],λj t g=>?_⟩;cases j with
    |zero=>cases g;exact⟨ad,u1,key,b,rfl,pl,pS (P:=X.prog) (w:=X.w) r1,rfl⟩
    |succ j=>exact q4 j t g
theorem G4(hc:X.calm=true):gP X (.type "dict") (rF X Fw):=by
 intro U s Z H xs us Q I rv ⟨B,ts,hb,r,q⟩;have key:∃b bE,ts=[.lst b]/\BC b=some bE/\bE.length<=100000/\∀v H',bj H H'->Rep X.K (cn B H') v (.bU (l9 [] bE))->(∀p,v=.ref p->SA H H' p)->Q v H':=by
  unfold Fw at q;split at q
  ·rename_i b;cases e:BC b with
   |none=>rw[e]at q;exact fe q
   |some bE=>
    rw[e]at q;obtain⟨h0,z⟩:=iq q;exact⟨b,bE,rfl,e,h0,z⟩
  ·exact fe q
 obtain⟨b,bE,rfl,ep,hz,k⟩:=key;obtain⟨x,rfl,h⟩:=gm r;obtain⟨a,vs,rfl,h,rr⟩:=h.lst_inv;obtain⟨u,rfl,ru⟩:=vals1 rv;cases(show u=Value.ref a from ru);obtain⟨z0,cw,n0,g,hx⟩:=(show cY X.prog X.w H s.heap a (.lst vs)from I.cX a _ (d8 h));obtain⟨kvs,ps,l,S,q3,q4⟩:=G3 I rr ep g;have hl:kvs.length=bE.length:=l.length;have n:ps.length<=100000:=by rw[<-KV.length S,hl];exact hz
 refine Fv (I.ok.hd hc) hx q3 q4 n λh' wy kp dd=>?_
 have hf:H s.heap.objs.size=none:=I.fresh;have L:(i8 [] kvs).length<=sizeLine:=by have:=jm kvs [];rw[xy]at this;rw[dW];omega
 have M:(s.heap.objs.size==sysModules)=false:=by
  have:=I.big;exact kc (dN this)
 refine⟨.ref s.heap.objs.size,_,I.laid (t':=wy) (o:=.dK (i8 [] kvs)) kp (bu _) (xW L M (S.merge .nil) dd),rfl,k _ _ (bj.upd hf) (.bU (.inl (hb.new hf)) ?_ ?_) λp' e=>by cases e;exact .upd hf (λ_ _ z=>by cases z)⟩
 ·exact(d5.merge l d5.nil).keys
 ·exact(d5.merge l d5.nil).vals.same (bK (bj.upd hf))
section
variable {prog:Program}
noncomputable def jP(x y:Int×Int):Bool:=decide (x.1<y.1\/(x.1=y.1/\x.2<y.2))
theorem int_lt{x y:Int}{t u:Tok}(h:Q (.bool (decide (x<y))) s):wpAny (model prog w) A (richCompare .Lt (.int x t) (.int y u)) Q E s:=
 CmpOf.ints_lt (prog:=prog) (w:=w) (A:=A) (P:=λi v=>∃t,v=.int ([x,y].getD i 0) t) (λi=>[x,y].getD i 0) (λi v h=>h) 0 1 _ _ _ _ _ ⟨t,rfl⟩ ⟨u,rfl⟩ h
theorem BD{x y:Int×Int}{t1 t2 u1 u2:Tok}{oa ob:Obj}{P:PySem.Fin->Shared->Prop}
  (X8:s.heap.get? a=some oa) (q:oa.data=.seq #[.int x.1 t1,.int x.2 t2] i) (Oy:s.heap.get? ar=some ob) (fR:ob.data=.seq #[.int y.1 u1,.int y.2 u2] ay) (hTb:s.TypeIs (.ref ar) "tuple")
  (h:P (.done (.ret (.bool (jP x y)))) s):wpAny (model prog w) A (Builtin.«tuple.__lt__» ⟨[.ref a,.ref ar],[]⟩) P E s:=by
 show wpAny _ _ (isInstance (.ref ar) (.type "tuple")>>=_) _ _ s;refine aS (pD hTb isSubtype_tuple_tuple ?_);simp only[dv,cE,bZ];refine aS (wpAny_tupleItemsOf X8 q ?_);refine aS (wpAny_tupleItemsOf Oy fR ?_);refine aS ?_
 show wpAny _ _ (forIn [(Value.int x.1 t1,Value.int y.1 u1),(Value.int x.2 t2,Value.int y.2 u2)] _ _) _ _ s;rw[pA];refine aS (aS (wpAny_eqBool_int ?_));by_cases b:x.1=y.1
 ·rw[fo.mpr b];simp only[dv,cE,bZ];refine bg ?_
  dsimp only;rw[pA];refine aS (aS (wpAny_eqBool_int ?_));by_cases g:x.2=y.2
  ·rw[fo.mpr g];simp only[dv,cE,bZ];refine bg ?_
   dsimp only;rw[xH];refine bg (bg ?_);have e:jP x y=false:=by unfold jP;exact fJ (by omega)
   rw[e]at h;exact h
  ·rw[kc g];simp only[eO,bX];have e:jP x y=decide (x.2<y.2):=by unfold jP;exact xw.mpr (by omega)
   rw[e]at h;exact aS (fQ (aS (int_lt (aS (bg (bg (bg (bg h))))))))
 ·rw[kc b];simp only[eO,bX];have e:jP x y=decide (x.1<y.1):=by unfold jP;exact xw.mpr (by omega)
  rw[e]at h;exact aS (fQ (aS (int_lt (aS (bg (bg (bg (bg h))))))))
theorem OT{x y:Int×Int}{t1 t2 u1 u2:Tok}{q ob:Obj}(hu:A.units<cLine)
  (X8:s.heap.get? a=some q) (hca:q.cls=.type "tuple") (hda:q.data=.seq #[.int x.1 t1,.int x.2 t2] i) (Oy:s.heap.get? ar=some ob) (hcb:ob.cls=.type "tuple") (fR:ob.data=.seq #[.int y.1 u1,.int y.2 u2] ay)
  (h:Q (.bool (jP x y)) s):wpAny (model prog w) A (richCompare .Lt (.ref a) (.ref ar)) Q E s:=
 wpAny_richCompare_same_room (op:=.Lt) (T:="tuple") ⟨q,X8,hca⟩ ⟨ob,Oy,hcb⟩ F.slot_tuple_lt (g6 F.slot_tuple_lt ⟨q,X8,hca⟩ F.entry_tuple_lt (BD X8 hda Oy fR ⟨ob,Oy,hcb⟩ ⟨_,rfl,(λe=>nomatch e),h⟩) (F.args_tuple_lt_2 _ _)) hu
end
def dt(kf:Nat->Int×Int):Nat->Nat
 |0=>0
 |j+1=>if jP (kf (j+1)) (kf (dt kf j))=true then j+1 else dt kf j
section
variable {f l S I:Addr}{fd:FuncData}{k:Nat}{kf:Nat->Int×Int}
theorem DH(G:eC X.prog X.w X.K X.mg X.base mv k f fd ps (spT X.K h))(bd:Binds X.K fd ps [])(hr:di (k+1) X.A){v:V}{t:Tr}{p:Int×Int}
  (q:Inv X U Z H s) (hq:(ar,PySem.W.methodObj (.ref f) (.ref a))∈U) (hb:HB B H) (ro:Rep X.K (cn B H) (.ref a) aB) (rt:Rep X.K (cn B H) v t) (rv:RelV v af) (he:h [aB,t]=.ok (.tup [.int p.1,.int p.2])):
  wpAny (model X.prog X.w) X.A.in1 (call (.ref ar) [af]) (λw' s'=>∃kb H',w'=.ref kb/\Inv X U Z H' s'/\bj H H'/\jl X.K H' kb [.int p.1,.int p.2]) E s:=by
 have l:spT X.K h [.ref a,v] H (λv' H'=>bj H H'/\Rep X.K (cn B H') v' (.tup [.int p.1,.int p.2])) E0:=⟨B,[aB,t],hb,.cons ro (.cons rt .nil),_,he,λv' H' b r=>⟨b,r⟩⟩;have I:([.ref a,af]++[]:List Value).length=ps.length:=G.len _ _ _ _ l;refine pL (PySem.W.method_call (q.pin _ (dC _ hq)).1 ?_);refine iE (G.run X.A.in1 X.stack s H ⟨[.ref a,af],[]⟩ [.ref a,af] [.ref a,v] _ E0 hr.in1 q.Rx.in1 (bd s [.ref a,af] q.lZ I) (.cons rfl (.cons rv .nil)) l) λr s' g=>?_
 match r,g with
 |.ok (.ret w'),g=>
  obtain⟨v',H',L,M,b,rep⟩:=q.after g;obtain⟨kb,vs,rfl,n,rr⟩:=rep.dX;obtain⟨x,y,rfl,r1,r2⟩:=zW rr;rw[r1.int_inv,r2.int_inv]at n;exact⟨kb,H',M,L,b,bj.tup bM n⟩
end
section
variable {f l S I:Addr}{fd:FuncData}{k:Nat}{kf:Nat->Int×Int}
theorem DI{p:Int×Int}(Iv:Inv X U Z H s)(hT:jl X.K H a [.int p.1,.int p.2]):∃q t1 t2 n,s.heap.get? a=some q/\q.cls=.type "tuple"/\q.data=.seq #[.int p.1 t1,.int p.2 t2] n:=by
 obtain⟨cw,rv,⟨q,e,b,n,hd⟩,_⟩:=Iv.tuple hT;obtain⟨g,l,rfl,r1,r2⟩:=vals2 rv;obtain⟨t1,rfl⟩:=(show∃t,g=Value.int p.1 t from r1);obtain⟨t2,rfl⟩:=(show∃t,l=Value.int p.2 t from r2);exact⟨q,t1,t2,n,e,b,hd⟩
def G5{c:HO}{vs:List V}(h8:a≠S)(q:jl K H a vs):jl K (upd H S c) a vs:=by
 rcases q with(q|⟨b,q⟩)|q
 ·exact .inl (.inl (by rw[bo h8];exact q))
 ·exact .inl (.inr ⟨b,by rw[bo h8];exact q⟩)
 ·exact .inr q
def LG{l:List V}(Iv:Inv X U Z H s)(q:jl X.K H a aq)(e:H S=some (.lst l)):a≠S:=λz=>by
 subst z;rcases q with(q|⟨aB,q⟩)|⟨aB,cw,n,b,_⟩
 ·rw[e]at q;cases q
 ·rw[e]at q;cases q
 ·rw[(Iv.bs _ _ (Iv.ok.mod.PR _ _ b)).2]at e;cases e
theorem Jd(hc:X.calm=true)(G:eC X.prog X.w X.K X.mg X.base mv k f fd ps (spT X.K h))(bd:Binds X.K fd ps [])(hr:di (k+1) X.A)(hq:(ar,PySem.W.methodObj (.ref f) (.ref a))∈U)
  (hS:ac S=none) (hb:HB B ac) (ro:Rep X.K (cn B ac) (.ref a) aB) (rx:bP X.K (cn B ac) aq ts) (hl:l0 X.K ac l aq) (X9:l≠I)
  (hk:∀i t,ts[i]?=some t->h [aB,t]=.ok (.tup [.int (kf i).1,.int (kf i).2]))
  (hR:∀q u H s,aq[dt kf (aq.length - 1)]?=some q->Inv X U Z H s->bj ac H->RelV q u->av (.ok (.ret u)) s):
  ∀(r j:Nat) (s:Shared) (H:Hp) (q:V) (kb:Addr),aq.length - (j+1)=r->j+1<=aq.length->Inv X U Z H s->bj ac H->H S=some (.lst [q,.ref kb])->aq[dt kf j]?=some q->
   jl X.K H kb [.int (kf (dt kf j)).1,.int (kf (dt kf j)).2]->s.heap.IsListIter I l (j+1)->kQ X U H I->
   codeAny (model X.prog X.w) X.A (.builtin "min.loop" ⟨[.ref I,.ref ar,.ref S],[]⟩) av s:=by
 have DJ:(toString "min"++toString ".loop":String)="min.loop":=by decide
 intro r
 induction r with
 |zero=>
  intro j s H q kb Je hj g n Vc DK hT hit L;have mw:j+1=aq.length:=by omega
  obtain⟨cw,rv,pl,_⟩:=g.list (bj.seq n hl);have b9:cw.length=aq.length:=rv.length.symm;have W:=Walks.list (prog:=X.prog) (w:=X.w) (A:=X.A.in1) (g.ok.hd hc) I l X9 cw.toArray;obtain⟨_,xV,n2,Nb,_,eS⟩:=g.zw Vc;obtain⟨u,u2,rfl,ru,Xs⟩:=vals2 Nb;cases(show u2=Value.ref kb from Xs);refine f9 xi ?_
  rw[g0 nE _];show wpAny _ X.A.in1 (seqItems? (.ref S)>>=_) _ _ _;refine aS (g8 eS rfl ?_);show wpAny _ X.A.in1 (tryCatch (pyNext (.ref I)) _>>=_) _ _ _;refine aS (kN (W.done _ _ _ ⟨by rw[cU,b9,<-mw];exact hit,pl.isList⟩ λh' wy Oz=>?_));have I1:Inv X U Z H {s with heap:=h',toks:=wy}:=g.qU (ch:=[I]) (λb hb=>by rw[cQ.mp hb];exact L) Oz;obtain⟨_,X_,n3,Z7,_,eS'⟩:=I1.zw Vc;have M:=I1.NG (ue:=[]) (f:=λ_=>(#[]:Array Value)) (t':=wy) Vc eS' rfl .nil (eP _);show wpAny _ X.A.in1 (updateSeq S (λ_=>#[])>>=_) _ _ _;refine aS (pF eS' rfl (aS (mQ (bg ?_))));refine hR q u _ _ ?_ M (n.CL hS) ru
  rw[<-mw];exact DK
 |succ r ih=>
  intro j s H q kb Je hj g n Vc DK hT hit L;have hZ:j+1<aq.length:=by omega
  obtain⟨cw,rv,pl,_⟩:=g.list (bj.seq n hl);have b9:cw.length=aq.length:=rv.length.symm;have W:=Walks.list (prog:=X.prog) (w:=X.w) (A:=X.A.in1) (g.ok.hd hc) I l X9 cw.toArray;obtain⟨_,xV,n2,Nb,_,eS⟩:=g.zw Vc;obtain⟨u,u2,rfl,ru,Xs⟩:=vals2 Nb;cases(show u2=Value.ref kb from Xs);refine f9 xi ?_
  rw[g0 nE _];show wpAny _ X.A.in1 (seqItems? (.ref S)>>=_) _ _ _;refine aS (g8 eS rfl ?_);show wpAny _ X.A.in1 (tryCatch (pyNext (.ref I)) _>>=_) _ _ _;refine aS (kN (W.item (j+1) _ _ _ (by rw[cU,b9];exact hZ) ⟨hit,pl.isList⟩ λv h' wy hP K8 Oz=>?_));refine hide λP go=>?_
  have hv:cw[j+1]?=some v:=by simpa using hP
  obtain⟨xv,TC⟩:∃y,aq[j+1]?=some y:=⟨_,b_ hZ⟩
  obtain⟨v',J9,X'⟩:=rv.get TC;cases hv.symm.trans J9;obtain⟨tv,htv,rtv⟩:=rx.ya TC;have I1:Inv X U Z H {s with heap:=h',toks:=wy}:=g.qU (ch:=[I]) (λb hb=>by rw[cQ.mp hb];exact L) Oz;obtain⟨oI,hoI,Q_,Vd⟩:=id K8.1;have I1p:Inv X ((I,oI)::U) Z H {s with heap:=h',toks:=wy}:=I1.ke λp hp=>by
   rcases bI.mp hp with rfl|hp
   ·exact⟨hoI,L.1,L.2.1,L.2.2.1,λv z=>by rw[Vd]at z;cases z⟩
   ·exact I1.pin p (dC _ hp)
  refine go ?_
  show wpAny _ X.A.in1 (tryCatch (holding [v] (call (.ref ar) [v])) _>>=_) _ _ _;refine aS (kN (fK (d7 (DH G bd hr I1p (cx _ hq) (hb.same n) (ro.same (bK n)) (rtv.same (bK n)) X' (hk _ _ htv)) (λw' s2 hw=>?_) λ_ _ x=>x)));obtain⟨kb2,H2,rfl,TF,JJ,Ve⟩:=hw;refine hide λP go=>?_
  have nI:=TF.pin (I,oI) (dC _ (cB ..));have M:Inv X U Z H2 s2:=TF.ke λp hp=>TF.pin p (dC _ (cx _ hp));have zB:H2 S=some (.lst [q,.ref kb]):=JJ _ _ Vc;obtain⟨_,X_,n3,Z7,_,Ya⟩:=M.zw zB;obtain⟨oa,t1,t2,na,ea,ca,da⟩:=DI M Ve;obtain⟨ob,t3,t4,nb,eb,cb,db⟩:=DI M (JJ.tup hT);have hu:X.A.in1.units<cLine:=tD (by show X.A.units+1<=X.A.units+16*(k+1)+200;omega) hr.un;have abb:kQ X U H2 I:=⟨nI.2.1,L.2⟩;have TH:bj ac H2:=n.trans JJ;refine go ?_
  show wpAny _ X.A.in1 (tryCatch (holding [v,.ref kb2] (richCompare .Lt (.ref kb2) (.ref kb)>>=_)) _>>=_) _ _ _;refine aS (kN (fK (aS (OT (x:=kf (j+1)) (y:=kf (dt kf j)) hu ea ca da eb cb db ?_))));refine aS (fK (px ?_));refine aS (mQ (bg ?_));by_cases JF:jP (kf (j+1)) (kf (dt kf j))=true
  ·have Yb:dt kf (j+1)=j+1:=aX JF;have I3:=M.NG (ue:=[v,.ref kb2]) (f:=λ_=>(#[v,.ref kb2]:Array Value)) (ys:=[xv,.ref kb2]) (t':=s2.toks) zB Ya rfl (.cons X' (.cons rfl .nil)) (by show 2<=sizeLine;decide);simp only[JF,bX];refine aS (pF Ya rfl (aS (mQ ?_)));rw[DJ];have Na:S≠I:=λz=>by rw[z,nI.2.1]at zB;cases zB
   have hkS:kb2≠S:=LG M Ve zB;refine bg ⟨g9 nE _,ih (j+1) _ _ xv kb2 (by omega) hZ I3 (TH.CL hS) bO (by rw[Yb];exact TC) ?_ ⟨oI,(nG s2.heap _ Na).trans nI.1,Q_,Vd⟩ ⟨by rw[bo Na.symm];exact nI.2.1,L.2⟩⟩;rw[Yb];exact G5 hkS Ve
  ·have Yb:dt kf (j+1)=dt kf j:=ba JF;simp only[JF,bZ];refine aS (mQ ?_);rw[DJ];refine bg ⟨g9 nE _,ih (j+1) s2 H2 q kb (by omega) hZ M TH zB (by rw[Yb];exact DK) (by rw[Yb];exact JJ.tup hT) ⟨oI,nI.1,Q_,Vd⟩ abb⟩
end
section
variable {f l S I:Addr}{fd:FuncData}{k:Nat}{xs:List V}{kf:Nat->Int×Int}
theorem Jf(hc:X.calm=true)(G:eC X.prog X.w X.K X.mg X.base mv k f fd ps (spT X.K h))(bd:Binds X.K fd ps [])(hr:di (k+1) X.A)(hq:(ar,PySem.W.methodObj (.ref f) (.ref a))∈U)
  (q:Inv X U Z H s) (hb:HB B H) (ro:Rep X.K (cn B H) (.ref a) aB) (rx:bP X.K (cn B H) xs ts) (hl:l0 X.K H l xs) (h8:0<xs.length)
  (hk:∀i t,ts[i]?=some t->h [aB,t]=.ok (.tup [.int (kf i).1,.int (kf i).2])) {Q:VK}
  (hQ:∀xb H',xs[dt kf (xs.length - 1)]?=some xb->bj H H'->Q xb H'):
  wpAny (model X.prog X.w) X.A (call (.builtin "min") [.ref l] [(Str.ofString "key",.ref ar)]) (EP X U Z Q) X.xe s:=by
 have DJ:(toString "min"++toString ".loop":String)="min.loop":=by decide
 obtain⟨cw,rv,pl,_⟩:=q.list hl;have b9:cw.length=xs.length:=rv.length.symm;have Vb:=pl.isList;obtain⟨ol,Qv,_⟩:=id Vb;have hll:l<s.heap.objs.size:=bA Qv;refine kmk_tree PySem.F.kind_min PySem.F.plain_min PySem.F.entry_min (kmk_min_key _ _) ?_
 show wpAny _ X.A.in1 (Builtin.Builtins.bindParams "min" ["key","default"] 0 ⟨[],[(Str.ofString "key",.ref ar)]⟩>>=_) _ _ s;refine aS (wpAny_of_eq (show Builtin.Builtins.bindParams "min" ["key","default"] 0 ⟨[],[(Str.ofString "key",.ref ar)]⟩=pure [some (.ref ar),none]from rfl) ?_);refine aS (bg ?_);refine aS (mL Vb ?_);refine aS (pI ?_ (eP _));rw[DJ];have X9:l≠s.heap.objs.size:=cc hll;have I1:Inv X U Z H {s with heap:=s.heap.push {cls:=.type "list_iterator",data:=.fields #[.ref l,.int 0 0]}}:=q.kept (t':=s.toks) λb u e=>bS _ e;have L:=I1.NH (cw:=[]) (ys:=[]) (t':=s.toks) .nil (eP _);have hSe:(s.heap.push {cls:=.type "list_iterator",data:=.fields #[.ref l,.int 0 0]}).objs.size=s.heap.objs.size+1:=size_push' ..;have M:(s.heap.push {cls:=.type "list_iterator",data:=.fields #[.ref l,.int 0 0]}).objs.size≠s.heap.objs.size:=by rw[hSe];exact mJ _
 have Z9:H (s.heap.push {cls:=.type "list_iterator",data:=.fields #[.ref l,.int 0 0]}).objs.size=none:=I1.fresh;have gI:((s.heap.push {cls:=.type "list_iterator",data:=.fields #[.ref l,.int 0 0]}).push {cls:=.type "list",data:=.seq (List.toArray [])}).get? s.heap.objs.size=some {cls:=.type "list_iterator",data:=.fields #[.ref l,.int 0 0]}:=
  bS _ (cy _ rfl)
 generalize hS:(s.heap.push {cls:=.type "list_iterator",data:=.fields #[.ref l,.int 0 0]}).objs.size=S at L M Z9;have g:kQ X U (upd H S (.lst [])) s.heap.objs.size:=q.zr (bu _) (by rw[bo M.symm];exact q.fresh);have n:bj H (upd H S (.lst [])):=bj.upd Z9;refine bg ⟨g9 nE _,?_⟩;have W:=Walks.list (prog:=X.prog) (w:=X.w) (A:=X.A.in1) (q.ok.hd hc) s.heap.objs.size l X9 cw.toArray;obtain⟨_,xV,n2,Nb,_,eS⟩:=L.zw bO;cases Nb;obtain⟨ue,Iq,r,_⟩:=L.list (bj.seq n hl);have ei:ue=cw:=by
  obtain⟨o1,n1,e1,_,_,d1⟩:=pl;obtain⟨o2,n2,e2,_,_,d2⟩:=r;have e3:((s.heap.push {cls:=.type "list_iterator",data:=.fields #[.ref l,.int 0 0]}).push {cls:=.type "list",data:=.seq (List.toArray [])}).get? l=some o1:=bS _ (bS _ e1);have I:((s.heap.push {cls:=.type "list_iterator",data:=.fields #[.ref l,.int 0 0]}).push {cls:=.type "list",data:=.seq (List.toArray [])}).get? l=some o2:=e2;rw[e3]at I;cases I;rw[d1]at d2;injection d2 with d3 _
  simpa using(dh Array.toList d3).symm
 subst ei;refine f9 xi ?_
 rw[g0 nE _];show wpAny _ X.A.in1 (seqItems? (.ref S)>>=_) _ _ _;refine aS (g8 eS rfl ?_);show wpAny _ X.A.in1 (tryCatch (pyNext (.ref s.heap.objs.size)) _>>=_) _ _ _;refine aS (kN (W.item 0 _ _ _ (by rw[cU,b9];exact h8) ⟨⟨_,gI,rfl,rfl⟩,r.isList⟩ λv h' wy hP K8 Oz=>?_));refine hide λP go=>?_
 have hv:ue[0]?=some v:=by simpa using hP
 obtain⟨xv,TC⟩:∃y,xs[0]?=some y:=⟨_,b_ h8⟩
 obtain⟨v',J9,X'⟩:=rv.get TC;cases hv.symm.trans J9;obtain⟨tv,htv,rtv⟩:=rx.ya TC;have J1:=L.qU (h':=h') (t':=wy) (ch:=[s.heap.objs.size]) (λb hb=>by rw[cQ.mp hb];exact g) Oz;obtain⟨oI,hoI,Q_,Vd⟩:=id K8.1;have J1p:=J1.ke (JR:=(s.heap.objs.size,oI)::U) λp hp=>by
  rcases bI.mp hp with rfl|hp
  ·exact⟨hoI,g.1,g.2.1,g.2.2.1,λv z=>by rw[Vd]at z;cases z⟩
  ·exact J1.pin p (dC _ hp)
 refine go ?_
 show wpAny _ X.A.in1 (tryCatch (holding [v] (call (.ref ar) [v])) _>>=_) _ _ _;refine aS (kN (fK (d7 (DH G bd hr J1p (cx _ hq) (hb.same n) (ro.same (bK n)) (rtv.same (bK n)) X' (hk _ _ htv)) (λw' s2 hw=>?_) λ_ _ x=>x)));obtain⟨kb2,H2,rfl,TF,JJ,Ve⟩:=hw;refine hide λP go=>?_
 have nI:=TF.pin (s.heap.objs.size,oI) (dC _ (cB ..));have J2:Inv X U Z H2 s2:=TF.ke λp hp=>TF.pin p (dC _ (cx _ hp));have zB:H2 S=some (.lst []):=JJ _ _ bO;obtain⟨_,X_,n3,Z7,_,Ya⟩:=J2.zw zB;have J3:=J2.NG (ue:=[v,.ref kb2]) (f:=λ_=>(#[v,.ref kb2]:Array Value)) (ys:=[xv,.ref kb2]) (t':=s2.toks) zB Ya rfl (.cons X' (.cons rfl .nil)) (by show 2<=sizeLine;decide);have hkS:kb2≠S:=LG J2 Ve zB;have TH:bj H H2:=n.trans JJ;refine go ?_
 show wpAny _ X.A.in1 (updateSeq S (λ_=>#[v,.ref kb2])>>=_) _ _ _;refine aS (pF Ya rfl ?_);rw[DJ];refine bg ⟨g9 nE _,?_⟩;exact Jd hc G bd hr hq Z9 hb ro rx hl X9 hk (λxb u H' s' hx I' sm' ru=>⟨xb,H',I',ru,hQ xb H' hx sm'⟩) (xs.length - 1) 0 _ _ xv kb2 rfl h8 J3 (TH.CL Z9) bO TC (G5 hkS Ve)
  ⟨oI,(nG s2.heap _ M).trans nI.1,Q_,Vd⟩ ⟨by rw[bo M.symm];exact nI.2.1,g.2⟩
end
open Builtin Builtin.ObjectAttr
structure Au(K:Frag)(f:Addr):Prop where
 get:PySem.W.specialIn K (.ref f) "__get__"=some (some (.builtin "function.__get__"))
 tk:PySem.W.takesIn K (.ref f)=some false
def DL{dx g:Addr}{fs:List (Str×V)}{b:Bool}(I:Inv X U Z H s)(e:H a=some (.ins ar dx fs))(c:EC X.K ar)(k:Meth X.K ar x g)(l:fs.lookup x=none)(hg:Au X.K g)
  (TJ:PySem.W.copiedNames.contains x=false) (h:∀q s',Inv X ((q,PySem.W.methodObj (.ref g) (.ref a))::U) Z H s'->Q (.ref q) s'):wpAny (model X.prog X.w) A (getAttr (.ref a) x b) Q E s:=by
 obtain⟨mA,O,r,_,_,_⟩:=ui I.cX e;have hn:mA x=none:=lY.none_of (by rw[<-l];exact r x);obtain⟨M,J,L⟩:=O.look;refine PySem.W.get_bind I.lZ J (pd (c.get x)).1 (PySem.W.findObj_fn c.hd k.at_ hg.get hg.tk TJ (by rw[L,hn])) (pd (c.get x)).2 (pL (PySem.W.fn_get (s:={s with toks:=s.toks+1}) I.lZ (fo.mp k.fn) (PySem.W.handed_on rfl (h s.heap.objs.size _ ?_))));have n:Inv X U Z H {s with heap:=s.heap.push (PySem.W.methodObj (.ref g) (.ref a)),toks:=s.toks+1}:=I.kept λb u e=>bS _ e;refine n.ke λp hp=>?_
 rcases bI.mp hp with rfl|hp
 ·exact⟨cy _ rfl,I.fresh,dN I.lt,I.Vv (bu _),λv z=>by cases z⟩
 ·exact n.pin p (dC _ hp)
noncomputable def keyOf(r:Rs Tr):Option (Int×Int):=match r with
 |.ok (.tup [.int x,.int y])=>some (x,y)
 |_=>none
def LH{r:Rs Tr}{p:Int×Int}(h:keyOf r=some p):r=.ok (.tup [.int p.1,.int p.2]):=by
 unfold keyOf at h;split at h
 ·cases h;rfl
 ·cases h
def keysOf(h:List Tr->Rs Tr)(o:Tr):List Tr->Option (List (Int×Int))
 |[]=>some []
 |t::ts=>(keyOf (h [o,t])).bind λk=>(keysOf h o ts).map λks=>k::ks
theorem Av{o:Tr}:∀{ts:List Tr} {ks:List (Int×Int)},keysOf h o ts=some ks->∀i t,ts[i]?=some t->h [o,t]=.ok (.tup [.int (ks.getD i (0,0)).1,.int (ks.getD i (0,0)).2])
 |[],_,_,i,t,e=>by simp at e
 |u::ts,ks,b,i,t,e=>by
  rw[keysOf]at b;cases g:keyOf (h [o,u])with
  |none=>rw[g]at b;cases b
  |some k=>
   rw[g]at b;cases l:keysOf h o ts with
   |none=>rw[l]at b;cases b
   |some r=>
    rw[l]at b;cases b;cases i with
    |zero=>simp at e;subst e;exact LH g
    |succ i=>exact Av l i t (by simpa using e)
def v9(c m:Str)(h:List Tr->Rs Tr)(tl o:Tr):Rs Tr:=match tl,o with
 |.lst ts,.ob x fs=>if x=c/\Ep fs m=true/\0<ts.length then match keysOf h (.ob x fs) ts with
  |some ks=>l8 ts[dt (λi=>ks.getD i (0,0)) (ts.length - 1)]?
  |none=>.bad
  else .bad
 |_,_=>.bad
def G6(c m:Str)(h:List Tr->Rs Tr)(q ro:Rs Tr):Rs Tr:=q.bind λtl=>ro.bind λo=>v9 c m h tl o
def Jg{m:Str}{o:Tr}(q:Fi X H (v9 au m h aB o) aA):∃ts fs ks t,aB=.lst ts/\o=.ob au fs/\Ep fs m=true/\0<ts.length/\keysOf h (.ob au fs) ts=some ks/\ts[dt (λi=>ks.getD i (0,0)) (ts.length - 1)]?=some t/\aA t:=by
 unfold v9 at q;split at q
 ·rename_i ts x fs;by_cases b:x=au/\Ep fs m=true/\0<ts.length
  rotate_left
  ·rw[ba b]at q;exact fe q
  rw[aX b]at q;obtain⟨rfl,h2,l⟩:=b;have z:=q;cases e:keysOf h (.ob x fs) ts with
  |none=>rw[e]at z;exact fe z
  |some ks=>
   rw[e]at z;cases g:ts[dt (λi=>ks.getD i (0,0)) (ts.length - 1)]? with
   |none=>simp only[g]at z;exact fe z
   |some t=>simp only[g]at z;exact⟨ts,fs,ks,t,rfl,rfl,h2,l,e,g,z⟩
 ·exact fe q
section
variable {m:Str}{fd:FuncData}{k:Nat}{kp:Pos}{O:bY->Rs Tr}
theorem LJ(D:MethAt X.K au m ai ps a fd)(Bn:Au X.K a)(G:eC X.prog X.w X.K X.mg X.base mv k a fd ps (spT X.K h))(hr:di (k+1) X.A)(hm:X.mg "min"=none)(hl:PE X e (tP X F))(ho:PE X o (tP X O))
  (hc:X.calm=true:=by rfl) (hg:Gl X "min":=by rfl) (cH:bC [e]=true:=by rfl) (hb:isCall o=false:=by rfl) (TJ:PySem.W.copiedNames.contains m=false:=by decide+kernel):
  PE X (.Call (.Name "min" p) [e] [⟨some "key",.Attribute o m b8,kp⟩] pos) (tP X λY=>G6 au m h (F Y) (O Y)):=by
 intro U s Z H Q I ⟨B,Y,l,r,q⟩;refine mH (vf (u:=.builtin "min") I hg hm rfl ?_ (by decide) (by decide));refine callWith_kw (eJ (lO hl r_ (bL _ _ (bp cH).1) pos U s Z H (λvs H1=>∃tl,bP X.K (cn B H1) vs [tl]/\bj H H1/\Fi X H ((O Y).bind λo=>v9 au m h tl o) λt=>∀v H',bj H H'->Rep X.K (cn B H') v t->Q v H') I ?_) λus s1 ⟨vs,H1,I1,rv,tl,rl,b,k1⟩=>?_) (by rw[bL _ _ (bp cH).1];rfl) (cS cH)
 ·exact⟨B,Y,l,r,q.bind.mono λtl qt v H1 s1 r1=>⟨tl,.cons r1 .nil,s1,qt⟩⟩
 obtain⟨y,rfl,n⟩:=gm rl;refine kws_cons (F9 (gE hb) (eJ (ho U s1 Z H1 (λx H2=>∃o,Rep X.K (cn B H2) x o/\bj H1 H2/\Fi X H (v9 au m h tl o) λt=>∀v H',bj H H'->Rep X.K (cn B H') v t->Q v H') I1 ⟨B,Y,l.same b,r.same b,(k1.bind.same b).mono λo qo v H2 s2 r2=>⟨o,r2,s2,qo⟩⟩) λu2 s2 ⟨x,H2,I2,rx,ot,ro,g,k2⟩=>?_));obtain⟨ts,fs,ks,t,rfl,rfl,JL,TK,L,DK,kq⟩:=Jg k2;obtain⟨a1,xs,rfl,JD,KG⟩:=n.lst_inv;obtain⟨a2,dx,il,rfl,hh,ek,N4⟩:=ro.Ba;obtain⟨w1,rfl,M⟩:=vals1 rv;cases(show w1=Value.ref a1 from M);cases(show u2=Value.ref a2 from rx);refine DL I2 (d8 hh) D.cl D.mt (Bw ek N4 JL) Bn TJ λq s3 I3=>kws_nil ?_
 have sl:bP X.K (cn B H2) xs ts:=KG.same (bK g);refine eJ (Jf (H:=H2) (B:=B) (xs:=xs) (ts:=ts) (kf:=λi=>ks.getD i (0,0)) hc G D.bd hr (cB ..) I3 ((l.same b).same g) (.ob hh ek N4) sl (.of (g _ _ (d8 JD))) (by rw[sl.length];exact TK) (Av L) λxb S hx TH=>?_) λw3 s4 ⟨v3,S,I4,r3,q3⟩=>⟨v3,S,I4.ke λp hp=>I4.pin p (dC _ (cx _ hp)),r3,q3⟩;rw[sl.length]at hx;obtain⟨t',e',rt'⟩:=sl.ya hx;cases DK.symm.trans e';exact kq xb S ((b.trans g).trans TH) (rt'.same (bK TH))
end
def TL:Tr->Option Int->Option Int->Rs Tr
 |.tup ts,lo,hi=>.ok (.tup (Bi ts lo hi))
 |t,lo,hi=>slT t lo hi
def o4(r:Rs Tr)(lo hi:Rs (Option Int)):Rs Tr:=r.bind λt=>lo.bind λl=>hi.bind λh=>TL t l h
theorem Fx{ts:List ag}{lo hi:Option Int}(h:nR ts.length lo hi=true):Bi ts lo hi=ts:=by
 unfold nR at h;rw[bW]at h;unfold Bi;rw[eq_of_beq h.1,eq_of_beq h.2,List.drop_zero,Nat.sub_zero,List.take_length]
section
variable {P1 P2:bY->Rs (Option Int)}{lo hi:Option Expr}
inductive Yd(X:Cx)(x:V)(lo:Option Int)(hi:Option Int)(H:Hp)(Q:VK):Prop
 |mk (B:fy) (t:Tr):HB B H->Rep X.K (cn B H) x t->(Fi X H (TL t lo hi) fun t=>∀v H',bj H H'->Rep X.K (cn B H') v t->Q v H')->Yd X x lo hi H Q
theorem Ye:UY X (Yd X):=by
 intro U s Z H x v n L lo hi sl Q I b hs pl pu ⟨B,t,hb,r,q⟩;by_cases hw:∃ts,t=.tup ts/\nR ts.length lo hi=true
 ·obtain⟨ts,rfl,hw⟩:=hw;have g:∀v H',bj H H'->Rep X.K (cn B H') v (.tup (Bi ts lo hi))->Q v H':=q;rw[Fx hw]at g;have M:=r;cases r with
  |@tup a vs _ h S=>
   cases b;obtain⟨cw,r2,l,hz⟩:=I.tuple h.up;have b9:cw.toArray.size=ts.length:=by rw[cU,<-r2.length];exact S.length
   refine⟨"tuple",_,w_.lookup,l.typeIs,?_⟩;unfold nR at hw;rw[bW]at hw;exact HT.rn l hs pl pu (by rw[b9];exact⟨eq_of_beq hw.1,eq_of_beq hw.2⟩) ⟨.ref a,H,I,rfl,g _ H (bj.refl H) M⟩
 ·have e:TL t lo hi=slT t lo hi:=by
   cases t with
   |tup ts=>
    have:¬nR ts.length lo hi=true:=λz=>hw ⟨ts,rfl,z⟩;exact(ba this).symm
   |_=>rfl
  rw[e]at q;exact aaU U s Z H x v n L lo hi sl Q I b hs pl pu ⟨B,t,hb,r,q⟩
theorem Yf(he:PE X e (tP X F))(hl:PO X lo (tO X P1))(hu:PO X hi (tO X P2)):PE X (.Subscript e (.Slice lo hi none p) pos) (tP X λY=>o4 (F Y) (P1 Y) (P2 Y)):=
 (Kf Ye he hl hu).weak λZ H Q ⟨B,Y,hb,r,q⟩=>⟨B,Y,hb,r,q.bind.mono λt b v H1 s1 r1=>⟨B,Y,hb.same s1,r.same s1,(b.bind.same s1).mono λl g H2 s2=>⟨B,Y,hb.same (s1.trans s2),r.same (s1.trans s2),(g.bind.same (s1.trans s2)).mono λh n M s3=>
  ⟨B,t,hb.same ((s1.trans s2).trans s3),r1.same (bK (s2.trans s3)),(n.same ((s1.trans s2).trans s3)).mono λt b v I s4 L=>b v I (((s1.trans s2).trans s3).trans s4) L⟩⟩⟩⟩
end
noncomputable def qg{α:Type}(n:Nat)(lt:Nat->Nat->Bool):PySem.W.KasT α->Option α
 |.ret a=>some a
 |.ask i j k=>if i<n/\j<n/\i≠j then qg n lt (k (lt i j))else none
theorem Aw{α:Type}{n:Nat}{lt:Nat->Nat->Bool}{cmp:Nat->Nat->(Bool->Shared->Prop)->Shared->Prop}{Q:α->Shared->Prop}(q:∀i j C,i<n->j<n->i≠j->C (lt i j) s->cmp i j C s):∀(t:PySem.W.KasT α) {a:α},qg n lt t=some a->Q a s->t.kasWp cmp Q s
 |.ret b,a,e,h=>by cases e;exact h
 |.ask i j k,a,e,h=>by
  unfold qg at e;by_cases z:i<n/\j<n/\i≠j
  ·rw[aX z]at e;exact q i j _ z.1 z.2.1 z.2.2 (Aw q (k (lt i j)) e h)
  ·rw[ba z]at e;cases e
def Inv.adopt {b:Addr}{o:HO}(I:Inv X U Z H s)(h0:X.gD.heap.objs.size<=b)(f:kQ X U H b)(new:cY X.prog X.w (upd H b o) s.heap b o):Inv X U Z (upd H b o) s:=by
 obtain⟨g,l,_,_,hC,L⟩:=f;refine⟨I.ok,I.os,I.bare,⟨I.base.keep,I.base.slot,λc u e n M=>?_,I.base.there,λc xs e=>?_,λc u v e=>?_,λc ps e=>?_⟩,I.loc,I.cell,?_,λx c e=>?_,λp hp=>?_,λc u e=>?_,I.len⟩
 ·rw[bo (cc (dg (bA e) h0))];exact I.base.free c u e n M
 ·have q:=I.base.mU c xs e;rw[bo (bT q g)];exact q
 ·have q:=I.base.lE c u v e;rw[bo (bT q g)];exact q
 ·obtain⟨more,q⟩:=I.base.nM c ps e;exact⟨more,by rw[bo (bT q g)];exact q⟩
 ·rw[bo l.symm];exact I.free
 ·rw[bo (hC x c e)];exact I.gg x c e
 ·obtain⟨e,n,r⟩:=I.pin p hp;exact⟨e,by rw[bo (L p hp)];exact n,r⟩
 ·by_cases z:c=b
  ·subst z;rw[bO]at e;cases e;exact new
  ·rw[bo z]at e;exact(I.cX c u e).pM (λ_ _ _ q=>q) (λd q=>by rw[bo (bT q g)];exact q) λd xs q=>by rw[bo (bT q g)];exact q
def rQ(H:Hp):List (Addr×List V)->Hp
 |[]=>H
 |p::r=>rQ (upd H p.1 (.tup p.2)) r
theorem yK{H:Hp}:∀{l:List (Addr×List V)},(l.map (·.1)).Nodup->(∀p∈l,H p.1=none)->bj H (rQ H l)/\∀p∈l,rQ H l p.1=some (.tup p.2)
 |[],_,_=>⟨bj.refl H,λp m=>(nomatch m)⟩
 |p::l,nd,hn=>by
  rw[bB,gA]at nd;have hp:H p.1=none:=hn p (cB ..);obtain⟨s,k⟩:=yK (H:=upd H p.1 (.tup p.2)) (l:=l) nd.2 λq m=>by
   rw[bo λz=>nd.1 (by rw[<-z];exact gz m)];exact hn q (cx _ m)
  refine⟨(bj.upd hp).trans s,λq m=>?_⟩;rcases bI.mp m with rfl|m
  ·exact s _ _ bO
  ·exact k q m
theorem Inv.DM:∀{l:List (Addr×List V)} {H:Hp},Inv X U Z H s->(l.map (·.1)).Nodup->(∀p∈l,X.gD.heap.objs.size<=p.1/\kQ X U H p.1/\p.2.length<=sizeLine/\∃cw:List Value,Vals p.2 cw/\IsTup s.heap p.1 cw.toArray)->Inv X U Z (rQ H l) s
 |[],H,I,_,_=>I
 |p::l,H,I,nd,h=>by
  rw[bB,gA]at nd;obtain⟨h0,hf,hz,cw,rv,it⟩:=h p (cB ..);refine Inv.DM (H:=upd H p.1 (.tup p.2)) (I.adopt h0 hf ⟨hz,cw,rv,it⟩) nd.2 λq m=>?_
  obtain⟨g,b,r⟩:=h q (cx _ m);exact⟨g,⟨by rw[bo λz=>nd.1 (by rw[<-z];exact gz m)];exact b.1,b.2⟩,r⟩
def v_(v d:Addr):HO:=.ext λh=>h.IsItemsView v d
section
variable {to:TE}
def TM(to:TE):TE:=λZ H Q=>to Z H λx H1=>∃d kvs,x=.ref d/\Rd H1 d (.dK kvs)/\∀v,H1 v=none->Q (.ref v) (upd H1 v (v_ v d))
theorem LK(q:PE X o to)(pQ:attributeBase o "items" X.env (eval o X.env)=eval o X.env)(gi:(b8.endLine==p.line)=true):PE X (.Call (.Attribute o "items" b8) [] [] p) (TM to):=by
 intro U s Z H Q I h;refine wpAny_Call_method0_late pQ gi (eJ (q U s Z H _ I h) λv s1 ⟨x,H1,g,r1,d,kvs,ex,hd,L⟩=>?_);subst ex;cases(show v=Value.ref d from r1);obtain⟨hz,hs,vs,rv,hm⟩:=(show cY X.prog X.w H1 s1.heap d (.dK kvs)from hd.ok g.cX);have l:=hm;obtain⟨n,es,ep,e,ex,_⟩:=hm;refine⟨"dict","dict.items",qL,PySem.F.slot_dict_items,PySem.F.type_dict_items,⟨n,e,ex.1⟩,λa M=>by cases M;exact⟨n,e,ex.2.1⟩,nF rfl (PySem.evalArgs_none ?_)⟩;refine jy PySem.F.slot_dict_items ⟨n,e,ex.1⟩ PySem.F.entry_dict_items (PySem.F.args_dict_items_1 _) (meets_dict_items (cp X.prog X.w) d hs) ⟨⟨vs,l⟩,?_⟩;refine⟨.ref s1.heap.objs.size,_,g.laid (t':=s1.toks) (o:=v_ s1.heap.objs.size d) (λb u e=>bS _ e) (bu _) ?_,rfl,L _ g.fresh⟩;have S:(s1.heap.push {cls:=.type "dict_items",data:=.fields #[.ref d]}).IsItemsView s1.heap.objs.size d:=⟨_,cy _ rfl,rfl,rfl⟩;exact⟨S,⟨_,cy _ rfl⟩,λh1 h2 ⟨r,e1,r1⟩ k=>⟨r,k r e1,r1⟩⟩
end
noncomputable def yL(ss:List Str)(i j:Nat):Bool:=decide ((ss.getD i "").cps.toList<(ss.getD j "").cps.toList)
def h_(ss:List Str):Option (List Nat):=if ss.length<2 then some (List.range ss.length)else(qg ss.length (yL ss) (PySem.W.kas_sort ss.length)).bind λp=>if p.toList.all (λi=>decide (i<ss.length))=true/\p.toList.length<=64 then some p.toList else none
def Fy{p:List Nat}(h:h_ ps=some p):p.length<=64:=by
 unfold h_ at h;split at h
 ·cases h;rw[tM];omega
 ·cases e:qg ps.length (yL ps) (PySem.W.kas_sort ps.length)with
  |none=>rw[e]at h;cases h
  |some q=>
   rw[e]at h;by_cases z:q.toList.all (λi=>decide (i<ps.length))=true/\q.toList.length<=64
   ·have h':(if q.toList.all (λi=>decide (i<ps.length))=true/\q.toList.length<=64 then some q.toList else none)=some p:=h;rw[aX z]at h';cases h';exact z.2
   ·have h':(if q.toList.all (λi=>decide (i<ps.length))=true/\q.toList.length<=64 then some q.toList else none)=some p:=h;rw[ba z]at h';cases h'
def DN{ox oy:Obj}{b:Str}{t u:Tok}{q:Value}{Q:Bool->Shared->Prop}(hx:s.heap.get? a=some ox)(dx:ox.data=.seq #[.str au t,af] i) (hy:s.heap.get? ar=some oy) (dy:oy.data=.seq #[.str b u,q] ay) (h8:au≠b)
  (h:Q (decide (au.cps.toList<b.cps.toList)) s):wpAny (model P w) A (keyLt' (tuples' true) (.ref a) (.ref ar)) Q E s:=by
 refine PySem.W.kat_lt hx dx hy dy (PySem.W.kat_cons (wpAny_eqBool_str ?_));rw[fJ h8];exact PySem.W.kat_no (oneLt_str h)
section
variable {prog:Program}
theorem wA{P:PySem.Fin->Shared->Prop}(ho:s.heap.get? a=some (seqObj "list" am.toArray i))(h2:am.length<2)
  (h:∀h' c,(∀b o,b≠a->s.heap.get? b=some o->h'.get? b=some o)->h'.get? a=some (seqObj "list" am.toArray c)->P (.done (.ret .none)) {s with heap:=h'}):
  wpAny (model prog w) A (Builtin.«list.sort» ⟨[.ref a],[]⟩) P E s:=by
 rw[list_sort_plain];have r:a<s.heap.objs.size:=bA ho;refine aS (listItems_at ho rfl ?_);refine aS (listUpdate_at ho rfl ?_ (by rw[cU,dW];omega) (eP _));obtain⟨n,I⟩:∃n,(s.heap.update a (Obj.mapSeq λ_=>#[])).get? a=some (seqObj "list" #[] n):=⟨_,get?_update_seq ho (λ_=>#[])⟩;refine aS (seqEpoch_at I rfl ?_);refine aS (wpAny_newTuple ?_ (by rw[dW];simp;omega));refine aS (pI ?_ (eP _));refine fK ?_
 have g:(((s.heap.update a (Obj.mapSeq λ_=>#[])).push (seqObj "tuple" am.toArray 0)).push (seqObj "list" #[] 0)).get? a=some (seqObj "list" #[] n):=by
  rw[Heap.get?_push_ne _ _ _ (by rw[size_push',Heap.size_update];exact cc (lM r)),Heap.get?_push_ne _ _ _ (by rw[Heap.size_update];exact cc r)];exact I
 show wpAny (model prog w) A _ P E {s with heap:=((s.heap.update a (Obj.mapSeq λ_=>#[])).push (seqObj "tuple" am.toArray 0)).push (seqObj "list" #[] 0)};dsimp only;have l:am.toArray.size<2:=by simpa using h2
 rw[aX l,aX l];refine aS (bg ?_);rw[StateT.run_pure];refine aS (bg ?_);dsimp only;refine aS (seqEpoch_at g rfl ?_);refine aS (listUpdate_at g rfl ?_ (eP _) (by rw[Array.size_map];show(pairsOf am).size<=_;rw[pairsOf_size,dW];omega));simp only[tK,cE,bZ];refine bg ?_
 have L:(am.toArray.zip am.toArray).map (·.2)=am.toArray:=by
  apply Array.toList_inj.mp;simp only[Array.toList_map,Array.toList_zip];exact List.map_snd_zip (bu _)
 obtain⟨e,he⟩:=sortedHeap_at (out:=(am.toArray.zip am.toArray).map (·.2)) ho;refine h (sortedHeap s.heap a am ((am.toArray.zip am.toArray).map (·.2))) e (λb o hb q=>(sortedHeap_old hb (bA q)).trans q) ?_
 rw[he,L]
end
def OU{kvs:List (Key×V)}{vs:List (Key×Value)}(r:KV kvs vs){k:Key}{v:V}(e:kvs[i]?=some (k,v)):∃u,vs[i]?=some (k,u)/\RelV v u:=by
 have g:Paired _ kvs vs:=r
 clear r
 induction g generalizing i with
 |nil=>simp at e
 |cons h t l=>
  cases i with
  |zero=>
   simp at e;rename_i a b _ _;obtain⟨n,h2⟩:=h;obtain⟨I,b2⟩:=b;subst e;exact⟨b2,by simpa using n.symm,h2⟩
  |succ i=>obtain⟨u,x,y⟩:=l (i:=i) (by simpa using e);exact⟨u,by simpa using x,y⟩
theorem yM{b:Addr}:∀{l:List (Addr×List V)} {H:Hp},b∉l.map (·.1)->rQ H l b=H b
 |[],_,_=>rfl
 |p::l,H,h=>by
  rw[bB]at h;show rQ (upd H p.1 (.tup p.2)) l b=_;rw[yM λz=>h (cx _ z),bo λz=>h (by rw[z];exact cB ..)]
theorem Ax(f:Nat->Addr):∀p:List Nat,Vals (p.map λi=>V.ref (f i)) (p.map λi=>Value.ref (f i))
 |[]=>.nil
 |i::p=>.cons rfl (Ax f p)
def BE(h:Heap)(L D:Addr):List (Addr×Obj):=(Fs h L).filter λp=>decide (p.1≠D)
def jG{b:Addr}{o:Obj}:(b,o)∈BE aa a ar↔b≠a/\b≠ar/\aa.get? b=some o:=by
 unfold BE;rw[e_,Ft,j8];exact⟨λz=>⟨z.1.1,z.2,z.1.2⟩,λz=>⟨⟨z.1,z.2.2⟩,z.2.1⟩⟩
theorem yN{h:Heap}:∀{as:List Addr} {ss:List Str},as.length=ss.length->(∀(i:Nat) (a:Addr) (z:Str),as[i]?=some a->ss[i]?=some z->∃t x,h.get? a=some {cls:=.type "tuple",data:=.seq #[.str z t,x]})->∃fs:List Value,PySem.W.KatTups h (as.map Value.ref) fs/\fs.length=ss.length/\∀v∈fs,∃z t,v=Value.str z t
 |[],[],_,_=>⟨[],.nil,rfl,λv m=>(nomatch m)⟩
 |[],_::_,e,_=>by cases e
 |_::_,[],e,_=>by cases e
 |a::as,z::ss,e,k=>by
  obtain⟨t,x,g⟩:=k 0 a z rfl rfl;obtain⟨fs,h1,h2,l⟩:=yN (as:=as) (ss:=ss) (by simpa using e) λi b y n r=>k (i+1) b y (by simpa using n) (by simpa using r);refine⟨.str z t::fs,.cons g rfl rfl rfl h1,by rw[dw,dw,h2],λv m=>?_⟩;rcases bI.mp m with rfl|m
  ·exact⟨z,t,rfl⟩
  ·exact l v m
theorem LL{α β:Type}:∀{xs:List α} {ys:List β} {p:α×β},p∈xs.zip ys->∃i:Nat,xs[i]?=some p.1/\ys[i]?=some p.2
 |[],_,_,h=>by simp at h
 |_::_,[],_,h=>by simp at h
 |x::xs,y::ys,p,h=>by
  rw[List.zip_cons_cons]at h;rcases bI.mp h with rfl|h
  ·exact⟨0,rfl,rfl⟩
  ·obtain⟨i,a,b⟩:=LL h;exact⟨i+1,by simpa using a,by simpa using b⟩
section
theorem zC(hc:X.calm=true):gP X (.builtin "sorted") (λxs H Q=>∃(v d:Addr) (kvs:List (Key×V)) (ss:List Str) (p:List Nat),xs=[.ref v]/\H v=some (v_ v d)/\Rd H d (.dK kvs)/\kvs.map (·.1)=ss.map Sum.inr/\ss.length<64/\h_ ss=some p/\
  ∀(as:List Addr) (D:Addr),as.length=kvs.length->as.Nodup->(∀a∈as,H a=none)->D∉as->H D=none->Q (.ref D) (upd (rQ H (as.zip (kvs.map λq=>[kV q.1,q.2]))) D (.lst (p.map λi=>V.ref (as.getD i 0))))):=by
 intro U s Z H xs us Q I r h;obtain⟨v,d,kvs,ss,p,rfl,hv,hd,hk,Fc,hp,q⟩:=h;obtain⟨u,rfl,ru⟩:=vals1 r;cases(show u=Value.ref v from ru);obtain⟨hz,hs,vs,rv,hm⟩:=(show cY X.prog X.w H s.heap d (.dK kvs)from hd.ok I.cX);obtain⟨ep,hm⟩:=hm.dictAt;have Yg:s.heap.IsItemsView v d:=(show cY X.prog X.w H s.heap v (v_ v d)from I.cX v _ hv).1;have Yh:=sA rv;have hsl:kvs.length=ss.length:=by have q:=dh List.length hk;rw[bt,bt]at q;exact q
 have hnd:ss.Nodup:=by
  obtain⟨_,_,_,_,_,_,_,nd⟩:=hm;have e:vs.map (·.1)=ss.map Sum.inr:=by
   rw[<-hk];refine pj λi=>?_
   rw[ck,ck];cases e:kvs[i]? with
   |none=>
    have g:vs[i]?=none:=jg.mpr (by rw[<-Yh];exact jg.mp e)
    rw[g];rfl
   |some p=>
    obtain⟨z,e6⟩:=Bl rv (k:=p.1) (v:=p.2) e;rw[e6];rfl
  rw[e]at nd;exact List.Pairwise.of_map Sum.inr (λa b z e=>z (by rw[e])) nd
 refine call_function_entry kind_sorted plain_sorted entry_sorted (args_sorted1 _) ?_
 unfold Builtin.«sorted»;refine aS (m:=checkCount "sorted" 1 1 _) (bg ?_);refine aS (PySem.W.kdx_collect (A:=X.A.in1) (knd:=cp X.prog X.w) (kvs:=vs) (ep:=ep) (I.ok.hd hc) Yg hm (by rw[<-Yh];exact hz) λg tk as Z_ hl hG=>?_);refine aS (pI ?_ (by rw[bt,hl,<-Yh];exact hz));have F4:(g.push (seqObj "list" (as.map Value.ref).toArray 0)).get? g.objs.size=some (seqObj "list" (as.map Value.ref).toArray 0):=cy _ rfl;have QL:∀i a,as[i]?=some a->∃z y t,ss[i]?=some z/\kvs[i]?=some (Sum.inr z,y)/\∃x,RelV y x/\g.get? a=some {cls:=.type "tuple",data:=.seq #[.str z t,x]}:=λi a e=>by
  obtain⟨key,k,x,e1,e2,e3⟩:=hG.pairs i a e;have hi:i<kvs.length:=by rw[Yh];exact(gx.mp e1).1
  have e4:kvs[i]?=some kvs[i]:=b_ hi
  generalize kvs[i]=kv at e4;obtain⟨x',e6,rx⟩:=OU rv (k:=kv.1) (v:=kv.2) e4;rw[e1]at e6;cases e6;have e7:(kvs.map (·.1))[i]?=some kv.1:=by rw[ck,e4];rfl
  rw[hk,ck]at e7;cases e8:ss[i]? with
  |none=>rw[e8]at e7;cases e7
  |some z=>
   rw[e8]at e7;have e9:Sum.inr z=kv.1:=by simpa using e7
   obtain⟨t,rfl⟩:∃t,key=Value.str z t:=by
    rw[<-e9]at e2;exact Value.isStrOf_shape e2
   exact⟨z,kv.2,t,e8,by rw[e4,e9],x,rx,e3⟩
 obtain⟨m,RU,_⟩:=id I.loc;have hL:X.env.locals<s.heap.objs.size:=I.lt;have Z':∀a∈as,s.heap.objs.size<=a:=λa L=>dq (hG.above a L);have aD:∀a∈as,a≠g.objs.size:=λa L=>cc (hG.there L);have aL:∀a∈as,a≠X.env.locals:=λa L=>dN (dg hL (Z' a L));have asz:∀b o,s.heap.get? b=some o->b<g.objs.size:=λb o e=>bA (Z_ b o e);have J:Inv X U Z H {s with heap:=g,toks:=tk}:=I.kept Z_;have TN:H g.objs.size=none:=J.fresh;have hDf:kQ X U H g.objs.size:=J.zr (bu _) TN;have hD0:X.gD.heap.objs.size<=g.objs.size:=J.sz;have hDL:g.objs.size≠X.env.locals:=dN J.lt;have S:as.length=ss.length:=by rw[hl,<-Yh,hsl]
 have nda:as.Nodup:=hG.rise.imp λh=>cc h;have hkl:(as.zip (kvs.map λq=>[kV q.1,q.2])).map (·.1)=as:=List.map_fst_zip (by rw[bt,S,hsl];exact bu _);have fin:∀h' c,(∀b o,b≠X.env.locals->b≠g.objs.size->(g.push (seqObj "list" (as.map Value.ref).toArray 0)).get? b=some o->h'.get? b=some o)->h'.Ns X.env.locals m->
   h'.get? g.objs.size=some (seqObj "list" (p.map λi=>Value.ref (as.getD i 0)).toArray c)->EP X U Z Q (.ref g.objs.size) {s with heap:=h',toks:=tk}:=by
  intro h' c kp PV hD;have kp1:∀b o,b≠X.env.locals->b≠g.objs.size->g.get? b=some o->h'.get? b=some o:=λb o n1 n2 e=>kp b o n1 n2 (bS _ e);have I1:Inv X U Z H {s with heap:=h',toks:=tk}:=I.LD RU PV λb o n e=>kp1 b o n (cc (asz b o e)) (Z_ b o e);have zA:∀b,s.heap.objs.size<=b->kQ X U H b:=λb hb=>I.zr hb (I.cX.fresh hb);have I2:=I1.DM (l:=as.zip (kvs.map λq=>[kV q.1,q.2])) (by rw[hkl];exact nda) λt ht=>by
   obtain⟨i,e1,e2⟩:=LL ht;obtain⟨z,y,wy,_,e4,x,rx,e5⟩:=QL i t.1 e1;have L:t.1∈as:=d6 e1;rw[ck,e4]at e2;have e6:[V.str z,y]=t.2:=Option.some.inj e2;refine⟨cC I.sz (Z' _ L),zA _ (Z' _ L),by rw[<-e6];show 2<=sizeLine;decide,[.str z wy,x],by rw[<-e6];exact .cons ⟨wy,rfl⟩ (.cons rx .nil),⟨_,kp1 _ _ (aL _ L) (aD _ L) e5,rfl,_,rfl⟩⟩
  have hDn:rQ H (as.zip (kvs.map λq=>[kV q.1,q.2])) g.objs.size=none:=by
   rw[yM (by rw[hkl];exact λz=>aD _ z rfl)];exact TN
  have oX:p.length<=sizeLine:=cC (Fy hp) (by decide);refine⟨.ref g.objs.size,_,I2.adopt (o:=.lst (p.map λi=>V.ref (as.getD i 0))) hD0 ⟨hDn,hDf.2⟩ ⟨by rw[bt];exact oX,_,c,Ax _ p,hD⟩,rfl,q as g.objs.size (by rw[S,hsl]) nda (λa L=>I.cX.fresh (Z' a L)) (λz=>aD _ z rfl) TN⟩
 refine aS (fK (g6 slot_list_sort ⟨_,F4,rfl⟩ entry_list_sort ?_ (args_list_sort _)));have Yi:(g.push (seqObj "list" (as.map Value.ref).toArray 0)).Ns X.env.locals m:=by
  obtain⟨o,es,JP,ho,r'⟩:=RU;exact⟨o,es,JP,bS _ (Z_ _ _ ho),r'⟩
 by_cases h2:ss.length<2
 ·have ep:p=List.range ss.length:=by
   unfold h_ at hp;rw[aX h2]at hp;exact(Option.some.inj hp).symm
  have eo:as.map Value.ref=p.map λi=>Value.ref (as.getD i 0):=by
   rw[ep,<-S];refine pj λi=>?_
   rw[ck,ck];by_cases hi:i<as.length
   ·rw[List.getElem?_range hi,b_ hi];simp[hi]
   ·rw[jg.mpr (by omega),jg.mpr (by rw[tM];omega)]
    rfl
  refine wA F4 (by rw[bt,S];exact h2) λh' c kp hD=>⟨_,rfl,bg ⟨_,rfl,?_⟩⟩;refine fin h' c (λb o _ n e=>kp b o n e) ?_ (by rw[<-eo];exact hD)
  obtain⟨o,es,JP,ho,r'⟩:=Yi;exact⟨o,es,JP,kp _ _ hDL.symm ho,r'⟩
 ·obtain⟨M,er,ve,ep⟩:∃M:Array Nat,qg ss.length (yL ss) (PySem.W.kas_sort ss.length)=some M/\M.toList.all (λi=>decide (i<ss.length))=true/\p=M.toList:=by
   unfold h_ at hp;rw[ba h2]at hp;cases e:qg ss.length (yL ss) (PySem.W.kas_sort ss.length)with
   |none=>rw[e]at hp;cases hp
   |some M=>
    rw[e]at hp;have Qu:(if M.toList.all (λi=>decide (i<ss.length))=true/\M.toList.length<=64 then some M.toList else none)=some p:=hp;by_cases z:M.toList.all (λi=>decide (i<ss.length))=true/\M.toList.length<=64
    ·rw[aX z]at Qu;exact⟨M,rfl,z.1,(Option.some.inj Qu).symm⟩
    ·rw[ba z]at Qu;cases Qu
  have F:Fr BB X.env.locals (g.push (seqObj "list" (as.map Value.ref).toArray 0)) m:=⟨Yi,(λb o e=>by rw[qe]at e;cases e),eP _⟩;have N:News BB X.env.locals (g.push (seqObj "list" (as.map Value.ref).toArray 0)) (BE (g.push (seqObj "list" (as.map Value.ref).toArray 0)) X.env.locals g.objs.size):=λt ht=>by
   obtain⟨n1,n2,e⟩:=jG.mp (show(t.1,t.2)∈_ from ht);exact⟨e,n1,qe _⟩
  refine PySem.W.kat_list_sort (s:={s with heap:=g.push (seqObj "list" (as.map Value.ref).toArray 0),toks:=tk}) F N F4 hDL (qe _) (λt ht=>(jG.mp (show(t.1,t.2)∈_ from ht)).2.1) (by rw[bt,S];omega) (by rw[bt,S];exact Fc) λe1 h' F' N'=>?_
  have tp:∀(i:Nat) (a:Addr) (z:Str),as[i]?=some a->ss[i]?=some z->∃t x,h'.get? a=some {cls:=.type "tuple",data:=.seq #[.str z t,x]}:=λi a z ea ez=>by
   obtain⟨z',y,t,e3,_,x,_,e5⟩:=QL i a ea;rw[ez]at e3;cases e3;have L:a∈as:=d6 ea;exact⟨t,x,(N' (a,_) (cx _ (jG.mpr ⟨aL a L,aD a L,bS _ e5⟩))).1⟩
  obtain⟨fs,kt,fl,abc⟩:=yN S tp;refine PySem.W.kat_kind (T:=.type "str") kt (by rw[fl];omega) (λv hv=>by obtain⟨z,t,rfl⟩:=abc v hv;exact .of_pure rfl) (by decide) ?_
  rw[show(Value.type "str" !=Value.type "tuple")=true by decide,bt,S];refine Aw (λi j C hi hj A_ hC=>?_) _ er ?_
  ·have ei:as[i]?=some as[i]:=b_ (by rw[S];exact hi)
   have ej:as[j]?=some as[j]:=b_ (by rw[S];exact hj)
   generalize as[i]=a at ei;generalize as[j]=b at ej;have zi:ss[i]?=some ss[i]:=b_ hi
   have zj:ss[j]?=some ss[j]:=b_ hj
   obtain⟨t1,x1,g1⟩:=tp i a _ ei zi;obtain⟨t2,x2,g2⟩:=tp j b _ ej zj;have va:(as.map Value.ref).getD i Value.none=Value.ref a:=by rw[eM,ck,ei];rfl
   have vb:(as.map Value.ref).getD j Value.none=Value.ref b:=by rw[eM,ck,ej];rfl
   show wpAny _ _ (keyLt' _ ((as.map Value.ref).getD i Value.none) ((as.map Value.ref).getD j Value.none)) _ _ _;rw[va,vb];refine DN g1 rfl g2 rfl (λe=>A_ (ud hnd zi (by rw[zj,e]))) ?_
   have e9:yL ss i j=decide (ss[i].cps.toList<ss[j].cps.toList):=by
    unfold yL;rw[eM,eM,zi,zj]
    rfl
   rw[<-e9];exact hC
  ·refine PySem.W.KasFin.intro F' N' (.head λt ht=>(jG.mp (show(t.1,t.2)∈_ from ht)).2.1) λh'' c F'' N''=>⟨_,rfl,bg ⟨_,rfl,?_⟩⟩;have eo:(M.toList.map λi=>(as.map Value.ref).getD i Value.none)=p.map λi=>Value.ref (as.getD i 0):=by
    rw[ep];refine fZ λi hi=>?_
    have ZX:i<as.length:=by rw[S];exact eN (dD.mp ve i hi)
    rw[eM,eM,ck,b_ ZX]
    rfl
   refine fin h'' c (λb o n1 n2 e=>(N'' (b,o) (cx _ (jG.mpr ⟨n1,n2,e⟩))).1) F''.ns ?_
   rw[<-eo];exact(N'' _ (cB ..)).1
noncomputable def rR:List (Key×Tr)->Option (List Str)
 |[]=>some []
 |(.inr z,_)::r=>(rR r).map λs=>z::s
 |_=>none
theorem uJ:∀{bE:List (Key×Tr)} {ss:List Str},rR bE=some ss->bE.map (·.1)=ss.map Sum.inr
 |[],_,h=>by cases h;rfl
 |(.inr z,_)::r,ss,h=>by
  have h':(rR r).map (λs=>z::s)=some ss:=h;cases e:rR r with
  |none=>rw[e]at h';cases h'
  |some s=>rw[e]at h';cases h';rw[bB,bB,uJ e]
 |(.inl _,_)::_,_,h=>by cases h
def wN:Tr->Rs Tr
 |.bU bE=>l8 ((rR bE).bind λss=>if ss.length<64/\(ss.all λz=>decide (z.length<=cZ))=true then(h_ ss).map λp=>Tr.lst (p.map λi=>.tup [.str (ss.getD i ""),(bE.map (·.2)).getD i .cu])else none)
 |_=>.bad
def Fz(q:Fi X H (wN aB) aA):∃bE ss p,aB=.bU bE/\rR bE=some ss/\ss.length<64/\(∀z∈ss,z.length<=cZ)/\h_ ss=some p/\aA (.lst (p.map λi=>.tup [.str (ss.getD i ""),(bE.map (·.2)).getD i .cu])):=by
 cases aB with
 |bU bE=>
  obtain⟨x,e,n⟩:=gG q;cases g:rR bE with
  |none=>rw[g]at e;cases e
  |some ss=>
   rw[g]at e;have b:(if ss.length<64/\(ss.all λz=>decide (z.length<=cZ))=true then(h_ ss).map λp=>Tr.lst (p.map λi=>.tup [.str (ss.getD i ""),(bE.map (·.2)).getD i .cu])else none)=some x:=e;by_cases z:ss.length<64/\(ss.all λz=>decide (z.length<=cZ))=true
   ·rw[aX z]at b;cases l:h_ ss with
    |none=>rw[l]at b;cases b
    |some p=>
     rw[l]at b;cases b;exact⟨bE,ss,p,rfl,g,z.1,λy r=>eN (dD.mp z.2 y r),l,n⟩
   ·rw[ba z]at b;cases b
 |_=>exact fe q
def Ay{p:List Nat}(h:h_ ps=some p):∀i∈p,i<ps.length:=by
 unfold h_ at h;split at h
 ·cases h;exact λi hi=>tX.mp hi
 ·cases e:qg ps.length (yL ps) (PySem.W.kas_sort ps.length)with
  |none=>rw[e]at h;cases h
  |some q=>
   rw[e]at h;have h':(if q.toList.all (λi=>decide (i<ps.length))=true/\q.toList.length<=64 then some q.toList else none)=some p:=h;by_cases z:q.toList.all (λi=>decide (i<ps.length))=true/\q.toList.length<=64
   ·rw[aX z]at h';cases h';exact λi hi=>eN (dD.mp z.1 i hi)
   ·rw[ba z]at h';cases h'
variable {p1 dH:Pos}
theorem G7{W:Vw}{f:Nat->V}{g:Nat->Tr}:∀{p:List Nat},(∀i∈p,Rep K W (f i) (g i))->bP K W (p.map f) (p.map g)
 |[],_=>.nil
 |i::p,h=>.cons (h i (cB ..)) (G7 λj m=>h j (cx _ m))
theorem LN(hs:X.mg "sorted"=none)(ho:PE X o (tP X F))(hc:X.calm=true:=by rfl) (hg:Gl X "sorted":=by rfl) (hb:isCall o=false:=by rfl) (gi:(b8.endLine==dH.line)=true:=by rfl):
  PE X (.Call (.Name "sorted" p1) [.Call (.Attribute o "items" b8) [] [] dH] [] pos) (tP X λY=>(F Y).bind wN):=
 (pO (zC hc) hg hs rfl (lO (LK ho (gE hb) gi) r_ (bL _ _ rfl)) (by decide) (by decide) (bL _ _ rfl) (cS (es:=[]) rfl)).weak λZ H Q ⟨B,Y,hb,r,q⟩=>⟨B,Y,hb,r,q.bind.mono λt qt v H1 s1 rv=>by
  obtain⟨bE,ss,p,rfl,e1,Fc,htx,e2,k⟩:=Fz qt;cases rv with
  |@bU a kvs _ h ek rr=>
   refine⟨a,kvs,rfl,Rd.same bM h,λb I=>⟨b,a,kvs,ss,p,rfl,bO,Rd.same (bj.upd I) (Rd.same bM h),by rw[ek];exact uJ e1,Fc,e2,λas D hl hnd hn hD hDn=>?_⟩⟩;have E5:=hb.same s1;have sv:bj H1 (upd H1 b (v_ b a)):=bj.upd I;have Ow:=E5.same sv;have L:(as.zip (kvs.map λq=>[kV q.1,q.2])).map (·.1)=as:=List.map_fst_zip (by rw[bt,hl];exact bu _);obtain⟨st,gt⟩:=yK (H:=upd H1 b (v_ b a)) (l:=as.zip (kvs.map λq=>[kV q.1,q.2])) (by rw[L];exact hnd) λt ht=>hn t.1 (tT ht).1;have M:rQ (upd H1 b (v_ b a)) (as.zip (kvs.map λq=>[kV q.1,q.2])) D=none:=by rw[yM (by rw[L];exact hD)];exact hDn
   have sd:=bj.upd (o:=.lst (p.map λi=>V.ref (as.getD i 0))) M;refine k _ _ (((s1.trans sv).trans st).trans sd) (.lst (vs:=p.map λi=>V.ref (as.getD i 0)) ?_ (G7 λi hi=>?_))
   ·exact((Ow.same st).new M)
   ·have S:=Ay e2 i hi;have ekl:kvs.length=ss.length:=by
     have g:=dh List.length (ek.trans (uJ e1));rw[bt,bt]at g;exact g
    have n:i<as.length:=by rw[hl,ekl];exact S
    have Wa:i<kvs.length:=by rw[ekl];exact S
    have ea:as.getD i 0=as[i]:=by rw[eM,b_ n];rfl
    have ez:ss.getD i ""=ss[i]:=by rw[eM,b_ S];rfl
    have ekz:kvs[i].1=Sum.inr ss[i]:=by
     have g:=dh (λl=>l[i]?) (ek.trans (uJ e1));simp only[ck,b_ Wa,b_ S,dE]at g;exact Option.some.inj g
    have hm:(as[i],[V.str ss[i],kvs[i].2])∈as.zip (kvs.map λq=>[kV q.1,q.2]):=by
     have g:(as.zip (kvs.map λq=>[kV q.1,q.2]))[i]?=some (as[i],[V.str ss[i],kvs[i].2]):=by
      rw[List.getElem?_zip_eq_some];refine⟨b_ n,?_⟩;rw[ck,b_ Wa];show some [kV kvs[i].1,kvs[i].2]=_;rw[ekz];rfl
     exact d6 g
    have g1:=gt _ hm;have nB:B.hd as[i]=false:=Ow.free (hn _ (kL n));have g2:(cn B (upd (rQ (upd H1 b (v_ b a)) (as.zip (kvs.map λq=>[kV q.1,q.2]))) D (.lst (p.map λi=>V.ref (as.getD i 0))))).H as[i]=some (.tup [V.str ss[i],kvs[i].2]):=by
     rw[gS nB];exact sd _ _ g1
    obtain⟨tv,et,rt⟩:=rr.ya (i:=i) (v:=kvs[i].2) (by rw[ck,b_ Wa];rfl);have etd:(bE.map (·.2)).getD i .cu=tv:=by rw[eM,et];rfl
    rw[ea,ez,etd];exact .tup (.of g2) (.cons (.str _ (htx _ (kL S))) (.cons (rt.same (bK ((sv.trans st).trans sd))) .nil))⟩
end
structure QE(X:Cx)(e:Expr)(F:bY->Rs Tr):Prop where
 h:PE X e (tP X F)
structure QT(X:Cx)(e:Expr)(F:bY->Rs Bool):Prop where
 h:PT X e (tQ X F)
structure QW(X:Cx)(e:Expr)(F:bY->Rs Bool):Prop where
 h:PW X e (tQ X F)
structure QA(X:Cx)(e:List Expr)(F:bY->Rs (List Tr)):Prop where
 h:PA X e (CO X F)
structure QS(X:Cx)(e:Stmt)(F:bY->Rs Out):Prop where
 h:PS X e (tS X F)
structure QB(X:Cx)(e:List Stmt)(F:bY->Rs Out):Prop where
 h:o5 X e (tS X F)
structure QG(X:Cx)(e:Expr)(F:o6):Prop where
 h:PG X e (tG X F)
structure QGs(X:Cx)(e:List Expr)(F:List Tr->bY->Rs bY):Prop where
 h:Np X e (U4 X F)
structure QI(X:Cx)(tg e:Expr)(F:bY->Rs (List Tr)):Prop where
 h:PI X tg e (tI X F)
structure QJ(X:Cx)(tg e:Expr)(F:bY->Rs (List Tr)):Prop where
 h:PI X tg e (tJ X F)
structure QO(X:Cx)(e:Option Expr)(F:bY->Rs (Option Int)):Prop where
 h:PO X e (tO X F)
structure QF(X:Cx)(e:List Expr)(F:bY->Rs Bool):Prop where
 h:PF X e (tQ X F)
structure ZE(X:Cx)(e:Expr)(F:bY->Ab->Rz Tr):Prop where
 h:PE X e (tE X F)
structure NE(X:Cx)(e:Expr)(F:bY->Rs Tr):Prop where
 h:PE X e (tF X F)
structure ZT(X:Cx)(e:Expr)(F:bY->Ab->Rz Bool):Prop where
 h:PT X e (Qq X F)
structure ZL(X:Cx)(e:List Expr)(F:bY->Ab->Rz (List Tr)):Prop where
 h:PA X e (M' X F)
structure ZS(X:Cx)(e:Stmt)(F:bY->Ab->Rz Out):Prop where
 h:PS X e (tZ X F)
structure ZB(X:Cx)(e:List Stmt)(F:bY->Ab->Rz Out):Prop where
 h:o5 X e (tZ X F)
structure DO(X:Cx)(scope:Scope)(N':List Str)(tg elt:Expr)(ifs:List Expr)(T:o6)(A:bY->Rs Bool)(F:bY->Rs Tr):Prop where
 all:∀s H ex,QG (ux X scope N' s H ex) tg T/\QF (ux X scope N' s H ex) ifs A/\QE (ux X scope N' s H ex) elt F
def DO.to {scope:Scope}{N':List Str}{elt:Expr}{ifs:List Expr}{T:o6}{A:bY->Rs Bool}(b:DO X scope N' tg elt ifs T A F):N1 X scope N' tg elt ifs T A F:=
 ⟨λs H ex=>⟨(b.all s H ex).1.h,(b.all s H ex).2.1.h,(b.all s H ex).2.2.h⟩⟩
section
variable {b:Expr}{E:bY->Rs Tr}
theorem aQ(i:Nat)(q:X.N[i]?=some x:=by rfl) (hv:Zz X.env.scope x:=by first|exact Or.inl rfl|exact Or.inr (Or.inl rfl)|exact Or.inr (Or.inr rfl)) (hd:Db x:=by decide) (Et:(x==("__classdict__":Str))=false:=by decide):QE X (.Name x pos) (λY=>ye Y i):=⟨Wb i q hv hd Et⟩
def bD{i:Int}{j pos}:QE X (.Constant (.int i) j pos) (λ_=>.ok (.int i)):=⟨Wc⟩
def yO{b:Bool}{j pos}:QE X (.Constant (.bool b) j pos) (λ_=>.ok (.bl b)):=⟨aaO⟩
def f'{j pos}:QE X (.Constant .none j pos) (λ_=>.ok .cu):=⟨Wd⟩
def aW{j pos}(hz:x.length<=cZ:=by decide):QE X (.Constant (.str x) j pos) (λ_=>.ok (.str x)):=⟨We hz⟩
def DP(hm:X.mg x=none)(q:bootBuiltins x=some (.type ax):=by rfl) (hg:Gl X x:=by rfl) (hn:x≠"__name__":=by decide) (hd:Db x:=by decide):QE X (.Name x pos) (λ_=>.ok (.ty ax)):=⟨aaP hm q hg hn hd⟩
def fA{op:Operator}(q:CT X (binaryOp op) aC)(ha:QE X e F)(hb:QE X b G):QE X (.BinOp e op b pos) (λY=>Kv aC (F Y) (G Y)):=⟨Wg q ha.h hb.h⟩
def G8{op:CmpOp}(q:CT X (compareOp op) aC)(ha:QE X e F)(hb:QE X b G)(hm:behindInMarks op b=false:=by first|exact AY _|rfl|with_unfolding_all rfl):QE X (.Compare e [op] [b] pos) (λY=>Kv aC (F Y) (G Y)):=⟨Wh q ha.h hb.h hm⟩
def bG{op:CmpOp}(q:CT X (compareOp op) aC)(ha:QE X e F)(hb:QE X b G)(hm:behindInMarks op b=false:=by first|exact AY _|rfl|with_unfolding_all rfl):QT X (.Compare e [op] [b] pos) (λY=>ZP (Kv aC (F Y) (G Y))):=⟨Wi q ha.h hb.h hm⟩
def oQ(q:QE X e F)(he:mZ e=true:=by rfl):QT X e (λY=>(F Y).bind uz):=⟨Wj q.h he⟩
end
section
variable {E:bY->Rs Tr}{A:bY->Rs Bool}
def Az(q:QT X e A):QT X (.UnaryOp .Not e pos) (λY=>Ih (A Y)):=⟨Wk q.h⟩
def iJ(q:QT X e A):QW X (.BoolOp .And [e] pos) A:=⟨R6 q.h⟩
def wa(q:QT X e A):QW X (.BoolOp .Or [e] pos) A:=⟨Wl q.h⟩
def lR(q:QT X e A)(hb:QW X (.BoolOp .And (o::az) pos) aE):QW X (.BoolOp .And (e::o::az) pos) (λY=>Kw (A Y) (aE Y)):=⟨w_and q.h hb.h⟩
def DQ(q:QT X e A)(hb:QW X (.BoolOp .Or (o::az) pos) aE):QW X (.BoolOp .Or (e::o::az) pos) (λY=>ZQ (A Y) (aE Y)):=⟨w_or q.h hb.h⟩
def eX{op}(h:QW X (.BoolOp op az pos) A):QT X (.BoolOp op az pos) A:=⟨R7 h.h⟩
def LO(q:QE X e F)(hb:QE X (.BoolOp .And (o::az) pos) G):QE X (.BoolOp .And (e::o::az) pos) (λY=>Wm (F Y) (G Y)):=⟨Wn q.h hb.h⟩
def QM{op}(h:QE X e F):QE X (.BoolOp op [e] pos) F:=⟨Wo h.h⟩
def DR(q:QT X tg A)(ha:QE X e F)(hb:QE X o G):QE X (.IfExp tg e o pos) (λY=>Kx (A Y) (F Y) (G Y)):=⟨aaQ q.h ha.h hb.h⟩
end
section
variable {E:bY->Rs Tr}{B:bY->Rs Bool}{c8:List Expr}
def bb:QA X [] (λ_=>.ok []):=⟨Gq⟩
def aR(q:QE X o F)(hr:QA X az L)(hs:isStar o=false:=by rfl):QA X (o::az) (λY=>yh (F Y) (L Y)):=⟨Bc q.h hr.h hs⟩
def cf{q}(h:QA X az L):QE X (.Tuple az q pos) (λY=>Be (L Y)):=⟨Wq h.h⟩
def rS(h:QA X az L):QE X (.List az pos) (λY=>CU (L Y)):=⟨Wr h.h⟩
def cR(q:lQ X (.builtin ax) h)(hm:X.mg x=none)(ha:QA X (e::az) L)(hv:bootBuiltins x=some (.builtin ax):=by rfl) (hg:Gl X x:=by rfl) (hn:x≠"__name__":=by decide) (fR:Db x:=by decide) (cH:bC (e::az)=true:=by rfl):QE X (.Call (.Name x p) (e::az) [] pos) (λY=>d4 h (L Y)):=⟨NW q hm ha.h hv hg hn fR cH⟩
def fg(q:lQ X (.type ax) h)(hm:X.mg x=none)(ha:QA X (e::az) L)(hv:bootBuiltins x=some (.type ax):=by rfl) (hg:Gl X x:=by rfl) (hn:x≠"__name__":=by decide) (fR:Db x:=by decide) (cH:bC (e::az)=true:=by rfl):QE X (.Call (.Name x p) (e::az) [] pos) (λY=>d4 h (L Y)):=⟨Ky q hm ha.h hv hg hn fR cH⟩
def Yk{fd:FuncData}(D:zT X.K X.mg x ai ps a fd)(G:eC X.prog X.w X.K X.mg X.base mv i a fd ps (spT X.K h))(q:di i X.A)(ha:QA X (e::az) L)(hg:Gl X x:=by rfl) (fR:Db x:=by decide) (cH:bC (e::az)=true:=by rfl):QE X (.Call (.Name x p) (e::az) [] pos) (λY=>d4 h (L Y)):=⟨Ws D G q ha.h hg fR cH⟩
end
section
variable {c:Expr}{G G':bY->Rs Out}
def dY:QB X [] (λY=>.ok (.nx Y)):=⟨Wt⟩
def bQ(q:QS X ai G)(h2:QB X ah G'):QB X (ai::ah) (λY=>CV (G Y) G'):=⟨R9 q.h h2.h⟩
def cF(q:QS X ai G):QB X [ai] G:=⟨Wu q.h⟩
def fB{i:Nat}(he:QE X e F)(q:X.N.Nodup:=by assumption) (hi:X.N[i]?=some x:=by rfl) (hx:Loc X.env.scope x:=by first|exact Or.inl rfl|exact Or.inr rfl) (hs:sg e=false:=by rfl) (hf:zl X x:=by first|exact .inl rfl|exact .inr rfl|assumption):QS X (.Assign [.Name x p] e pos) (λY=>Kz i (F Y) Y):=⟨Ww he.h q hi hx hs hf⟩
def cM(he:QE X e F):QS X (.Return (some e) pos) (λY=>KA (F Y)):=⟨Wx he.h⟩
def gH(q:QT X c aE)(ha:QB X ah G)(hb:QB X aj G'):QS X (.If c ah aj pos) (λY=>U3 (aE Y) (G Y) (G' Y)):=⟨aaR q.h ha.h hb.h⟩
def fV(i:Nat)(q:X.N.Nodup:=by assumption) (hi:X.N[i]?=some x:=by rfl) (hx:Loc X.env.scope x:=by first|exact Or.inl rfl|exact Or.inr rfl) (hf:zl X x:=by first|exact .inl rfl|exact .inr rfl|assumption):QG X (.Name x pos) (gN i):=⟨R_ i q hi hx hf⟩
def G9:QGs X [] (EO []):=⟨Wy⟩
def qi{i:Nat}{is:List Nat}(h2:QGs X az (EO is))(q:X.N.Nodup:=by assumption) (hi:X.N[i]?=some x:=by rfl) (hx:Loc X.env.scope x:=by first|exact Or.inl rfl|exact Or.inr rfl) (hf:zl X x:=by first|exact .inl rfl|exact .inr rfl|assumption) (hs:(assignEach (.Name x pos::az) X.env).map (·.2)=assign (.Name x pos) X.env::(assignEach az X.env).map (·.2):=by rfl):QGs X (.Name x pos::az) (EO (i::is)):=⟨R' h2.h q hi hx hf hs⟩
def G_{is:List Nat}(h:QGs X az (EO is))(q:X.calm=true:=by rfl) (hn:(assignEach az X.env).length=is.length:=by rfl) (cH:(assignEach az X.env).findIdx? (·.1)=none:=by rfl):QG X (.Tuple az i pos) (gT is):=⟨Wz h.h q hn cH⟩
def Yl{T:o6}(q:QG X tg T)(he:QE X e F)(hs:swapsWithSole [tg] e pos.line X.env=pure false:=by rfl) (hw:swappedStores [tg] e X.env=pure none:=by rfl) (h1:(assignEach [tg] X.env).map (·.2)=[assign tg X.env]:=by rfl):QS X (.Assign [tg] e pos) (λY=>Ij T (F Y) Y):=⟨WA q.h he.h hs hw h1⟩
def oR(q:QE X e F):QI X tg e (λY=>KC (F Y)):=⟨WB q.h⟩
end
section
variable {G G':bY->Rs Out}
def LP(hm:X.mg "range"=none)(q:QA X [e] L)(hg:Gl X "range":=by rfl) (hs:bC [e]=true:=by rfl):QI X tg (.Call (.Name "range" p) [e] [] pos) (λY=>Gv (L Y)):=⟨KD hm q.h hg hs⟩
end
section
variable {b c:Expr}{G G':bY->Rs Out}{A:bY->Rs Bool}{N':List Str}{ix:List (Option Nat)}{T:o6}
def AA:QF X [] (λ_=>.ok true):=⟨WE⟩
def wb(h:QT X c A):QF X [c] A:=⟨WG h.h⟩
def Jh(q:gX X N' ix aw)(hi:QI X tg o L)(mw:DO X aw N' tg e az T A F)(hT:kg T)(hc:X.calm=true:=by rfl) (hs:isSet o=false:=by rfl):QE X (.ListComp e [⟨tg,o,az,0⟩] aw pos) (λY=>vV ix T A F (L Y) Y):=⟨aaS q hi.h mw.to hT hc hs⟩
def OV{i:Nat}(q:gX X N' ix aw)(hit:QI X tg o L)(mw:DO X aw N' tg e az T A F)(hT:kg T)(hN:X.N.Nodup:=by assumption) (hc:X.calm=true:=by rfl) (hi:X.N[i]?=some x:=by rfl) (hx:Loc X.env.scope x:=by first|exact Or.inl rfl|exact Or.inr rfl) (Ie:swapsWith (.ListComp e [⟨tg,o,az,0⟩] aw pos) (some (.Name x p)) b8.line X.env=pure true:=by rfl) (hs:isSet o=false:=by rfl) (hf:zl X x:=by first|exact .inl rfl|exact .inr rfl|assumption):QS X (.Assign [.Name x p] (.ListComp e [⟨tg,o,az,0⟩] aw pos) b8) (λY=>Kz i (vV ix T A F (L Y) Y) Y):=⟨N2 q hit.h mw.to hT hN hc hi hx Ie hs hf⟩
end
section
variable {b:Expr}
def bV(q:X.A.units+1<cLine)(ha:QE X o F)(hb:QE X b G)(hs:uk b:=by exact λ_ _=>rfl):QE X (.Subscript o b pos) (λY=>Kv jM (F Y) (G Y)):=⟨aaT q ha.h hb.h hs⟩
def qj:QO X none (λ_=>.ok none):=⟨Sm⟩
def qm(h:QE X e F):QO X (some e) (λY=>Ci (F Y)):=⟨Sn h.h⟩
end
def QN(q:QE X e F):QE X (.UnaryOp .USub e pos) (λY=>(F Y).bind Sq):=⟨WK q.h⟩
section
variable {E:bY->Rs Tr}{keys:List (Option Expr)}{P:bY->Rs (List (Tr×Tr))}
def LQ(h:QP X pos keys az P)(q:keys.all (·.isSome)=true:=by rfl) (hl:keys.length=az.length:=by rfl) (h0:keys.isEmpty=false:=by rfl) (NN:keys.length<=15:=by decide):QE X (.Dict keys az pos) (λY=>WL (P Y)):=⟨Su h q hl h0 NN⟩
def TQ(q:X.A.units+1<cLine)(ho:QE X o F)(he:QE X e G)(hb:isCall o=false:=by rfl) (cH:bC [e]=true:=by rfl) (hl:(b8.endLine==p.line)=true:=by rfl):QE X (.Call (.Attribute o "get" b8) [e] [] p) (λY=>KN (F Y) (G Y)):=⟨Sv q ho.h he.h hb cH hl⟩
def LR(q:X.A.units+1<cLine)(ho:QE X o F)(he:QE X e G)(hf:QE X al E)(hb:isCall o=false:=by rfl) (cH:bC [e,al]=true:=by rfl) (hl:(b8.endLine==p.line)=true:=by rfl):QE X (.Call (.Attribute o "get" b8) [e,al] [] p) (λY=>z8 (F Y) (G Y) (E Y)):=⟨Sw q ho.h he.h hf.h hb cH hl⟩
end
section
variable {a:Expr}{keys:List (Option Expr)}{P:bY->Rs (List (Tr×Tr))}
def Ym(g:Bj X.K X.w X.mg x bE)(q:QE X a F)(hg:Gl X x:=by rfl) (hd:Db x:=by decide) (hs:NK a:=by exact λ_ _=>rfl):QE X (.Subscript (.Name x p) a pos) (λY=>(F Y).bind (Sx bE)):=⟨WM g q.h hg hd hs⟩
end
def Yn(hm:X.mg "zip"=none)(q:QA X [e,o] L)(hg:Gl X "zip":=by rfl) (hs:bC [e,o]=true:=by rfl):QI X (.Tuple az i b8) (.Call (.Name "zip" p) [e,o] [] pos) (λY=>zpW (L Y)):=⟨Xt hm q.h hg hs⟩
def iK(h:QE X e F):QE X (.FormattedValue e (-1) none pos) (λY=>(F Y).bind OC):=⟨S4 h.h⟩
def Ha(q:QE X e F):QJ X tg e (λY=>K2 (F Y)):=⟨W6 q.h⟩
section
variable {b:Expr}{es:List Expr}{N':List Str}{ix:List (Option Nat)}{T:o6}
def QQ(q:gX X N' ix aw)(hi:QJ X tg o L)(mw:DO X aw N' tg e az T aE F)(hT:kg T)(hc:X.calm=true:=by rfl) (hs:isSet o=false:=by rfl):QE X (.ListComp e [⟨tg,o,az,0⟩] aw pos) (λY=>vV ix T aE F (L Y) Y):=⟨W7 q hi.h mw.to hT hc hs⟩
def TR{G:bY->Rs Out}(hi:QJ X tg o L)(q:QG X tg T)(hb:QB X ah G)(hp:PassesOwn (model X.prog X.w) X.A X.env X.xe:=by exact t5) (hc:X.calm=true:=by rfl) (hs:isSet o=false:=by rfl):QS X (.For tg o ah [] pos) (λY=>Gu T G (L Y) Y):=⟨SR hi.h q.h hb.h hp hc hs⟩
end
def Yo{h:List Tr->Tr->Rs Tr}(slot:Slot "list" x ax)(q:typeOf (.builtin ax)=pure (.type "method_descriptor"))(hm:RD X ax (XC X h))(ho:QE X o F)(he:QE X e G)(pa:PlainAttrs "list":=by exact sX) (pQ:isCall o=false:=by rfl) (cH:bC [e]=true:=by rfl) (gi:(b8.endLine==pos.line)=true:=by rfl):QE X (.Call (.Attribute o x b8) [e] [] pos) (λY=>lmR h (F Y) (G Y)):=⟨aa7 slot q hm ho.h he.h pa pQ cH gi⟩
section
variable {dH:Pos}
def Yp(q:X.A.units+1<cLine)(g:Lm X.K X.mg x ts)(he:QE X e G)(hg:Gl X x:=by rfl) (hd:Db x:=by decide) (cH:bC [e]=true:=by rfl) (gi:(b8.endLine==dH.line)=true:=by rfl):QE X (.Call (.Attribute (.Name x p) "index" b8) [e] [] dH) (λY=>(G Y).bind (wz ts)):=⟨XF q g he.h hg hd cH gi⟩
def Yq{q}(hu:X.A.units+1<cLine)(ht:QA X az L)(he:QE X e G)(cH:bC [e]=true:=by rfl) (gi:(b8.endLine==dH.line)=true:=by rfl):QE X (.Call (.Attribute (.Tuple az q pos) "index" b8) [e] [] dH) (λY=>(L Y).bind λts=>if ts.length<=dU then(G Y).bind (wz ts)else .bad):=⟨XG hu ht.h he.h cH gi⟩
end
section
variable {dH:Pos}{fd:FuncData}{k:Nat}
def TU(D:MethAt X.K x au ai ps a fd)(G:eC X.prog X.w X.K X.mg X.base mv k a fd ps (spT X.K h))(q:di k X.A)(ho:QE X o F)(ha:QA X (e::az) L){pl:Sem Bool}(cH:bC (e::az)=true:=by rfl) (ht:eval (.Call (.Attribute o au b8) (e::az) [] pos) X.env=uc pos b8 o au (e::az) X.env pl:=by rfl):QE X (.Call (.Attribute o au b8) (e::az) [] pos) (λY=>v7 x au h (F Y) (L Y)):=⟨Tb D G q ho.h ha.h cH ht⟩
def OW(D:MethAt X.K x au ai ps a fd)(G:eC X.prog X.w X.K X.mg X.base mv k a fd ps (spT X.K h))(q:di k X.A)(ho:QE X o F){pl:Sem Bool}(ht:eval (.Call (.Attribute o au b8) [] [] pos) X.env=uc pos b8 o au [] X.env pl:=by rfl):QE X (.Call (.Attribute o au b8) [] [] pos) (λY=>v7 x au h (F Y) (.ok [])):=⟨OG D G q ho.h ht⟩
end
section
variable {p2:Pos}
def TV(hs:X.mg "sorted"=none)(hm:X.mg "set"=none)(q:QE X e F)(hc:X.calm=true:=by rfl) (hg:Gl X "sorted":=by rfl) (LA:Gl X "set":=by rfl) (cH:bC [e]=true:=by rfl):QE X (.Call (.Name "sorted" p) [.Call (.Name "set" p2) [e] [] b8] [] pos) (λY=>(F Y).bind qa):=⟨Tz hs hm q.h hc hg LA cH⟩
end
def TX(T:BA X.K X.w X.mg x ps)(q:Gl X x:=by rfl) (fR:Db x:=by decide):QI X tg (.Name x p) (λ_=>.ok (ps.map .str)):=⟨TB T q fR⟩
def aV(h:QE X e F):ZE X e (λY A=>gY (F Y) A):=⟨SD h.h⟩
def bf(h:QE X e F):ZE X e (λY A=>sS (F (dM A Y)) A):=⟨SE h.h⟩
def cq(h:QT X e aE):ZT X e (λY A=>gY (aE (dM A Y)) A):=⟨Oo h.h⟩
def gQ(h:NE X e F):ZE X e (λY A=>wq (F (dM A Y)) A):=⟨WS h.h⟩
section
variable {c:Expr}{G:bY->Ab->Rz Out}{P:bY->Ab->Rz Bool}
def dz:ZB X [] (λY A=>.ok (.nx Y) A):=⟨WT⟩
def bq(q:ZS X ai G)(h2:ZB X ah aJ):ZB X (ai::ah) (λY A=>E4 (G Y A) aJ):=⟨SF q.h h2.h⟩
def bN(q:ZS X ai G):ZB X [ai] G:=⟨WU q.h⟩
def DT:ZE X e (λ_ _=>.bad):=⟨WV⟩
def iu{i:Nat}(he:ZE X e aH)(q:X.N.Nodup:=by assumption) (hi:X.N[i]?=some x:=by rfl) (hx:Loc X.env.scope x:=by first|exact Or.inl rfl|exact Or.inr rfl) (hs:sg e=false:=by rfl) (hf:zl X x:=by first|exact .inl rfl|exact .inr rfl|assumption):ZS X (.Assign [.Name x p] e pos) (λY A=>Bk i (aH Y A) Y):=⟨WW he.h q hi hx hs hf⟩
def fD(he:ZE X e aH):ZS X (.Return (some e) pos) (λY A=>KU (aH Y A)):=⟨WX he.h⟩
def TY:ZS X (.Return none pos) (λ_ A=>.ok (.ret .cu) A):=⟨SH⟩
def cg(he:ZE X e aH)(hs:sg e=false:=by rfl):ZS X (.Expr e pos) (λY A=>yq (aH Y A) Y):=⟨SI he.h hs⟩
def fE(q:ZT X c P)(h1:ZB X ah G)(h2:ZB X aj aJ):ZS X (.If c ah aj pos) (λY A=>ZW (P Y A) (G Y) (aJ Y)):=⟨aaW q.h h1.h h2.h⟩
def QR{T:o6}(q:QG X tg T)(hT:kg T)(he:ZE X e aH)(hs:swapsWithSole [tg] e pos.line X.env=pure false:=by rfl) (hw:swappedStores [tg] e X.env=pure none:=by rfl) (h1:(assignEach [tg] X.env).map (·.2)=[assign tg X.env]:=by rfl):ZS X (.Assign [tg] e pos) (λY A=>KW T (aH Y A) Y):=⟨WY q.h hT he.h hs hw h1⟩
theorem Hb{T:o6}(hi:QI X tg e L)(q:QG X tg T)(hT:kg T)(hb:ZB X ah G)(hp:PassesOwn (model X.prog X.w) X.A X.env X.xe:=by first|exact t5|exact PassesOwn.leaving) (hc:X.calm=true:=by rfl) (hs:isSet e=false:=by rfl):ZS X (.For tg e ah [] pos) (λY A=>KY T G (gY (L Y) A) Y):=⟨WZ hi.h q.h hT hb.h hp hc hs⟩
end
def bx:ZL X [] (λ_ A=>.ok [] A):=⟨KZ⟩
def aU(q:ZE X e aH)(hr:ZL X az aG)(hs:isStar e=false:=by rfl):ZL X (e::az) (λY A=>GQ (aH Y A) (aG Y)):=⟨GR q.h hr.h hs⟩
section
variable {r:V->List V->Hp->VK->Prop}{h:Nat->List Tr->Ab->Rz Tr}
def AB(slot:Slot "list" x ax)(q:typeOf (.builtin ax)=pure (.type "method_descriptor"))(hm:MtM X ax r)(hz:WrZ X r h)(ho:ZE X o aH)(ha:ZL X (e::az) aG)(pa:PlainAttrs "list":=by exact sX) (pQ:isCall o=false:=by rfl) (cH:bC (e::az)=true:=by rfl) (hn:(e::az).length<30:=by decide) (gi:(b8.endLine==p.line)=true:=by rfl):ZE X (.Call (.Attribute o x b8) (e::az) [] p) (λY A=>mtL h (aH Y A) (aG Y)):=⟨W3 slot q hm hz ho.h ha.h pa pQ cH hn gi⟩
end
def AD(h:QA X az L):NE X (.List az pos) (λY=>CU (L Y)):=⟨W4 h.h⟩
def mf:NE X (.Dict [] [] pos) (λ_=>.ok (.bU [])):=⟨SO⟩
section
variable {a b:Expr}{es:List Expr}{N':List Str}{ix:List (Option Nat)}{T:o6}{W:bY->Rs (List Tr)}
def TZ(q:gX X N' ix aw)(hi:QI X tg al W)(mw:DO X aw N' tg o az T aE F)(hT:kg T)(hc:X.calm=true:=by rfl) (hs:isSet al=false:=by rfl):NE X (.ListComp o [⟨tg,al,az,0⟩] aw pos) (λY=>vV ix T aE F (W Y) Y):=⟨aaX q hi.h mw.to hT hc hs⟩
def OX{i:Nat}(q:gX X N' ix aw)(hit:QI X tg al W)(mw:DO X aw N' tg o az T aE F)(hT:kg T)(hN:X.N.Nodup:=by assumption) (hc:X.calm=true:=by rfl) (hi:X.N[i]?=some x:=by rfl) (hx:Loc X.env.scope x:=by first|exact Or.inl rfl|exact Or.inr rfl) (Ie:swapsWith (.ListComp o [⟨tg,al,az,0⟩] aw pos) (some (.Name x p)) b8.line X.env=pure true:=by rfl) (hs:isSet al=false:=by rfl) (hf:zl X x:=by first|exact .inl rfl|exact .inr rfl|assumption):ZS X (.Assign [.Name x p] (.ListComp o [⟨tg,al,az,0⟩] aw pos) b8) (λY A'=>Bk i (wq (vV ix T aE F (W (dM A' Y)) (dM A' Y)) A') Y):=⟨Ot q hit.h mw.to hT hN hc hi hx Ie hs hf⟩
def yP(q:gP X (.type ax) (rF X h))(hm:X.mg x=none)(ha:QA X (e::es) L)(hv:bootBuiltins x=some (.type ax):=by rfl) (hg:Gl X x:=by rfl) (hn:x≠"__name__":=by decide) (fR:Db x:=by decide) (cH:bC (e::es)=true:=by rfl):NE X (.Call (.Name x p) (e::es) [] pos) (λY=>d4 h (L Y)):=⟨K1 q hm ha.h hv hg hn fR cH⟩
end
section
variable {h:List Tr->Ab->Rz Tr}{fd:FuncData}{k:Nat}
def Yr(D:zT X.K X.mg x ai ps a fd)(G:eC X.prog X.w X.K X.mg X.base (vo X.prog X.w) k a fd ps (v8 X.K h))(q:di k X.A)(ha:ZL X (e::az) aG)(hx:X.ex=[]:=by rfl) (hg:Gl X x:=by rfl) (fR:Db x:=by decide) (cH:bC (e::az)=true:=by rfl):ZE X (.Call (.Name x p) (e::az) [] pos) (λY A=>(aG Y A).bind h):=⟨XJ D G q ha.h hx hg fR cH⟩
end
section
variable {h:List Tr->Ab->Rz Tr}{fd:FuncData}{k:Nat}
def T1(D:MethAt X.K x au ai ps a fd)(G:eC X.prog X.w X.K X.mg X.base (vo X.prog X.w) k a fd ps (v8 X.K h))(q:di k X.A)(ho:ZE X o aH)(ha:ZL X (e::az) aG){pl:Sem Bool}(hx:X.ex=[]:=by rfl) (cH:bC (e::az)=true:=by rfl) (ht:eval (.Call (.Attribute o au b8) (e::az) [] pos) X.env=uc pos b8 o au (e::az) X.env pl:=by rfl):ZE X (.Call (.Attribute o au b8) (e::az) [] pos) (λY A=>rM x au h (aH Y A) (aG Y)):=⟨Td D G q ho.h ha.h hx cH ht⟩
def OY(D:MethAt X.K x au ai ps a fd)(G:eC X.prog X.w X.K X.mg X.base (vo X.prog X.w) k a fd ps (v8 X.K h))(q:di k X.A)(ho:ZE X o aH){pl:Sem Bool}(hx:X.ex=[]:=by rfl) (ht:eval (.Call (.Attribute o au b8) [] [] pos) X.env=uc pos b8 o au [] X.env pl:=by rfl):ZE X (.Call (.Attribute o au b8) [] [] pos) (λY A=>rM x au h (aH Y A) λA=>.ok [] A):=⟨OI D G q ho.h hx ht⟩
end
def gJ(D:rN X.K X.mg x)(q:ZL X (e::az) aG)(hx:X.ex=[]:=by rfl) (hc:X.calm=true:=by rfl) (hg:Gl X x:=by rfl) (fR:Db x:=by decide) (cH:bC (e::az)=true:=by rfl):ZS X (.Raise (some (.Call (.Name x p) (e::az) [] b8)) none pos) (λY A=>Fj x (aG Y A)):=⟨OK D q.h hx hc hg fR cH⟩
theorem du(T:iY X.K ps x)(he:QE X e F)(hb:attributeBase e x X.env (eval e X.env)=eval e X.env:=by first|exact gE rfl|rfl):QE X (.Attribute e x pos) (λY=>(F Y).bind (jV ps x)):=⟨Te T he.h hb⟩
theorem iL(T:iY X.K ps x)(he:ZE X e aI)(hb:attributeBase e x X.env (eval e X.env)=eval e X.env:=by first|exact gE rfl|rfl):ZE X (.Attribute e x pos) (λY A=>rD ps x (aI Y A)):=⟨Tf T he.h hb⟩
def qv(T:iY X.K ps x)(q:ZE X o aI)(hv:ZE X tg aH):ZS X (.Assign [.Attribute o x p] tg pos) (λY A=>XN ps x (aH Y A) (aI Y) Y):=⟨XO T q.h hv.h⟩
section
variable {b i:Expr}{E:bY->Ab->Rz Tr}
def uK(q:X.A.units+1<cLine)(h1:ZE X e aH)(h2:ZE X b aI)(hs:uk b:=by exact λ_ _=>rfl):ZE X (.Subscript e b pos) (λY A=>OM jM (aH Y A) (aI Y)):=⟨aa8 q h1.h h2.h hs⟩
def gq(q:X.A.units+1<cLine)(ho:ZE X o aH)(hi:ZE X i aI)(hv:ZE X tg E):ZS X (.Assign [.Subscript o i p] tg pos) (λY A=>Tg (E Y A) (aH Y) (aI Y) Y):=⟨Th q ho.h hi.h hv.h⟩
end
section
variable {E:bY->Ab->Rz Tr}
def FA(q:ZE X o aH)(he:ZE X e aI)(hb:isCall o=false:=by rfl) (cH:bC [e]=true:=by rfl) (hl:(b8.endLine==p.line)=true:=by rfl):ZE X (.Call (.Attribute o "pop" b8) [e] [] p) (λY A=>Lo (aH Y A) (aI Y)):=⟨Ti q.h he.h hb cH hl⟩
def LS(q:ZE X o aH)(he:ZE X e aI)(hf:ZE X tg E)(hb:isCall o=false:=by rfl) (cH:bC [e,tg]=true:=by rfl) (hl:(b8.endLine==p.line)=true:=by rfl):ZE X (.Call (.Attribute o "pop" b8) [e,tg] [] p) (λY A=>Lq (aH Y A) (aI Y) (E Y)):=⟨Tn q.h he.h hf.h hb cH hl⟩
end
section
variable {E:bY->Ab->Rz Tr}{c:Str}{h:List Tr->Ab->Rz Tr}{fd:FuncData}{k:Nat}
def T2(D:yH X.K X.mg c ps a fd)(aI:eC X.prog X.w X.K X.mg X.base (vo X.prog X.w) k a fd ps (v8 X.K h))(q:di (k+1) X.A)(ha:ZL X (e::az) aG)(hx:X.ex=[]:=by rfl) (hg:Gl X c:=by rfl) (fR:Db c:=by decide) (cH:bC (e::az)=true:=by rfl):ZE X (.Call (.Name c p) (e::az) [] pos) (λY A=>yG c h (aG Y A)):=⟨To D aI q ha.h hx hg fR cH⟩
def OZ(D:yH X.K X.mg c ps a fd)(aI:eC X.prog X.w X.K X.mg X.base (vo X.prog X.w) k a fd ps (v8 X.K h))(q:di (k+1) X.A)(hx:X.ex=[]:=by rfl) (hg:Gl X c:=by rfl) (fR:Db c:=by decide):ZE X (.Call (.Name c p) [] [] pos) (λ_ A=>yG c h (.ok [] A)):=⟨ON D aI q hx hg fR⟩
end
section
variable {b:Expr}{es:List Expr}{N':List Str}{ix:List (Option Nat)}{T:o6}
def LU{i:Nat}(q:gX X N' ix aw)(hit:QJ X tg o L)(mw:DO X aw N' tg e az T aE F)(hT:kg T)(hN:X.N.Nodup:=by assumption) (hc:X.calm=true:=by rfl) (hi:X.N[i]?=some x:=by rfl) (hx:Loc X.env.scope x:=by first|exact Or.inl rfl|exact Or.inr rfl) (Ie:swapsWith (.ListComp e [⟨tg,o,az,0⟩] aw pos) (some (.Name x p)) b8.line X.env=pure true:=by rfl) (hs:isSet o=false:=by rfl) (hf:zl X x:=by first|exact .inl rfl|exact .inr rfl|assumption):ZS X (.Assign [.Name x p] (.ListComp e [⟨tg,o,az,0⟩] aw pos) b8) (λY A'=>Bk i (wq (vV ix T aE F (L (dM A' Y)) (dM A' Y)) A') Y):=⟨Lw q hit.h mw.to hT hN hc hi hx Ie hs hf⟩
end
section
variable {P:bY->Ab->Rz Bool}{hp:Pos}{G2:bY->Ab->Rz Out}
def T5(h:ZE X e aH)(he:mZ e=true:=by rfl):ZT X e (λY A=>Ts (aH Y A)):=⟨Tt h.h he⟩
def T6(h:ZT X e P):ZT X (.UnaryOp .Not e pos) (λY A=>Tu (P Y A)):=⟨eq_not h.h⟩
end
section
variable {P:bY->Ab->Rz Bool}{hp:Pos}{abZ:Stmt}{G2:bY->Ab->Rz Out}
def LV:QE X e (λ_=>.bad):=⟨X2⟩
def Ys:QS X ai (λ_=>.bad):=⟨X3⟩
end
section
variable {p2:Pos}{c:Str}{tab:List (Str×Bool)}{cv:V}
def mh(T:iZ X.K (.ref (clsAt X.K c)) tab)(hm:X.mg c=some (.ref (clsAt X.K c)))(hi:X.mg "isinstance"=none)(he:QE X e F)(q:Gl X c:=by rfl) (LA:Gl X "isinstance":=by rfl) (fR:Db c:=by decide) (cH:bC [e,.Name c p2]=true:=by rfl):QE X (.Call (.Name "isinstance" p) [e,.Name c p2] [] pos) (λY=>(F Y).bind (I0 tab)):=⟨Tw T hm hi he.h q LA fR cH⟩
def T7(T:iZ X.K (.type ax) tab)(hm:X.mg c=none)(hi:X.mg "isinstance"=none)(he:QE X e F)(q:bootBuiltins c=some (.type ax):=by rfl) (hg:Gl X c:=by rfl) (hn:c≠"__name__":=by decide) (LA:Gl X "isinstance":=by rfl) (fR:Db c:=by decide) (cH:bC [e,.Name c p2]=true:=by rfl):QE X (.Call (.Name "isinstance" p) [e,.Name c p2] [] pos) (λY=>(F Y).bind (I0 tab)):=⟨Tx T hm hi he.h q hg hn LA fR cH⟩
end
def Yt(q:ZE X o aH)(he:ZE X e aI)(hb:isCall o=false:=by rfl) (cH:bC [e]=true:=by rfl) (hl:(b8.endLine==p.line)=true:=by rfl):ZE X (.Call (.Attribute o "update" b8) [e] [] p) (λY A=>X6 (aH Y A) (aI Y)):=⟨X7 q.h he.h hb cH hl⟩
section
variable {fd:FuncData}{k:Nat}{kp:Pos}{O:bY->Rs Tr}
def LW(D:MethAt X.K x au ai ps a fd)(q:Au X.K a)(G:eC X.prog X.w X.K X.mg X.base mv k a fd ps (spT X.K h))(hr:di (k+1) X.A)(hm:X.mg "min"=none)(hl:QE X e F)(ho:QE X o O)(hc:X.calm=true:=by rfl) (hg:Gl X "min":=by rfl) (cH:bC [e]=true:=by rfl) (hb:isCall o=false:=by rfl) (TJ:PySem.W.copiedNames.contains au=false:=by decide+kernel):QE X (.Call (.Name "min" p) [e] [⟨some "key",.Attribute o au b8,kp⟩] pos) (λY=>G6 x au h (F Y) (O Y)):=⟨LJ D q G hr hm hl.h ho.h hc hg cH hb TJ⟩
end
section
variable {P1 P2:bY->Rs (Option Int)}{lo hi:Option Expr}
def wc(he:QE X e F)(q:QO X lo P1)(hu:QO X hi P2):QE X (.Subscript e (.Slice lo hi none p) pos) (λY=>o4 (F Y) (P1 Y) (P2 Y)):=⟨Yf he.h q.h hu.h⟩
end
section
variable {dH:Pos}
def LX(hs:X.mg "sorted"=none)(q:QE X o F)(hc:X.calm=true:=by rfl) (hg:Gl X "sorted":=by rfl) (hb:isCall o=false:=by rfl) (gi:(b8.endLine==dH.line)=true:=by rfl):QE X (.Call (.Name "sorted" p) [.Call (.Attribute o "items" b8) [] [] dH] [] pos) (λY=>(F Y).bind wN):=⟨LN hs q.h hc hg hb gi⟩
end
def BF{keys:List (Option Expr)}{P:bY->Rs (List (Tr×Tr))}(q:QE X e F)(hv:QE X o G)(hr:QP X pos keys az P):QP X pos (some e::keys) (o::az) λY=>Qh (F Y) (G Y) (P Y):=Ol q.h hv.h hr
def zm.okQ {base:Heap}{qual:Str}{st:Stmt}{f:Addr}{fd:FuncData}{N:List Str}{k:Nat}(Fn:zm K x qual st f fd)(S:g_ N ps (bJ st))(len:∀ts t,h ts=.ok t->ts.length=ps.length)
  (kR:∀(gf:Value) (A:Around) (outer:List Env) (s:Shared) (H:Hp) (E:XK),di k (A.deeper (envOfC qual (bJ st) s.heap.objs.size f gf))->
   ∃G,QB (oY mv P w K mg base N qual (bJ st) f gf A outer s H E).JE (f_ st) G/\∀ts t,h ts=.ok t->dG (G (startT N.length ts))=.ok t):eC P w K mg base mv (k+1) f fd ps (spT K h):=
 Fn.okT S len λgf A outer s H E b=>let⟨G,h,q⟩:=kR gf A outer s H E b;⟨G,h.h,q⟩
def zm.abd {base:Heap}{qual:Str}{st:Stmt}{f:Addr}{fd:FuncData}{N:List Str}{k:Nat}(Fn:zm K x qual st f fd)(S:g_ N ps (bJ st))(len:∀ts t,h ts=.ok t->ts.length=ps.length)
  (kR:∀(gf:Value) (A:Around) (outer:List Env) (s:Shared) (H:Hp) (E:XK),di k (A.deeper (envOfC qual (bJ st) s.heap.objs.size f gf))->
   ∃G,ZB (oY mv P w K mg base N qual (bJ st) f gf A outer s H E).JE (f_ st) G/\∀ts t,h ts=.ok t->jD ts=true/\yr (G (startT N.length ts) [])=.ok t):eC P w K mg base mv (k+1) f fd ps (spT K h):=
 Fn.okZ S len λgf A outer s H E b=>let⟨G,h,q⟩:=kR gf A outer s H E b;⟨G,h.h,q⟩
def nW{keys:List (Option Expr)}{P:bY->Ab->Rz (List (Tr×Tr))}(q:ZE X e aH)(hv:ZE X o aI)(hr:Tq X pos keys az P):Tq X pos (some e::keys) (o::az) λY A=>QK (aH Y A) (aI Y) (P Y):=Lv q.h hv.h hr
def LY{keys:List (Option Expr)}{P:bY->Ab->Rz (List (Tr×Tr))}(h:Tq X pos keys az P)(q:keys.all (·.isSome)=true:=by rfl) (hl:keys.length=az.length:=by rfl) (h0:keys.isEmpty=false:=by rfl) (NN:keys.length<=15:=by decide):ZE X (.Dict keys az pos) (λY A=>X0 (P Y) A):=⟨OQ h q hl h0 NN⟩
structure JQ(X:Cx)(es:List Expr)(J:bY->Str->Rs Tr):Prop where
 h:PJ X es J
def m8:JQ X [] λ_ acc=>Du acc:=⟨Xu⟩
def dA{J:bY->Str->Rs Tr}(h:QE X e F)(q:JQ X az J):JQ X (e::az) λY acc=>uI (F Y) (J Y) acc:=⟨S5 h.h q.h⟩
def ja{J:bY->Str->Rs Tr}(h:JQ X (e::o::az) J):QE X (.JoinedStr (e::o::az) pos) (λY=>J Y Str.empty):=⟨OD h.h⟩
def O0{c n:Str}{G2:bY->Ab->Rz Out}(Tc:qW X.K X.mg c ps)(hb:∀pn q,ZB (X.kW pn q) ah aJ)(hs:∀pn e,ZB (X.qd pn e) (ai::aj) G2)(hN:X.N.Nodup)(hi:X.N[i]?=some n:=by rfl) (hl:X.env.scope.names.lookup n=some .local:=by rfl)
  (cH:X.stack=X.env::X.outer:=by rfl) (hf:X.env.frame=some X.env.locals:=by rfl) (hx:X.ex=[]:=by rfl) (Nl:zl X n:=by exact .inl rfl) (hg:Gl X c:=by rfl) (fR:Db c:=by decide):
  ZS X (.Try ah [.ExceptHandler (some (.Name c p)) (some n) (ai::aj) b8] [] [] pos) (λY A=>Fm X.N.length i ps (aJ Y A) G2):=⟨Ls Tc (λpn q=>(hb pn q).h) (λpn e=>(hs pn e).h) hN hi hl cH hf hx Nl hg fR⟩
def zm.abe {base:Heap}{qual:Str}{st:Stmt}{f:Addr}{fd:FuncData}{N:List Str}{k:Nat}{h:List Tr->Ab->Rz Tr}(Fn:zm K x qual st f fd)(S:g_ N ps (bJ st))(len:∀ts A,h ts A≠ .bad->ts.length=ps.length)
  (kR:∀(gf:Value) (A:Around) (outer:List Env) (s:Shared) (H:Hp) (E:XK),di k (A.deeper (envOfC qual (bJ st) s.heap.objs.size f gf))->
   ∃G,ZB (oY (vo P w) P w K mg base N qual (bJ st) f gf A outer s H E) (f_ st) G/\∀ts A,h ts A≠ .bad->h ts A=cD (G (startT N.length ts) A)):eC P w K mg base (vo P w) (k+1) f fd ps (v8 K h):=
 Fn.okS S len λgf A outer s H E b=>let⟨G,h,q⟩:=kR gf A outer s H E b;⟨G,h.h,q⟩
noncomputable def LZ(K:Frag)(D:Addr):Bool:=decide (findIn K (.ref D) "__getattribute__"=some (some (.builtin "BaseException.__getattribute__")))&&(decide (findIn K (.ref D) "__getattr__"=some none)&&(decide (findIn K (.ref D) "__class__"=some (some (.builtin "object.__class__")))&&(decide (mroIn K D (.type "object")=some true)&&decide (mroIn K D (.type "BaseException")=some true))))
def O1{K:Frag}{D:Addr}(h:LZ K D=true):Bz K D:=by
 unfold LZ at h;rw[bW,bW,bW,bW]at h;exact⟨eN h.1,eN h.2.1,eN h.2.2.1,eN h.2.2.2.1,eN h.2.2.2.2⟩
def Yu(K:Frag)(u:Value)(tab:List (Str×Bool)):Bool:=tab.all λp=>decide (kitOne K (.ref (clsAt K p.1)) u=some p.2)
def Yv(K:Frag)(xs:List Str):Bool:=xs.all λx=>LZ K (clsAt K x)&&(clsIn K (clsAt K x)).isSome
theorem m9{α:Type}{z:Str}:∀{l:List (Str×α)} {a:α},l.lookup z=some a->(z,a)∈l
 |[],_,h=>by cases h
 |(y,b)::l,a,h=>by
  rw[cP]at h;cases e:(z==y)with
  |true=>rw[e]at h;cases h;rw[eq_of_beq e];exact cB ..
  |false=>rw[e]at h;exact cx _ (m9 h)
def T8{K:Frag}{tab:List (Str×Bool)}{xs:List Str}(h:Yu K af tab=true)(q:Yv K xs=true)(e:tab.map (·.1)=xs):iZ K af tab:=⟨λx b g=>by
 have m:=m9 g;have l:=eN (dD.mp h _ m);have n:x∈xs:=by rw[<-e];exact gz m
 have h2:=dD.mp q x n;rw[bW]at h2;exact⟨l,O1 h2.1,h2.2⟩⟩
def Yw(K:Frag)(c:Str)(xs:List Str):Bool:=xs.all λx=>decide (exmOne K (.ref (clsAt K x)) (.ref (clsAt K c))=some true)
def L3{K:Frag}{xs:List Str}(m:mg au=some (.ref (clsAt K au)))(h:Yw K au xs=true):qW K mg au xs:=⟨m,λx b=>eN (dD.mp h x b)⟩
theorem Yx{P:List Value->Prop}(h:P []):∀us:List Value,us.length=0->P us
 |[],_=>h
theorem Yy{P:List Value->Prop}(h:∀a us,us.length=i->P (a::us)):∀us:List Value,us.length=i+1->P us
 |a::us,e=>h a us (Nat.succ.inj e)
def Yz{P:List Value->Prop}(h:∀a,P [a]):∀us:List Value,us.length=1->P us:=Yy λa=>Yx (P:=λl=>P (a::l)) (h a)
def YA{P:List Value->Prop}(h:∀a b,P [a,b]):∀us:List Value,us.length=2->P us:=Yy λa=>Yz (P:=λl=>P (a::l)) (h a)
def YB{P:List Value->Prop}(h:∀a b c,P [a,b,c]):∀us:List Value,us.length=3->P us:=Yy λa=>YA (P:=λl=>P (a::l)) (h a)
def YC{P:List Value->Prop}(h:∀a b c d,P [a,b,c,d]):∀us:List Value,us.length=4->P us:=Yy λa=>YB (P:=λl=>P (a::l)) (h a)
def us5{P:List Value->Prop}(h:∀a b c d e,P [a,b,c,d,e]):∀us:List Value,us.length=5->P us:=Yy λa=>YC (P:=λl=>P (a::l)) (h a)
section
variable {K:Frag}{f:Str}{C:Addr}
noncomputable def O2(K:Frag)(C:Addr):Bool:=plainGet K C Str.empty&&(hasDictIn K C&&(plainOver K C&&decide (findIn K (.ref C) "__setattr__"=some (some (.builtin "object.__setattr__")))))
def L4(h:O2 K C=true):EC K C:=by
 unfold O2 at h;rw[bW,bW,bW]at h;exact⟨h.1,h.2.1,h.2.2.1,eN h.2.2.2⟩
def abf(K:Frag)(C:Addr)(fs:List Str):Bool:=fs.all λf=>decide (findIn K (.ref C) f=some none)
end
def E3.gk {K:Frag}{bE:List (Str×Tr)}{ep:Nat}(h:E3 K w es kvs bE)(hm:mg x=some (.ref a))(q:K.lookup a=some ⟨.type "dict",none,.dict es.toArray ep,#[]⟩) (hs:(a==sysModules)=false) (hn:(kvs.map (·.1)).Nodup) (hz:∀z∈kvs.map (·.1),z.length<=cZ):BA K w mg x (kvs.map (·.1)):=
 ⟨a,kvs,hm,⟨hs,_,_,_,q,⟨rfl,rfl,rfl⟩,rfl,λprog=>⟨λe he=>h.keys prog e (by simpa using he),h.pairs prog,hn⟩⟩,rfl,hz⟩
structure Df where
 c:Option Str
 x:Str
 q:Str
 st:Stmt
 ps:List Str
def mtA(K:Frag)(c m:Str):Addr:=match findIn K (.ref (clsAt K c)) m with
 |some (some (.ref a))=>a
 |_=>0
noncomputable def fdA(K:Frag)(a:Addr):FuncData:=match K.lookup a with
 |some ⟨_,_,.func d,_⟩=>d
 |_=>default
noncomputable def isF(K:Frag)(a:Addr):Bool:=match K.lookup a with
 |some ⟨_,_,.func _,_⟩=>true
 |_=>false
def T9{K:Frag}(h:isF K a=true):∃q od Kd,K.lookup a=some ⟨q,od,.func (fdA K a),Kd⟩:=by
 unfold isF at h;unfold fdA;split at h
 ·rename_i e;rw[e];exact⟨_,_,_,rfl⟩
 ·cases h
namespace Df
def adr(K:Frag)(d:Df):Addr:=match d.c with
 |none=>clsAt K d.x
 |some c=>mtA K c d.x
def fd(K:Frag)(d:Df):FuncData:=fdA K (d.adr K)
def re(d:Df)(f:FuncData):FuncData:=fnOf d.x d.q (wH d.st) (f_ d.st) (bJ d.st) .none f.kwdefaults f.doc f.pyModule f.annotations f.code f.closureTuple
def isAt(K:Frag)(d:Df):Bool:=match d.c with
 |none=>decide (nsIn K mainGlobals d.x=some (some (.ref (d.adr K))))
 |some c=>decide (findIn K (.ref (clsAt K c)) d.x=some (some (.ref (d.adr K))))&&(isFn K (.ref (d.adr K))&&O2 K (clsAt K c))
def QU(K:Frag)(d:Df):Bool:=isF K (d.adr K)&&(codeIn K (d.fd K).code d.q&&(keepIn K (.ref (d.adr K))&&d.isAt K))
structure Ok(K:Frag)(mg:Str->Option Value)(d:Df):Prop where
 fn:zm K d.x d.q d.st (d.adr K) (d.fd K)
 m0:d.c=none->mg d.x=some (.ref (d.adr K))
 m1:∀c,d.c=some c->Meth K (clsAt K c) d.x (d.adr K)/\EC K (clsAt K c)
def of{K:Frag}{d:Df}(X:K.In aa)(G:aa.Ns mainGlobals mg)(e:d.fd K=d.re (d.fd K))(k:d.QU K=true):d.Ok K mg:=by
 unfold QU at k;rw[bW,bW,bW]at k;obtain⟨k1,k2,k3,b⟩:=k;obtain⟨g,od,Kd,l⟩:=T9 k1;refine⟨⟨⟨g,od,_,_,_,_,_,_,Kd,e,l,k2⟩,k3⟩,λz=>?_,λc z=>?_⟩<;>unfold isAt at b<;>rw[z]at b
 ·exact mg_of X G (eN b)
 ·rw[bW,bW]at b;exact⟨⟨eN b.1,b.2.1,k3⟩,L4 b.2.2⟩
end Df
theorem L5{K:Frag}{h:Heap}(X:K.In h)(G:h.Ns mainGlobals mg):∀{ds:List Df},ds.map (Df.fd K)=ds.map (λd=>d.re (d.fd K))->ds.all (Df.QU K)=true->∀d∈ds,d.Ok K mg
 |[],_,_,d,m=>nomatch m
 |a::ds,e,k,d,m=>by
  rw[iD,bW]at k;rw[bB,bB]at e;injection e with b g
  rcases bI.mp m with rfl|m
  ·exact Df.of X G b k.1
  ·exact L5 X G g k.2 d m
section
variable {K:Frag}{d:Df}{N:List Str}{k:Nat}
structure yQ(P:Program)(w:World)(K:Frag)(mg:Str->Option Value)(aa:Heap)(CX:Cz)(i:Nat)(d:Df)(sp:Sp):Prop where
 ok:eC P w K mg aa CX i (d.adr K) (d.fd K) d.ps sp
 bd:Binds K (d.fd K) d.ps []
 df:d.Ok K mg
abbrev BdA(d:Df):Prop:=∀(kV doc pm:Value) (an:Option Addr) (gf ct:Value) (us:List Value),us.length=d.ps.length->bindArgs (fnOf d.x d.q (wH d.st) (f_ d.st) (bJ d.st) .none kV doc pm an gf ct) ⟨us,[]⟩=pure (d.ps.zip us)
abbrev cxD(CX:Cz)(P:Program)(w:World)(K:Frag)(mg:Str->Option Value)(aa:Heap)(N:List Str)(d:Df):=oY CX P w K mg aa N d.q (bJ d.st) (d.adr K)
abbrev L6(K:Frag)(d:Df)(k:Nat)(gf:Value)(A:Around)(s:Shared):Prop:=di k (A.deeper (envOfC d.q (bJ d.st) s.heap.objs.size (d.adr K) gf))
def fY(N:List Str){a b:Nat}(D:d.Ok K mg)(hb:N.Nodup->∀q A outer s H E,L6 K d k q A s->ZB (cxD (vo P w) P w K mg aa N d q A outer s H E) (f_ d.st) aJ)(S:g_ N d.ps (bJ d.st):=by exact⟨rfl,rfl,rfl,by decide+kernel,rfl,by decide+kernel,by decide+kernel⟩) (B:BdA d:=by exact λ_ _ _ _ _ _=>by first|exact Yx rfl|exact Yz λ_=>rfl|exact YA λ_ _=>rfl|exact YB λ_ _ _=>rfl|exact YC λ_ _ _ _=>rfl|exact us5 λ_ _ _ _ _=>rfl) (ha:d.ps.length=a:=by rfl) (hn:N.length=b:=by rfl):
  yQ P w K mg aa (vo P w) (k+1) d (v8 K (ff a b aJ)):=by
 subst ha;subst hn;exact⟨zm.abe D.fn S (λts A e=>DB e) λq A outer s H E g=>⟨aJ,hb S.nd q A outer s H E g,λts A e=>OH e⟩,D.fn.binds B,D⟩
def kj(N:List Str){a b:Nat}{G:bY->Rs Out}(D:d.Ok K mg)(hb:N.Nodup->∀q A outer s H E,L6 K d k q A s->QB (cxD mv P w K mg aa N d q A outer s H E).JE (f_ d.st) G)(S:g_ N d.ps (bJ d.st):=by exact⟨rfl,rfl,rfl,by decide+kernel,rfl,by decide+kernel,by decide+kernel⟩) (B:BdA d:=by exact λ_ _ _ _ _ _=>by first|exact Yx rfl|exact Yz λ_=>rfl|exact YA λ_ _=>rfl|exact YB λ_ _ _=>rfl|exact YC λ_ _ _ _=>rfl|exact us5 λ_ _ _ _ _=>rfl) (ha:d.ps.length=a:=by rfl) (hn:N.length=b:=by rfl):
  yQ P w K mg aa mv (k+1) d (spT K (sk a b G)):=by
 subst ha;subst hn;exact⟨zm.okQ D.fn S (λts t e=>Oi e) λq A outer s H E g=>⟨G,hb S.nd q A outer s H E g,λts t e=>Sr e⟩,D.fn.binds B,D⟩
def abg(N:List Str){a b:Nat}(D:d.Ok K mg)(hb:N.Nodup->∀q A outer s H E,L6 K d k q A s->ZB (cxD mv P w K mg aa N d q A outer s H E).JE (f_ d.st) aJ)(S:g_ N d.ps (bJ d.st):=by exact⟨rfl,rfl,rfl,by decide+kernel,rfl,by decide+kernel,by decide+kernel⟩) (B:BdA d:=by exact λ_ _ _ _ _ _=>by first|exact Yx rfl|exact Yz λ_=>rfl|exact YA λ_ _=>rfl|exact YB λ_ _ _=>rfl|exact YC λ_ _ _ _=>rfl|exact us5 λ_ _ _ _ _=>rfl) (ha:d.ps.length=a:=by rfl) (hn:N.length=b:=by rfl):
  yQ P w K mg aa mv (k+1) d (spT K (Dg a b aJ)):=by
 subst ha;subst hn;exact⟨zm.abd D.fn S (λts t e=>K0 e) λq A outer s H E g=>⟨aJ,hb S.nd q A outer s H E g,λts t e=>Oq e⟩,D.fn.binds B,D⟩
def abh(D:d.Ok K mg)(B:BdA d:=by exact λ_ _ _ _ _ _=>by first|exact Yx rfl|exact Yz λ_=>rfl|exact YA λ_ _=>rfl|exact YB λ_ _ _=>rfl|exact YC λ_ _ _ _=>rfl|exact us5 λ_ _ _ _ _=>rfl):yQ P w K mg aa mv k d (spT K λ_=>.bad):=
 ⟨⟨λvs H Q E ⟨_,ts,_,_,t,e,_⟩=>(nomatch e),λA outer s H args us vs Q E _ _ _ _ ⟨_,ts,_,_,t,e,_⟩=>(nomatch e)⟩,D.fn.binds B,D⟩
theorem yQ.toZ (C:yQ P w K mg aa mv i d (spT K h)):yQ P w K mg aa (vo P w) i d (v8 K λts A=>gY (h ts) A):=⟨C.ok.toZ,C.bd,C.df⟩
def yQ.da {CX:Cz}{sp:Sp}(C:yQ P w K mg aa CX i d sp)(hc:d.c=none)(hx:d.x=x)(hq:d.q=x):zT K mg x d.st d.ps (d.adr K) (d.fd K):=
 ⟨by have f:=C.df.fn;rw[hx,hq]at f;exact f,C.bd,by have m:=C.df.m0 hc;rw[hx]at m;exact m⟩
def yQ.ma {CX:Cz}{sp:Sp}{c m:Str}(C:yQ P w K mg aa CX i d sp)(hc:d.c=some c)(hx:d.x=m):MethAt K c m d.st d.ps (d.adr K) (d.fd K):=
 ⟨⟨d.q,by have f:=C.df.fn;rw[hx]at f;exact f⟩,C.bd,by have m:=(C.df.m1 c hc).1;rw[hx]at m;exact m,(C.df.m1 c hc).2⟩
structure Ji(K:Frag)(mg:Str->Option Value)(c:Str):Prop where
 m:makesIn K (clsAt K c)=true
 k:keepIn K (.ref (clsAt K c))=true
 g:mg c=some (.ref (clsAt K c))
def yQ.mk' {CX:Cz}{sp:Sp}{c:Str}(C:yQ P w K mg aa CX i d sp)(M:Ji K mg c)(q:d.c=some c)(hx:d.x="__init__"):yH K mg c d.ps (d.adr K) (d.fd K):=
 ⟨by have m:=(C.df.m1 c q).1;rw[hx]at m;exact⟨M.m,m.at_,m.fn,M.k⟩,C.bd,M.g⟩
end
section
variable {d:Df}{k:Nat}{kp:Pos}{c m:Str}
section
variable {O:bY->Rs Tr}(C:yQ X.prog X.w X.K X.mg X.base mv i d (spT X.K h))
include C
theorem eR(hr:di k X.A)(ha:QA X (e::az) L)(hn:i<=k:=by first|decide|omega) (hc:d.c=none:=by rfl) (hx:d.x=x:=by rfl) (hq:d.q=x:=by rfl) (hg:Gl X x:=by rfl) (fR:Db x:=by decide) (cH:bC (e::az)=true:=by rfl):QE X (.Call (.Name x p) (e::az) [] pos) (λY=>d4 h (L Y)):=
 Yk (C.da hc hx hq) (C.ok.mono hn) hr ha hg fR cH
theorem kX(q:di k X.A)(ho:QE X o F)(ha:QA X (e::az) L)(hn:i<=k:=by first|decide|omega) (hc:d.c=some c:=by rfl) (hx:d.x=m:=by rfl) {pl:Sem Bool} (cH:bC (e::az)=true:=by rfl) (ht:eval (.Call (.Attribute o m b8) (e::az) [] pos) X.env=uc pos b8 o m (e::az) X.env pl:=by rfl):QE X (.Call (.Attribute o m b8) (e::az) [] pos) (λY=>v7 c m h (F Y) (L Y)):=
 TU (C.ma hc hx) (C.ok.mono hn) q ho ha cH ht
theorem qY(q:di k X.A)(ho:QE X o F)(hn:i<=k:=by first|decide|omega) (hc:d.c=some c:=by rfl) (hx:d.x=m:=by rfl) {pl:Sem Bool} (ht:eval (.Call (.Attribute o m b8) [] [] pos) X.env=uc pos b8 o m [] X.env pl:=by rfl):QE X (.Call (.Attribute o m b8) [] [] pos) (λY=>v7 c m h (F Y) (.ok [])):=
 OW (C.ma hc hx) (C.ok.mono hn) q ho ht
theorem L7(q:Au X.K (d.adr X.K))(hr:di (k+1) X.A)(hm:X.mg "min"=none)(hl:QE X tg F)(ho:QE X o O)(hn:i<=k:=by first|decide|omega) (hc:d.c=some c:=by rfl) (hx:d.x=m:=by rfl) (ca:X.calm=true:=by rfl) (hg:Gl X "min":=by rfl) (cH:bC [tg]=true:=by rfl) (hb:isCall o=false:=by rfl) (TJ:PySem.W.copiedNames.contains m=false:=by decide+kernel):
  QE X (.Call (.Name "min" p) [tg] [⟨some "key",.Attribute o m b8,kp⟩] pos) (λY=>G6 c m h (F Y) (O Y)):=
 LW (C.ma hc hx) q (C.ok.mono hn) hr hm hl ho ca hg cH hb TJ
end
section
variable {F:bY->Ab->Rz Tr}{L:bY->Ab->Rz (List Tr)}{h:List Tr->Ab->Rz Tr}(C:yQ X.prog X.w X.K X.mg X.base (vo X.prog X.w) i d (v8 X.K h))
include C
theorem iw(hr:di k X.A)(ha:ZL X (e::az) L)(hn:i<=k:=by first|decide|omega) (hc:d.c=none:=by rfl) (hx:d.x=x:=by rfl) (hq:d.q=x:=by rfl) (he:X.ex=[]:=by rfl) (hg:Gl X x:=by rfl) (fR:Db x:=by decide) (cH:bC (e::az)=true:=by rfl):ZE X (.Call (.Name x p) (e::az) [] pos) (λY A=>(L Y A).bind h):=
 Yr (C.da hc hx hq) (C.ok.mono hn) hr ha he hg fR cH
theorem cG(q:di k X.A)(ho:ZE X o F)(ha:ZL X (e::az) L)(hn:i<=k:=by first|decide|omega) (hc:d.c=some c:=by rfl) (hx:d.x=m:=by rfl) {pl:Sem Bool} (he:X.ex=[]:=by rfl) (cH:bC (e::az)=true:=by rfl) (ht:eval (.Call (.Attribute o m b8) (e::az) [] pos) X.env=uc pos b8 o m (e::az) X.env pl:=by rfl):ZE X (.Call (.Attribute o m b8) (e::az) [] pos) (λY A=>rM c m h (F Y A) (L Y)):=
 T1 (C.ma hc hx) (C.ok.mono hn) q ho ha he cH ht
theorem Hc(q:di k X.A)(ho:ZE X o F)(hn:i<=k:=by first|decide|omega) (hc:d.c=some c:=by rfl) (hx:d.x=m:=by rfl) {pl:Sem Bool} (he:X.ex=[]:=by rfl) (ht:eval (.Call (.Attribute o m b8) [] [] pos) X.env=uc pos b8 o m [] X.env pl:=by rfl):ZE X (.Call (.Attribute o m b8) [] [] pos) (λY A=>rM c m h (F Y A) λA=>.ok [] A):=
 OY (C.ma hc hx) (C.ok.mono hn) q ho he ht
theorem T_(M:Ji X.K X.mg c)(q:di (k+1) X.A)(ha:ZL X (e::az) L)(hn:i<=k:=by first|decide|omega) (hc:d.c=some c:=by rfl) (hx:d.x="__init__":=by rfl) (he:X.ex=[]:=by rfl) (hg:Gl X c:=by rfl) (fR:Db c:=by decide) (cH:bC (e::az)=true:=by rfl):ZE X (.Call (.Name c p) (e::az) [] pos) (λY A=>yG c h (L Y A)):=
 T2 (C.mk' M hc hx) (C.ok.mono hn) q ha he hg fR cH
theorem O3(M:Ji X.K X.mg c)(q:di (k+1) X.A)(hn:i<=k:=by first|decide|omega) (hc:d.c=some c:=by rfl) (hx:d.x="__init__":=by rfl) (he:X.ex=[]:=by rfl) (hg:Gl X c:=by rfl) (fR:Db c:=by decide):ZE X (.Call (.Name c p) [] [] pos) (λ_ A=>yG c h (.ok [] A)):=
 OZ (C.mk' M hc hx) (C.ok.mono hn) q he hg fR
end
end
def T'(nn:Nat){c n:Str}{i:Nat}{G2:bY->Ab->Rz Out}(Tc:qW X.K X.mg c ps)(hb:∀pn E',ZB (X.kW pn E') ah aJ)(hs:∀pn e,ZB (X.qd pn e) (ai::aj) G2)(hN:X.N.Nodup)(hi:X.N[i]?=some n:=by rfl) (hl:X.env.scope.names.lookup n=some .local:=by rfl)
  (cH:X.stack=X.env::X.outer:=by rfl) (hf:X.env.frame=some X.env.locals:=by rfl) (hx:X.ex=[]:=by rfl) (Nl:zl X n:=by exact .inl rfl) (hg:Gl X c:=by rfl) (q:X.N.length=nn:=by rfl) (fR:Db c:=by decide):
  ZS X (.Try ah [.ExceptHandler (some (.Name c p)) (some n) (ai::aj) b8] [] [] pos) (λY A=>Fm nn i ps (aJ Y A) G2):=by
 subst q;exact O0 Tc hb hs hN hi hl cH hf hx Nl hg fR
section
variable {A A':Ab}{n:Nat}{Y:bY}{t:Tr}
def L8:aZ n A (.tup ts)=.tup ts:=by cases n<;>rfl
def sF{z:Str}:aZ n A (.str z)=.str z:=by cases n<;>rfl
def L9{z:Int}:aZ n A (.int z)=.int z:=by cases n<;>rfl
def L_{z:Bool}:aZ n A (.bl z)=.bl z:=by cases n<;>rfl
def Ua:aZ n A .cu=.cu:=by cases n<;>rfl
def Ub{ns:List Int}:aZ n A (.vR ns)=.vR ns:=by cases n<;>rfl
def gV(h:A[i]?=some (.ins x bE)):aZ (n+1) A (.at i)=.ob x (bE.map λp=>(p.1,aZ n A p.2)):=by simp only[aZ,h]
def mi(h:A[i]?=some (.lst ts)):aZ (n+1) A (.at i)=.lst (ts.map (aZ n A)):=by simp only[aZ,h]
def gs(h:A[i]?=some (.bU aF)):aZ (n+1) A (.at i)=.bU (aF.map λp=>(p.1,aZ n A p.2)):=by simp only[aZ,h]
def gu(ts:List Tr):Prop:=∀t∈ts,∃us,t=.tup us
def wO(h:gu ts):ts.map (aZ n A)=ts:=by
 conv=>rhs;rw[<-jA ts]
 exact fZ λt b=>by obtain⟨us,rfl⟩:=h t b;exact L8
def gR(bE:List (Key×Tr)):Prop:=∀p∈bE,∀n A,aZ n A p.2=p.2
def iM{bE:List (Key×Tr)}(h:gR bE):(bE.map λp=>(p.1,aZ n A p.2))=bE:=by
 conv=>rhs;rw[<-jA bE]
 exact fZ λp hp=>by rw[h p hp];rfl
structure Ext(A A':Ab)(pins:List (Nat×Ao)):Prop where
 le:A.length<=A'.length
 at':∀k o,A[k]?=some o->A'[k]?=some ((pins.lookup k).getD o)
def Ext.refl:Ext A A []:=⟨bu _,λk o e=>e⟩
def Ext.trans {A2:Ab}{pins V:List (Nat×Ao)}(a:Ext A A' pins)(b:Ext A' A2 V):Ext A A2 (V++pins):=⟨cC a.le b.le,λk o e=>by
 rw[b.at' k _ (a.at' k o e),List.lookup_append];cases V.lookup k<;>rfl⟩
theorem Ext.put {o o':Ao}(h:A[i]?=some o'):Ext A (A.set i o) [(i,o)]:=⟨by rw[kM];exact bu _,λk x e=>by
 by_cases b:k=i
 ·subst b;rw[o9 (gx.mp e).1];simp only[List.lookup,bR,Option.getD]
 ·rw[mB (Ne.symm b),e];have:(k==i)=false:=by simpa using b
  simp only[List.lookup,this,Option.getD]⟩
def Ext.push {o:Ao}:Ext A (A++[o]) []:=⟨by simp,λk x e=>by rw[o7 (gx.mp e).1,e];rfl⟩
def lS{o:Ao}:(A++[o])[A.length]?=some o:=by simp
end
section
variable {β:Type}{A:Ab}{Y:bY}{x y t u:Tr}{a:ag}
def cO:(∀(a:ag) (f:ag->Rs β),(Rs.ok a).bind f=f a)/\(∀(a:ag) (A:Ab) (f:ag->Ab->Rz β),(Rz.ok a A).bind f=f a A)/\(∀(aB:Tr) (A:Ab) (f:ag->Ab->Rz β),(Rz.exc aB A:Rz ag).bind f=.exc aB A):=⟨λ_ _=>rfl,λ_ _ _=>rfl,λ_ _ _=>rfl⟩
def eV(a:ag)(A:Ab):gY (.ok a) A=.ok a A:=rfl
def ev:(∀Y A G,E4 (.ok (.nx Y) A) G=G Y A)/\(∀t A G,E4 (.ok (.ret t) A) G=.ok (.ret t) A)/\(∀aB A G,E4 (.exc aB A) G=.exc aB A)
  /\(∀i t A Y,Bk i (.ok t A) Y=.ok (.nx (Y.set i (.sh t))) A)/\(∀i aB A Y,Bk i (.exc aB A) Y=.exc aB A)
  /\(∀t A Y,yq (.ok t A) Y=.ok (.nx Y) A)/\(∀aB A Y,yq (.exc aB A) Y=.exc aB A)/\(∀t A,KU (.ok t A)=.ok (.ret t) A)/\(∀aB A,KU (.exc aB A)=.exc aB A)
  /\(∀Y A,cD (.ok (.nx Y) A)=.ok .cu A)/\(∀t A,cD (.ok (.ret t) A)=.ok t A)/\(∀aB A,cD (.exc aB A)=.exc aB A)
  /\(∀x A l,GQ (.ok x A) l=(l A).bind λxs A=>.ok (x::xs) A)/\(∀x l,yh (.ok x) l=l.bind λxs=>.ok (x::xs))
  /\(∀h x y,Kv h (.ok x) (.ok y)=h x y)/\(∀h l,d4 h (.ok l)=h l)/\(∀b,ZP (.ok (.bl b))=.ok b)
  /\(∀A a b,ZW (.ok true A) a b=a A)/\(∀A a b,ZW (.ok false A) a b=b A)/\(∀a b,U3 (.ok true) a b=a)/\(∀a b,U3 (.ok false) a b=b)
  /\(∀aB Y n,ye (aB::Y) (n+1)=ye Y n)/\(∀t Y,ye (.sh t::Y) 0=.ok t)/\(∀A t Y,dM A (.sh t::Y)=.sh (aZ 5 A t)::dM A Y)/\(∀A Y,dM A (.no::Y)=.no::dM A Y)/\(∀A,dM A []=[])
  /\(Be (.ok [])=.ok (.tup []))/\(∀a,Be (.ok [a])=.ok (.tup [a]))/\(∀a b,Be (.ok [a,b])=.ok (.tup [a,b]))/\(∀a b aB,Be (.ok [a,b,aB])=.ok (.tup [a,b,aB]))/\(∀a b aB d,Be (.ok [a,b,aB,d])=.ok (.tup [a,b,aB,d]))/\(∀a b aB d e,Be (.ok [a,b,aB,d,e])=.ok (.tup [a,b,aB,d,e]))
  /\(∀ts,Ar [.lst ts]=.ok (.int ts.length))/\(∀ts,Ar [.tup ts]=.ok (.int ts.length))/\(∀ts,Ar [.bU ts]=.ok (.int ts.length))
  /\(∀i j,vk (.int i) (.int j)=.ok (.int (i+j)))/\(∀x t A,Fj x (.ok [t] A)=.exc (.str x) A)/\(∀i,Sq (.int i)=.ok (.int (-i)))
  /\(∀i A,sS (.ok (.int i)) A=.ok (.int i) A)/\(∀z A,sS (.ok (.str z)) A=.ok (.str z) A)/\(∀b A,sS (.ok (.bl b)) A=.ok (.bl b) A)/\(∀A,sS (.ok .cu) A=.ok .cu A)/\(∀i A,sS (.ok (.at i)) A=.ok (.at i) A)
  /\(∀b,Kw (.ok true) b=b)/\(∀b,Kw (.ok false) b=.ok false)/\(∀b,ZQ (.ok true) b=.ok true)/\(∀b,ZQ (.ok false) b=b)/\(∀b,Ih (.ok b)=.ok (!b))/\(∀a b,Kx (.ok true) a b=a)/\(∀a b,Kx (.ok false) a b=b)
  /\(∀z bE,zo (.str z) (.bU bE)=.ok (.bl (fc bE (.inr z)).isSome))/\(∀z bE,Ob (.str z) (.bU bE)=.ok (.bl (!(fc bE (.inr z)).isSome)))/\(∀z,OC (.str z)=.ok (.str z))/\(∀z y,eqC (.str z) (.str y)=.ok (.bl (z==y)))/\(∀i j,eqC (.int i) (.int j)=.ok (.bl (i==j)))/\(∀i j,gtC (.int i) (.int j)=.ok (.bl (decide (j<i))))
  /\(∀Y,dG (.ok (.nx Y))=.ok .cu)/\(∀t,dG (.ok (.ret t))=.ok t)/\(∀t,KA (.ok t)=.ok (.ret t))/\(∀Y G,CV (.ok (.nx Y)) G=G Y)/\(∀t G,CV (.ok (.ret t)) G=.ok (.ret t))/\(∀i t Y,Kz i (.ok t) Y=.ok (.nx (Y.set i (.sh t)))):=by
 refine⟨?_,?_,?_,?_,?_,?_,?_,?_,?_,?_,?_,?_,?_,?_,?_,?_,?_,?_,?_,?_,?_,?_,?_,?_,?_,?_,?_,?_,?_,?_,?_,?_,?_,?_,?_,?_,?_,?_,?_,?_,?_,?_,?_,?_,?_,?_,?_,?_,?_,?_,?_,?_,?_,?_,?_,?_,?_,?_,?_,?_,?_,?_⟩<;>intros<;>rfl
def fj:(∀n A ts,aZ n A (.tup ts)=.tup ts)/\(∀n A z,aZ n A (.str z)=.str z)/\(∀n A i,aZ n A (.int i)=.int i)/\(∀n A b,aZ n A (.bl b)=.bl b)/\(∀n A,aZ n A .cu=.cu)/\(∀n A ns,aZ n A (.vR ns)=.vR ns):=⟨λ_ _ _=>L8,λ_ _ _=>sF,λ_ _ _=>L9,λ_ _ _=>L_,λ_ _=>Ua,λ_ _ _=>Ub⟩
variable {z:Str}{bE:List (Key×Tr)}
def yR{F:Nat->List Tr->Ab->Rz Tr}{l:Ab->Rz (List Tr)}(h:A[i]?=some (.lst ts)):mtL F (.ok (.at i) A) l=(l A).bind λus A=>F i us A:=by
 show(if W0 A i=true then(l A).bind λus A=>F i us A else .bad)=_;exact aX (by unfold W0;rw[h])
def yS(h:A[i]?=some (.lst ts))(q:ts.length<dU):SN i [t] A=.ok .cu (A.set i (.lst (ts++[t]))):=by
 show(match A[i]? with|some (.lst ts)=>if ts.length<dU then Rz.ok Tr.cu (A.set i (.lst (ts++[t])))else .bad|_=>.bad)=_;rw[h];exact aX q
def putD(A:Ab)(t q tv:Tr)(Y:bY):Rz Out:=match DD A t q tv with
 |some A'=>.ok (.nx Y) A'
 |none=>.bad
def kY{o k:Ab->Rz Tr}:Tg (.ok t A) o k Y=(o A).bind λu A=>(k A).bind λq A=>putD A u q t Y:=rfl
def kZ(h:A[i]?=some (.bU bE))(q:bE.length<dU):putD A (.at i) (.str z) t Y=.ok (.nx Y) (A.set i (.bU (kT bE (.inr z) t))):=by
 have:DD A (.at i) (.str z) t=some (A.set i (.bU (kT bE (.inr z) t))):=by
  show(match A[i]? with|some (.bU bE)=>if bE.length<dU then some (A.set i (.bU (kT bE (.inr z) t)))else none|_=>none)=_;rw[h];exact aX q
 unfold putD;rw[this]
def Hd(i:Nat)(q:Tr)(A:Ab):Rz Tr:=match kh q with
 |some key=>if m7 A i=true then match fc (oZ A i) key with
  |some v=>.ok v (A.set i (.bU (iI (oZ A i) key)))
  |none=>.bad
  else .bad
 |none=>.bad
def BG{k:Ab->Rz Tr}(h:A[i]?=some (.bU bE)):Lo (.ok (.at i) A) k=(k A).bind λq A=>Hd i q A:=by
 have e:m7 A i=true:=by unfold m7;rw[h]
 show(if m7 A i=true then(k A).bind λq A=>Hd i q A else .bad)=_;exact aX e
def BH{v:Tr}(h:A[i]?=some (.bU bE))(q:fc bE (.inr z)=some v):Hd i (.str z) A=.ok v (A.set i (.bU (iI bE (.inr z)))):=by
 have e:m7 A i=true:=by unfold m7;rw[h]
 have g:oZ A i=bE:=by unfold oZ;rw[h]
 unfold Hd;simp only[e,bX,kh,g,q]
def He(x:Ab->Rz Tr)(i:Nat)(q:Tr)(A:Ab):Rz Tr:=match kh q with
 |some key=>(x A).bind λtx A=>if m7 A i=true then match fc (oZ A i) key with
  |some v=>.ok v (A.set i (.bU (iI (oZ A i) key)))
  |none=>.ok tx A
  else .bad
 |none=>.bad
def Hf{k x:Ab->Rz Tr}(h:A[i]?=some (.bU bE)):Lq (.ok (.at i) A) k x=(k A).bind λq A=>He x i q A:=by
 have e:m7 A i=true:=by unfold m7;rw[h]
 show(if m7 A i=true then(k A).bind λq A=>He x i q A else .bad)=_;exact aX e
theorem Jj(q:fc bE (.inr z)=none):iI bE (.inr z)=bE:=mD.mpr λp hp=>by
 unfold fc at q;rw[Option.map_eq_none_iff,List.find?_eq_none]at q;simpa using q p hp
def Uc{o:Ao}(h:A[i]?=some o):A.set i o=A:=by
 apply pj;intro k;by_cases b:i=k
 ·subst b;rw[o9 (gx.mp h).1,h]
 ·rw[mB b]
def Hg{x:Ab->Rz Tr}(q:x A=.ok .cu A)(h:A[i]?=some (.bU bE)):He x i (.str z) A=.ok ((fc bE (.inr z)).getD .cu) (A.set i (.bU (iI bE (.inr z)))):=by
 have e:m7 A i=true:=by unfold m7;rw[h]
 have g:oZ A i=bE:=by unfold oZ;rw[h]
 unfold He;simp only[kh,q,Rz.bind,e,bX,g];cases b:fc bE (.inr z)with
 |some v=>rfl
 |none=>rw[Jj b,Uc h];rfl
def zD{y:Str}(h:z.length<=1000)(q:y.length<=1000):(λacc=>uI (.ok (.str z)) (λacc=>uI (.ok (.str y)) (λacc=>Du acc) acc) acc) Str.empty=.ok (.str (Str.empty++z++y)):=by
 have l1:(Str.empty++z).length<=cZ:=by rw[o8];show 0+z.length<=1000000;omega
 have l2:(Str.empty++z++y).length<=cZ:=by rw[o8,o8];show 0+z.length+y.length<=1000000;omega
 show(if(Str.empty++z).length<=cZ then uI (.ok (.str y)) (λacc=>Du acc) (Str.empty++z)else .bad)=_;rw[aX l1];show(if(Str.empty++z++y).length<=cZ then Du (Str.empty++z++y)else .bad)=_;rw[aX l2];exact aX l2
end
noncomputable def roomF(i:Nat):List (Str×Tr):=[("log",.at (i+1)),("ranks",.at (i+2)),("entries",.at (i+3)),("chosen",.at (i+4)),("banned",.at (i+5)),("invited",.at (i+6)),("read_marks",.at (i+7)),("said_by_key",.at (i+8))]
structure bz(A:Ab)(i:Nat)(rows:List Tr)(rk en ch bn iv:List (Key×Tr)):Prop where
 o:A[i]?=some (.ins "Room" (roomF i))
 lg:A[i+1]?=some (.lst rows)
 rk:A[i+2]?=some (.bU rk)
 en:A[i+3]?=some (.bU en)
 ch:A[i+4]?=some (.bU ch)
 bn:A[i+5]?=some (.bU bn)
 iv:A[i+6]?=some (.bU iv)
structure d9(rows:List Tr)(rk en ch bn iv:List (Key×Tr)):Prop where
 lg:gu rows
 rk:gR rk
 en:gR en
 ch:gR ch
 bn:gR bn
 iv:gR iv
section
variable {A:Ab}{rows:List Tr}{en ch bn iv:List (Key×Tr)}
def bz.abi (h:bz A i rows aF en ch bn iv)(f:d9 rows aF en ch bn iv):jV ["Room"] "log" (aZ 5 A (.at i))=.ok (.lst rows):=by
 rw[gV h.o];show Rs.ok (aZ 4 A (.at (i+1)))=_;rw[mi h.lg,wO f.lg]
def bz.vA (h:bz A i rows aF en ch bn iv)(f:d9 rows aF en ch bn iv):jV ["Room"] "ranks" (aZ 5 A (.at i))=.ok (.bU aF):=by
 rw[gV h.o];show Rs.ok (aZ 4 A (.at (i+2)))=_;rw[gs h.rk,iM f.rk]
def bz.abj (h:bz A i rows aF en ch bn iv)(f:d9 rows aF en ch bn iv):jV ["Room"] "entries" (aZ 5 A (.at i))=.ok (.bU en):=by
 rw[gV h.o];show Rs.ok (aZ 4 A (.at (i+3)))=_;rw[gs h.en,iM f.en]
def bz.YD (h:bz A i rows aF en ch bn iv)(f:d9 rows aF en ch bn iv):jV ["Room"] "chosen" (aZ 5 A (.at i))=.ok (.bU ch):=by
 rw[gV h.o];show Rs.ok (aZ 4 A (.at (i+4)))=_;rw[gs h.ch,iM f.ch]
def bz.L' (h:bz A i rows aF en ch bn iv)(f:d9 rows aF en ch bn iv):jV ["Room"] "banned" (aZ 5 A (.at i))=.ok (.bU bn):=by
 rw[gV h.o];show Rs.ok (aZ 4 A (.at (i+5)))=_;rw[gs h.bn,iM f.bn]
def bz.YE (h:bz A i rows aF en ch bn iv)(f:d9 rows aF en ch bn iv):jV ["Room"] "invited" (aZ 5 A (.at i))=.ok (.bU iv):=by
 rw[gV h.o];show Rs.ok (aZ 4 A (.at (i+6)))=_;rw[gs h.iv,iM f.iv]
def bz.abk (h:bz A i rows aF en ch bn iv):rD ["Room"] "log" (.ok (.at i) A)=.ok (.at (i+1)) A:=by unfold rD Rz.bind;simp only[h.o];rfl
def bz.O4 (h:bz A i rows aF en ch bn iv):rD ["Room"] "ranks" (.ok (.at i) A)=.ok (.at (i+2)) A:=by unfold rD Rz.bind;simp only[h.o];rfl
def bz.abl (h:bz A i rows aF en ch bn iv):rD ["Room"] "entries" (.ok (.at i) A)=.ok (.at (i+3)) A:=by unfold rD Rz.bind;simp only[h.o];rfl
def bz.O5 (h:bz A i rows aF en ch bn iv):rD ["Room"] "chosen" (.ok (.at i) A)=.ok (.at (i+4)) A:=by unfold rD Rz.bind;simp only[h.o];rfl
def bz.YF (h:bz A i rows aF en ch bn iv):rD ["Room"] "banned" (.ok (.at i) A)=.ok (.at (i+5)) A:=by unfold rD Rz.bind;simp only[h.o];rfl
def bz.YG (h:bz A i rows aF en ch bn iv):rD ["Room"] "invited" (.ok (.at i) A)=.ok (.at (i+6)) A:=by unfold rD Rz.bind;simp only[h.o];rfl
def bz.call (h:bz A i rows aF en ch bn iv){m:Str}(hm:Ep (roomF i) m=true)(F:List Tr->Ab->Rz Tr)(l:Ab->Rz (List Tr)):rM "Room" m F (.ok (.at i) A) l=(l A).bind λts A=>F (.at i::ts) A:=by
 show(match A[i]? with|some (.ins x fs)=>if x="Room"/\Ep fs m=true then(l A).bind λts A=>F (.at i::ts) A else .bad|_=>.bad)=_;rw[h.o];exact aX ⟨rfl,hm⟩
def Ext.same {A':Ab}{pins:List (Nat×Ao)}{k:Nat}{o:Ao}(e:Ext A A' pins)(h:A[k]?=some o)(n:pins.lookup k=none):A'[k]?=some o:=by rw[e.at' k o h,n];rfl
def Ext.new {A':Ab}{pins:List (Nat×Ao)}{k:Nat}{o o':Ao}(e:Ext A A' pins)(h:A[k]?=some o)(n:pins.lookup k=some o'):A'[k]?=some o':=by rw[e.at' k o h,n];rfl
variable {A':Ab}{dc:List Tr}{d':List (Key×Tr)}
theorem fq{o:Ao}(h:i≠ay):[(ay,o)].lookup i=none:=by
 have:(i==ay)=false:=by simpa using h
 simp only[List.lookup,this]
theorem FC{o:Ao}:[(i,o)].lookup i=some o:=by simp only[List.lookup,bR]
def bz.e_0 (h:bz A i rows aF en ch bn iv)(e:Ext A A' []):bz A' i rows aF en ch bn iv:=⟨e.same h.o rfl,e.same h.lg rfl,e.same h.rk rfl,e.same h.en rfl,e.same h.ch rfl,e.same h.bn rfl,e.same h.iv rfl⟩
def bz.sG (h:bz A i rows aF en ch bn iv)(e:Ext A A' [(i+1,.lst dc)]):bz A' i dc aF en ch bn iv:=⟨e.same h.o (fq (by omega)),e.new h.lg FC,e.same h.rk (fq (by omega)),e.same h.en (fq (by omega)),e.same h.ch (fq (by omega)),e.same h.bn (fq (by omega)),e.same h.iv (fq (by omega))⟩
def bz.O6 (h:bz A i rows aF en ch bn iv)(e:Ext A A' [(i+2,.bU d')]):bz A' i rows d' en ch bn iv:=⟨e.same h.o (fq (by omega)),e.same h.lg (fq (by omega)),e.new h.rk FC,e.same h.en (fq (by omega)),e.same h.ch (fq (by omega)),e.same h.bn (fq (by omega)),e.same h.iv (fq (by omega))⟩
def bz.abm (h:bz A i rows aF en ch bn iv)(e:Ext A A' [(i+3,.bU d')]):bz A' i rows aF d' ch bn iv:=⟨e.same h.o (fq (by omega)),e.same h.lg (fq (by omega)),e.same h.rk (fq (by omega)),e.new h.en FC,e.same h.ch (fq (by omega)),e.same h.bn (fq (by omega)),e.same h.iv (fq (by omega))⟩
def bz.abn (h:bz A i rows aF en ch bn iv)(e:Ext A A' [(i+4,.bU d')]):bz A' i rows aF en d' bn iv:=⟨e.same h.o (fq (by omega)),e.same h.lg (fq (by omega)),e.same h.rk (fq (by omega)),e.same h.en (fq (by omega)),e.new h.ch FC,e.same h.bn (fq (by omega)),e.same h.iv (fq (by omega))⟩
def bz.O7 (h:bz A i rows aF en ch bn iv)(e:Ext A A' [(i+5,.bU d')]):bz A' i rows aF en ch d' iv:=⟨e.same h.o (fq (by omega)),e.same h.lg (fq (by omega)),e.same h.rk (fq (by omega)),e.same h.en (fq (by omega)),e.same h.ch (fq (by omega)),e.new h.bn FC,e.same h.iv (fq (by omega))⟩
def bz.YH (h:bz A i rows aF en ch bn iv)(e:Ext A A' [(i+6,.bU d')]):bz A' i rows aF en ch bn d':=⟨e.same h.o (fq (by omega)),e.same h.lg (fq (by omega)),e.same h.rk (fq (by omega)),e.same h.en (fq (by omega)),e.same h.ch (fq (by omega)),e.same h.bn (fq (by omega)),e.new h.iv FC⟩
def uL(h:gu rows):gu (rows++[.tup ts]):=λt b=>by
 rcases dm.mp b with b|b
 ·exact h t b
 ·exact⟨ts,cQ.mp b⟩
def Jk{k:Key}(h:gR aF):gR (iI aF k):=λp hp=>h p ((e_.mp hp).1)
end
section
variable {f:ag->Tr}{l:List (Str×ag)}{z:Str}{a:ag}
noncomputable def dP(f:ag->Tr)(l:List (Str×ag)):List (Key×Tr):=l.map λp=>(Sum.inr p.1,f p.2)
noncomputable def fM(l:List (Str×ag))(z:Str)(a:ag):List (Str×ag):=if(l.any λp=>decide (p.1=z))=true then l.map (λp=>if p.1=z then(p.1,a)else p)else l++[(z,a)]
noncomputable def gZ(l:List (Str×ag))(z:Str):List (Str×ag):=l.filter λp=>decide (p.1≠z)
def Hh:((Sum.inr x:Key)=.inr z)↔x=z:=⟨λh=>by injection h,λh=>by rw[h]⟩
def Hi:(decide ((Sum.inr x:Key)=.inr z))=decide (x=z):=xw.mpr Hh
theorem dS:∀{l:List (Str×ag)},fc (dP f l) (.inr z)=(l.lookup z).map f
 |[]=>rfl
 |(y,b)::l=>by
  have g:=dS (l:=l);unfold fc at g⊢;show Option.map _ (List.find? _ ((Sum.inr y,f b)::dP f l))=_;rw[j_,cP];by_cases h:y=z
  ·subst h;simp
  ·have h2:(z==y)=false:=by simpa using Ne.symm h
   simp only[Hi,h,decide_false,h2];exact g
theorem mj:kT (dP f l) (.inr z) (f a)=dP f (fM l z a):=by
 unfold kT fM;have e:((dP f l).any λb=>decide (b.1=(.inr z:Key)))=l.any λp=>decide (p.1=z):=by
  unfold dP;rw[List.any_map];congr 1;funext p;exact Hi
 rw[e];split
 ·unfold dP;rw[cN,cN];apply fZ;intro p hp;by_cases h:p.1=z
  ·simp[h]
  ·simp[h]
 ·unfold dP;rw[g7];rfl
def wQ:iI (dP f l) (.inr z)=dP f (gZ l z):=by
 unfold iI gZ dP;rw[pB];congr 1;apply tN;intro p hp;show decide ((Sum.inr p.1:Key)≠ .inr z)=decide (p.1≠z);simp[Hh]
def k_:(dP f l).length=l.length:=bt _
def uM(h:∀a n A,aZ n A (f a)=f a):gR (dP f l):=λp hp n A=>by
 obtain⟨q,_,rfl⟩:=cI.mp hp;exact h q.2 n A
def Hj(h:∀p∈l,p.1.length<=cZ):Dh (dP f l)=.ok (l.map λp=>.str p.1):=by
 unfold Dh;rw[aX]
 ·unfold dP;rw[cN];rfl
 ·unfold dP;rw[pH,dD];intro p hp;exact gB (h p hp)
end
section
variable {k:Str->Int×Int}
theorem AE:∀{ns:List Str},(∀z∈ns,h [aB,.str z]=.ok (.tup [.int (k z).1,.int (k z).2]))->keysOf h aB (ns.map .str)=some (ns.map k)
 |[],_=>rfl
 |z::ns,q=>by
  show((keyOf (h [aB,.str z])).bind λk=>(keysOf h aB (ns.map .str)).map λks=>k::ks)=_;rw[q z (cB ..),AE λy b=>q y (cx _ b)]
  rfl
theorem vB{kf:Nat->Int×Int}:∀j,dt kf j<=j
 |0=>bu _
 |j+1=>by
  unfold dt;split
  ·exact bu _
  ·exact Nat.le_succ_of_le (vB j)
theorem uN{kf:Nat->Int×Int}:∀j,(∀a b,a<b->b<=j->(kf a).2<(kf b).2)->(∀a,a<=j->(kf (dt kf j)).1<=(kf a).1)/\(∀a,a<dt kf j->(kf (dt kf j)).1<(kf a).1)
 |0,_=>⟨λa ha=>by cases Nat.le_zero.mp ha;exact Int.le_refl _,λa ha=>absurd ha (xA _)⟩
 |j+1,l=>by
  obtain⟨g,h2⟩:=uN (kf:=kf) j λa b n hb=>l a b n (Nat.le_succ_of_le hb);have hb:=vB (kf:=kf) j;have r:=l (dt kf j) (j+1) (Nat.lt_succ_of_le hb) (bu _);have e:jP (kf (j+1)) (kf (dt kf j))=decide ((kf (j+1)).1<(kf (dt kf j)).1):=by
   unfold jP;by_cases q:(kf (j+1)).1<(kf (dt kf j)).1
   ·simp[q]
   ·simp[q];intros;omega
  unfold dt;rw[e];by_cases q:(kf (j+1)).1<(kf (dt kf j)).1
  ·rw[aX (gB q)];refine⟨λa ha=>?_,λa ha=>Int.lt_of_lt_of_le q (g a (xt ha))⟩;rcases Nat.lt_or_eq_of_le ha with ha|rfl
   ·exact Int.le_of_lt (Int.lt_of_lt_of_le q (g a (xt ha)))
   ·exact Int.le_refl _
  ·rw[ba (by simpa using q)];refine⟨λa ha=>?_,h2⟩;rcases Nat.lt_or_eq_of_le ha with ha|rfl
   ·exact g a (xt ha)
   ·exact Int.not_lt.mp q
end
section
variable {α:Type}{f:α->Tr}{l:List (Str×α)}{z:Str}{A:Ab}{n:Nat}
def ee:jM (.bU (dP f l)) (.str z)=l8 ((l.lookup z).map f):=by
 show(l8 (kh (.str z))).bind (λk=>l8 (fc (dP f l) k))=_;show l8 (fc (dP f l) (.inr z))=_;rw[dS]
theorem m_:∀{ns:List Str},nT (ns.map .str)=true
 |[]=>rfl
 |z::ns=>by rw[bB,nT,JG,pG];exact m_
def qZ{ns:List Str}:(ns.map Tr.str).map (aZ n A)=ns.map .str:=by
 rw[cN];exact fZ λz _=>sF
theorem DU{C:bY->Rs Bool}{Y:bY}{P:Str->Bool}(hF:∀z,F (.sh (.str z)::Y)=.ok (.str z)):∀{ns:List Str} {c:Cell},(∀z∈ns,C (.sh (.str z)::Y)=.ok (P z))->ES (gN 0) C F (ns.map .str) (c::Y)=.ok ((ns.filter P).map .str)
 |[],_,_=>rfl
 |z::ns,c,hC=>by
  have b:=DU (Y:=Y) hF (ns:=ns) (c:=.sh (.str z)) λy g=>hC y (cx _ g);show(NZ (C (.sh (.str z)::Y))).bind (λk=>if k then(NZ (F (.sh (.str z)::Y))).bind λy=>(ES (gN 0) C F (ns.map .str) (.sh (.str z)::Y)).bind λys=>.ok (y::ys)else ES (gN 0) C F (ns.map .str) (.sh (.str z)::Y))=_;rw[hC z (cB ..),hF z,b];show(if P z then _ else _)=_;cases e:P z with
  |true=>rw[lI e];rfl
  |false=>rw[jY (by rw[e];exact fI)];rfl
def Ma{ks:List (Int×Int)}{t:Tr}(q:Ep bE au=true)(TK:0<ts.length)(hs:keysOf h (.ob x bE) ts=some ks)(ht:ts[dt (λi=>ks.getD i (0,0)) (ts.length - 1)]?=some t):v9 x au h (.lst ts) (.ob x bE)=.ok t:=by
 unfold v9;simp only[q,TK,and_self,bX,hs,ht]
 rfl
def nc{r:Rs (List Tr)}{ix:List (Option Nat)}{Y AF:bY}{c:Cell}(P:Str->Bool){ns:List Str}(hr:r=.ok (ns.map .str))(hl:ns.length<=dU)(q:uA ix Y=c::AF)(hF:∀z,F (.sh (.str z)::AF)=.ok (.str z))(hC:∀z∈ns,aE (.sh (.str z)::AF)=.ok (P z)):vV ix (gN 0) aE F r Y=.ok (.lst ((ns.filter P).map .str)):=by
 unfold vV;rw[hr,q];show(if(ns.map Tr.str).length<=dU then _ else _)=_;rw[aX (by rw[bt];exact hl),DU hF hC]
 rfl
def uO(h:nT ts=true):wq (.ok (.lst ts)) A=.ok (.at A.length) (A++[.lst ts]):=aX h
def wR(h:∀p∈l,p.1.length<=1000):K2 (.ok (.bU (dP f l)))=.ok (l.map λp=>.str p.1):=Hj λp hp=>cC (h p hp) (by decide)
def map_fst:(l.map λp=>Tr.str p.1)=(l.map (·.1)).map .str:=by rw[cN];rfl
def Ext.idem {A':Ab}{pins:List (Nat×Ao)}{k:Nat}{o:Ao}(e:Ext A A' pins)(h:A[k]?=some o)(hu:pins.lookup k=none):Ext A A' ((k,o)::pins):=⟨e.le,λj x q=>by
 rw[cP];by_cases b:j=k
 ·subst b;rw[h]at q;cases q;rw[e.at' j o h,hu];simp
 ·have:(j==k)=false:=by simpa using b
  rw[this];exact e.at' j x q⟩
def Ext.cons {A' A2:Ab}{pins:List (Nat×Ao)}{k:Nat}{o:Ao}(a:Ext A A' pins)(b:Ext A' A2 [(k,o)]):Ext A A2 ((k,o)::pins):=a.trans b
def Ext.past {A' A2:Ab}{pins:List (Nat×Ao)}(a:Ext A A' [])(b:Ext A' A2 pins):Ext A A2 pins:=by have:=a.trans b;rwa[j9]at this
end
structure cj(A:Ab)(bc:List (Str×Bool))(a9:List (Str×Nat)):Prop where
 o:A[0]?=some (.ins "Hall" [("persons",.at 1),("places",.at 2),("hands",.at 3)])
 ps:A[1]?=some (.bU (dP .bl bc))
 pl:A[2]?=some (.bU (dP .at a9))
section
variable {A A':Ab}{bc:List (Str×Bool)}{a9:List (Str×Nat)}
def flB{l:List (Str×Bool)}:gR (dP .bl l):=uM λ_ _ _=>L_
def cj.O8 (h:cj A bc a9):jV ["Hall"] "persons" (aZ 5 A (.at 0))=.ok (.bU (dP .bl bc)):=by
 rw[gV h.o];show Rs.ok (aZ 4 A (.at 1))=_;rw[gs h.ps,iM flB]
def cj.Ud (h:cj A bc a9):jV ["Hall"] "places" (aZ 5 A (.at 0))=.ok (.bU (dP (λj=>aZ 3 A (.at j)) a9)):=by
 rw[gV h.o];show Rs.ok (aZ 4 A (.at 2))=_;rw[gs h.pl];unfold dP;rw[cN];rfl
def cj.abo (h:cj A bc a9):rD ["Hall"] "places" (.ok (.at 0) A)=.ok (.at 2) A:=by unfold rD Rz.bind;simp only[h.o];rfl
def cj.call (h:cj A bc a9){m:Str}(hm:Ep [("persons",.at 1),("places",.at 2),("hands",.at 3)] m=true)(F:List Tr->Ab->Rz Tr)(l:Ab->Rz (List Tr)):rM "Hall" m F (.ok (.at 0) A) l=(l A).bind λts A=>F (.at 0::ts) A:=by
 show(match A[0]? with|some (.ins x fs)=>if x="Hall"/\Ep fs m=true then(l A).bind λts A=>F (.at 0::ts) A else .bad|_=>.bad)=_;rw[h.o];exact aX ⟨rfl,hm⟩
def jq{b:Ab->Rz Tr}:OM aC (.ok aB A) b=(b A).bind λy A=>sS (aC (aZ 1 A aB) (aZ 1 A y)) A:=rfl
def wU{f:ag->Tr}{l:List (Str×ag)}(h:A[i]?=some (.bU (dP f l))):aZ 1 A (.at i)=.bU (dP f l):=by
 rw[gs h];unfold dP;rw[cN];rfl
theorem FD:(∀T G Y A,vp T G [] Y A=.ok (.nx Y) A)/\(∀T G t ts Y A,vp T G (t::ts) Y A=(gY (T t Y) A).bind λsR A=>(G sR A).bind λo A=>match o with
  |.nx q=>vp T G ts q A
  |.ct q=>vp T G ts q A
  |.bk q=>.ok (.nx q) A
  |.ret t=>.ok (.ret t) A)/\(∀T G ts A Y,KY T G (.ok ts A) Y=vp T G ts Y A)/\(∀i t Y,gN i t Y=.ok (Y.set i (.sh t)))/\(∀ts,KC (.ok (.tup ts))=.ok ts)/\(∀ts,KC (.ok (.lst ts))=.ok ts):=by
 refine⟨?_,?_,?_,?_,?_,?_⟩<;>intros<;>rfl
end
noncomputable def yT(j ks kb ka:Nat)(d v p:Str):List (Str×Tr):=[("rows",.at (j+1)),("roles",.at (j+2)),("stays",.at ks),("barred",.at kb),("asked",.at ka),("door",.str d),("voice",.str v),("past",.str p)]
abbrev nX:=Str×Int×Int×Option Int
noncomputable def FE:Option Int->Tr
 |none=>.cu
 |some n=>.int n
def wB(s:nX):Tr:=.tup [.str s.1,.int s.2.1,.int s.2.2.1,FE s.2.2.2]
structure bH(A:Ab)(j ks kb ka:Nat)(rows:List Tr)(bh:List (Str×Str))(stays:List nX)(bw asked:List Str)(d v p:Str):Prop where
 o:A[j]?=some (.bU (dP id (yT j ks kb ka d v p)))
 rw:A[j+1]?=some (.lst rows)
 rl:A[j+2]?=some (.bU (dP .str bh))
 st:A[ks]?=some (.lst (stays.map wB))
 br:A[kb]?=some (.lst (bw.map .str))
 as:A[ka]?=some (.lst (asked.map .str))
 nd:[j,j+1,j+2,ks,kb,ka].Nodup
section
variable {A A':Ab}{j kb ka n:Nat}{bh:List (Str×Str)}{stays:List nX}{asked:List Str}{v p:Str}
def hU(h:A[j]?=some (.bU (dP id bE))):aZ (n+1) A (.at j)=.bU (dP (aZ n A) bE):=by
 rw[gs h];unfold dP;rw[cN];rfl
def vC(h:A[j]?=some (.bU (dP id bE))):aZ 1 A (.at j)=.bU (dP id bE):=by
 rw[gs h];unfold dP;rw[cN];rfl
def Mb:(stays.map wB).map (aZ n A)=stays.map wB:=wO λt b=>by obtain⟨s,_,rfl⟩:=cI.mp b;exact⟨_,rfl⟩
def bH.Ue (h:bH A j ay kb ka ts bh stays ps asked au v p)(f:gu ts):jM (aZ (n+2) A (.at j)) (.str "rows")=.ok (.lst ts):=by
 rw[hU h.o,ee];show Rs.ok (aZ (n+1) A (.at (j+1)))=_;rw[mi h.rw,wO f]
def bH.yU (h:bH A j ay kb ka ts bh stays ps asked au v p):jM (aZ (n+2) A (.at j)) (.str "roles")=.ok (.bU (dP .str bh)):=by
 rw[hU h.o,ee];show Rs.ok (aZ (n+1) A (.at (j+2)))=_;rw[gs h.rl,iM (uM λ_ _ _=>sF)]
def bH.YI (h:bH A j ay kb ka ts bh stays ps asked au v p):jM (aZ (n+2) A (.at j)) (.str "stays")=.ok (.lst (stays.map wB)):=by
 rw[hU h.o,ee];show Rs.ok (aZ (n+1) A (.at ay))=_;rw[mi h.st,Mb]
def bH.Mc (h:bH A j ay kb ka ts bh stays ps asked au v p):jM (aZ (n+2) A (.at j)) (.str "barred")=.ok (.lst (ps.map .str)):=by
 rw[hU h.o,ee];show Rs.ok (aZ (n+1) A (.at kb))=_;rw[mi h.br,qZ]
def bH.Ug (h:bH A j ay kb ka ts bh stays ps asked au v p):jM (aZ (n+2) A (.at j)) (.str "asked")=.ok (.lst (asked.map .str)):=by
 rw[hU h.o,ee];show Rs.ok (aZ (n+1) A (.at ka))=_;rw[mi h.as,qZ]
def bH.a_d (h:bH A j ay kb ka ts bh stays ps asked au v p):jM (aZ (n+1) A (.at j)) (.str "door")=.ok (.str au):=by
 rw[hU h.o,ee];show Rs.ok (aZ n A (.str au))=_;rw[sF]
def bH.a_v (h:bH A j ay kb ka ts bh stays ps asked au v p):jM (aZ (n+1) A (.at j)) (.str "voice")=.ok (.str v):=by
 rw[hU h.o,ee];show Rs.ok (aZ n A (.str v))=_;rw[sF]
def bH.a_p (h:bH A j ay kb ka ts bh stays ps asked au v p):jM (aZ (n+1) A (.at j)) (.str "past")=.ok (.str p):=by
 rw[hU h.o,ee];show Rs.ok (aZ n A (.str p))=_;rw[sF]
def bH.abp (h:bH A j ay kb ka ts bh stays ps asked au v p):jM (aZ 1 A (.at j)) (.str "rows")=.ok (.at (j+1)):=by rw[vC h.o,ee];rfl
def bH.Uh (h:bH A j ay kb ka ts bh stays ps asked au v p):jM (aZ 1 A (.at j)) (.str "roles")=.ok (.at (j+2)):=by rw[vC h.o,ee];rfl
def bH.abq (h:bH A j ay kb ka ts bh stays ps asked au v p):jM (aZ 1 A (.at j)) (.str "stays")=.ok (.at ay):=by rw[vC h.o,ee];rfl
def bH.ext {pins:List (Nat×Ao)}(h:bH A j ay kb ka ts bh stays ps asked au v p)(e:Ext A A' pins)(q:∀k∈[j,j+1,j+2,ay,kb,ka],pins.lookup k=none):bH A' j ay kb ka ts bh stays ps asked au v p:=
 ⟨e.same h.o (q _ (by simp)),e.same h.rw (q _ (by simp)),e.same h.rl (q _ (by simp)),e.same h.st (q _ (by simp)),e.same h.br (q _ (by simp)),e.same h.as (q _ (by simp)),h.nd⟩
variable {dc:List Tr}{lh:List (Str×Str)}{qw:List nX}{yV:List Str}
def bH.ne (h:bH A j ay kb ka ts bh stays ps asked au v p):j≠ay/\j≠kb/\j≠ka/\j+1≠ay/\j+1≠kb/\j+1≠ka/\j+2≠ay/\j+2≠kb/\j+2≠ka/\ay≠kb/\ay≠ka/\kb≠ka:=by
 have:=h.nd;simp only[gA,bI,cJ,cK,kP]at this;obtain⟨⟨_,_,a,b,c⟩,⟨_,au,e,f⟩,⟨g,i,k⟩,⟨l,m⟩,n,_⟩:=this;exact⟨a,b,c,au,e,f,g,i,k,l,m,n⟩
theorem bH.YJ:j+2≠j+1/\j+2≠j:=⟨mJ _,dN (Nat.lt_add_of_pos_right (Nat.succ_pos 1))⟩
def bH.DV (h:bH A j ay kb ka ts bh stays ps asked au v p)(e:Ext A A' [(j+1,.lst dc)]):bH A' j ay kb ka dc bh stays ps asked au v p:=by
 obtain⟨_,_,_,b1,b2,b3,_⟩:=h.ne;exact⟨e.same h.o (fq (mJ j).symm),e.new h.rw FC,e.same h.rl (fq bH.YJ.1),e.same h.st (fq b1.symm),e.same h.br (fq b2.symm),e.same h.as (fq b3.symm),h.nd⟩
def bH.Ui (h:bH A j ay kb ka ts bh stays ps asked au v p)(e:Ext A A' [(j+2,.bU (dP .str lh))]):bH A' j ay kb ka ts lh stays ps asked au v p:=by
 obtain⟨_,_,_,_,_,_,b1,b2,b3,_⟩:=h.ne;exact⟨e.same h.o (fq bH.YJ.2.symm),e.same h.rw (fq bH.YJ.1.symm),e.new h.rl FC,e.same h.st (fq b1.symm),e.same h.br (fq b2.symm),e.same h.as (fq b3.symm),h.nd⟩
def bH.abr (h:bH A j ay kb ka ts bh stays ps asked au v p)(e:Ext A A' [(ay,.lst (qw.map wB))]):bH A' j ay kb ka ts bh qw ps asked au v p:=by
 obtain⟨a,_,_,b,_,_,c,_,_,g,l,_⟩:=h.ne;exact⟨e.same h.o (fq a),e.same h.rw (fq b),e.same h.rl (fq c),e.new h.st FC,e.same h.br (fq g.symm),e.same h.as (fq l.symm),h.nd⟩
def gb{o:Ao}(h:A[i]?=some o):i<A.length:=(gx.mp h).1
def Md{l1 l2:List Nat}(h:(l1++i::l2).Nodup)(q:∀k∈l1++l2,k<ay):(l1++ay::l2).Nodup:=
 List.perm_middle.nodup_iff.mpr (gA.mpr ⟨λm=>fb _ (q _ m),(gA.mp (List.perm_middle.nodup_iff.mp h)).2⟩)
def bH.abt (h:bH A j ay kb ka ts bh stays ps asked au v p):bH ((A++[Ao.lst (yV.map .str)]).set j (.bU (dP id (yT j ay kb A.length au v p)))) j ay kb A.length ts bh stays ps yV au v p:=by
 obtain⟨a,b,_⟩:=h.ne;have g:Ext A (A++[Ao.lst (yV.map .str)]) []:=Ext.push;have l:Ext (A++[Ao.lst (yV.map .str)]) _ _:=Ext.put (o:=.bU (dP id (yT j ay kb A.length au v p))) (g.same h.o rfl);refine⟨l.new (g.same h.o rfl) FC,l.same (g.same h.rw rfl) (fq (mJ j)),l.same (g.same h.rl rfl) (fq bH.YJ.2),l.same (g.same h.st rfl) (fq a.symm),l.same (g.same h.br rfl) (fq b.symm),l.same lS (fq (dN (gb h.o))),Md (l1:=[j,j+1,j+2,ay,kb]) (l2:=[]) h.nd λk m=>?_⟩;simp only[dm,bI,cJ,cK]at m;rcases m with rfl|rfl|rfl|rfl|rfl
 ·exact gb h.o
 ·exact gb h.rw
 ·exact gb h.rl
 ·exact gb h.st
 ·exact gb h.br
def bH.abu (h:bH A j ay kb ka ts bh stays ps asked au v p):bH ((A++[Ao.lst (qw.map wB)]).set j (.bU (dP id (yT j A.length kb ka au v p)))) j A.length kb ka ts bh qw ps asked au v p:=by
 obtain⟨_,b,c,_⟩:=h.ne;have g:Ext A (A++[Ao.lst (qw.map wB)]) []:=Ext.push;have l:Ext (A++[Ao.lst (qw.map wB)]) _ _:=Ext.put (o:=.bU (dP id (yT j A.length kb ka au v p))) (g.same h.o rfl);refine⟨l.new (g.same h.o rfl) FC,l.same (g.same h.rw rfl) (fq (mJ j)),l.same (g.same h.rl rfl) (fq bH.YJ.2),l.same lS (fq (dN (gb h.o))),l.same (g.same h.br rfl) (fq b.symm),l.same (g.same h.as rfl) (fq c.symm),Md (l1:=[j,j+1,j+2]) (l2:=[kb,ka]) h.nd λk m=>?_⟩;simp only[dm,bI,cJ,cK,or_assoc]at m;rcases m with rfl|rfl|rfl|rfl|rfl
 ·exact gb h.o
 ·exact gb h.rw
 ·exact gb h.rl
 ·exact gb h.br
 ·exact gb h.as
def Hk:Nk (.str x) (.str au)=.ok (.bl (!(x==au))):=rfl
theorem yW:∀{stays:List nX},nT (stays.map wB)=true
 |[]=>rfl
 |s::stays=>by
  rw[bB,nT,yW,Bool.and_true];obtain⟨a,b,c,e⟩:=s;cases e<;>rfl
theorem Me{α:Type}{C:bY->Rs Bool}{F:bY->Rs Tr}{Y:bY}{P:α->Bool}{g h:α->Tr}:∀{xs:List α} {c:Cell},(∀x∈xs,C (.sh (g x)::Y)=.ok (P x))->(∀x∈xs,P x=true->F (.sh (g x)::Y)=.ok (h x))->ES (gN 0) C F (xs.map g) (c::Y)=.ok ((xs.filter P).map h)
 |[],_,_,_=>rfl
 |x::xs,c,hC,hF=>by
  have l:=Me (Y:=Y) (C:=C) (F:=F) (P:=P) (g:=g) (h:=h) (xs:=xs) (c:=.sh (g x)) (λy b=>hC y (cx _ b)) λy b=>hF y (cx _ b);show(NZ (C (.sh (g x)::Y))).bind (λk=>if k then(NZ (F (.sh (g x)::Y))).bind λy=>(ES (gN 0) C F (xs.map g) (.sh (g x)::Y)).bind λys=>.ok (y::ys)else ES (gN 0) C F (xs.map g) (.sh (g x)::Y))=_;rw[hC x (cB ..),l];show(if P x then _ else _)=_;cases e:P x with
  |true=>rw[lI e,hF x (cB ..) e];rfl
  |false=>rw[jY (by rw[e];exact fI)];rfl
def lT{r:Rs (List Tr)}{ix:List (Option Nat)}{Y AF:bY}{c:Cell}(P:ag->Bool)(g h:ag->Tr){xs:List ag}(hr:r=.ok (xs.map g))(hl:xs.length<=dU)(q:uA ix Y=c::AF)(hC:∀x∈xs,aE (.sh (g x)::AF)=.ok (P x))(hF:∀x∈xs,P x=true->F (.sh (g x)::AF)=.ok (h x)):vV ix (gN 0) aE F r Y=.ok (.lst ((xs.filter P).map h)):=by
 unfold vV;rw[hr,q];show(if(xs.map g).length<=dU then _ else _)=_;rw[aX (by rw[bt];exact hl),Me hC hF]
 rfl
def Jl:kT (dP id (yT j ay kb ka au v p)) (.inr "asked") (.at n)=dP id (yT j ay kb n au v p):=mj (f:=id) (a:=.at n)
def Jm:kT (dP id (yT j ay kb ka au v p)) (.inr "stays") (.at n)=dP id (yT j n kb ka au v p):=mj (f:=id) (a:=.at n)
def bH.abv {x:Ao}{Y:bY}(h:bH A j ay kb ka ts bh stays ps asked au v p):putD (A++[x]) (.at j) (.str "asked") (.at A.length) Y=.ok (.nx Y) ((A++[x]).set j (.bU (dP id (yT j ay kb A.length au v p)))):=by
 rw[kZ (Ext.push.same h.o rfl) (by rw[k_];show 8<dU;decide),Jl]
def bH.abw {x:Ao}{Y:bY}(h:bH A j ay kb ka ts bh stays ps asked au v p):putD (A++[x]) (.at j) (.str "stays") (.at A.length) Y=.ok (.nx Y) ((A++[x]).set j (.bU (dP id (yT j A.length kb ka au v p)))):=by
 rw[kZ (Ext.push.same h.o rfl) (by rw[k_];show 8<dU;decide),Jm]
end
open PyProof
section
variable {A:Ab}
def FF{ns:List Int}(h:0<ns.length):rP ns∈ns/\∀x∈ns,x<=rP ns:=by
 obtain⟨n,h2⟩:=argBest_gt (λi=>ns.getD i 0) (ns.length - 1);have b:argBest (λi j=>decide (ns.getD i 0>ns.getD j 0)) (ns.length - 1)<ns.length:=by omega
 constructor
 ·unfold rP;rw[eM,b_ b];exact kL _
 ·intro x g;obtain⟨a,ha,e⟩:=List.getElem_of_mem g;have:=h2 a (by omega);have l:ns.getD a 0=x:=by rw[eM,b_ ha,e];rfl
  rw[<-l];exact this
theorem ints_map{α:Type}{f:α->Int}:∀{l:List α},rO (l.map λx=>.int (f x))=some (l.map f)
 |[]=>rfl
 |x::l=>by show(rO (l.map λx=>.int (f x))).map (λr=>f x::r)=_;rw[ints_map];rfl
def max_map{f:ag->Int}{l:List ag}(h:l≠[]):LB [.lst (l.map λx=>.int (f x))]=.ok (.int (rP (l.map f))):=by
 show(match rO (l.map λx=>Tr.int (f x))with|some ns=>if 0<ns.length then Rs.ok (Tr.int (rP ns))else .bad|none=>.bad)=_;rw[ints_map];exact aX (by rw[bt];exact tB.mpr h)
theorem wV:zo (.str x) (.lst (ps.map .str))=.ok (.bl (ps.contains x)):=by
 show R8 (KL (.str x) (ps.map .str))=_;have:((ps.map Tr.str).all yl)=true:=by rw[pH];exact dD.mpr λ_ _=>rfl
 unfold KL;rw[aX ⟨rfl,this⟩,List.any_map];show Rs.ok (Tr.bl _)=_;congr 2;rw[List.contains_eq_any_beq];congr 1;funext y;show(y==x)=(x==y);exact Bool.beq_comm
def uP:Ob (.str x) (.lst (ps.map .str))=.ok (.bl (!ps.contains x)):=by
 show R8 (Ih (KL (.str x) (ps.map .str)))=_;have:R8 (KL (.str x) (ps.map .str))=.ok (.bl (ps.contains x)):=wV;unfold KL at*;have h:((ps.map Tr.str).all yl)=true:=by rw[pH];exact dD.mpr λ_ _=>rfl
 rw[aX ⟨rfl,h⟩]at*;have e:Rs.ok (Tr.bl ((ps.map Tr.str).any λy=>eqT y (.str x)))=.ok (.bl (ps.contains x)):=this;injection e with e;injection e with e
 show Rs.ok (Tr.bl (!_))=_;rw[e]
def Uj{f:ag->Tr}{l:List (Str×ag)}:uz (.bU (dP f l))=.ok (!l.isEmpty):=by cases l<;>rfl
end
def nS(l:List Str):List (Key×Tr):=dP .bl (l.map λz=>(z,true))
theorem BI{z:Str}:∀{l:List Str},(l.map λz=>(z,true)).lookup z=if l.contains z=true then some true else none
 |[]=>rfl
 |y::l=>by
  rw[bB,cP,List.contains_cons];cases e:(z==y)with
  |true=>rfl
  |false=>rw[BI,jk]
def vD{z:Str}:fc (nS ps) (.inr z)=if ps.contains z=true then some (.bl true)else none:=by
 unfold nS;rw[dS,BI];cases ps.contains z<;>rfl
def Hl:iI (nS ps) (.inr x)=nS (ps.filter λy=>!(y==x)):=by
 unfold nS;rw[wQ];congr 1;unfold gZ;rw[pB];congr 1;apply tN;intro y _;show decide (y≠x)=!(y==x);by_cases h:y=x
 ·subst h;simp
 ·simp[h]
def wW:gR (nS ps):=uM λ_ _ _=>L_
structure fS(A:Ab)(bF:List Str)(c7:List (Str×Nat)):Prop where
 o:A[4]?=some (.bU (dP id [("people",.at 5),("rooms",.at 6)]))
 pe:A[5]?=some (.lst (bF.map .str))
 rs:A[6]?=some (.bU (dP .at c7))
section
variable {A A':Ab}{c7:List (Str×Nat)}{n:Nat}
def fS.Uk (h:fS A ps c7):jM (aZ (n+2) A (.at 4)) (.str "people")=.ok (.lst (ps.map .str)):=by
 rw[hU h.o,ee];show Rs.ok (aZ (n+1) A (.at 5))=_;rw[mi h.pe,qZ]
def fS.Mf (h:fS A ps c7):jM (aZ (n+2) A (.at 4)) (.str "rooms")=.ok (.bU (dP (λj=>aZ n A (.at j)) c7)):=by
 rw[hU h.o,ee];show Rs.ok (aZ (n+1) A (.at 6))=_;rw[gs h.rs];unfold dP;rw[cN];rfl
def fS.Ul (h:fS A ps c7):jM (aZ 1 A (.at 4)) (.str "rooms")=.ok (.at 6):=by rw[vC h.o,ee];rfl
def DW{f:ag->Tr}{l:List (Str×ag)}:KN (.ok (.bU (dP f l))) (.ok (.str x))=.ok (((l.lookup x).map f).getD .cu):=by
 show(l8 (kh (.str x))).bind (λk=>Rs.ok ((fc (dP f l) k).getD .cu))=_;show Rs.ok ((fc (dP f l) (.inr x)).getD .cu)=_;rw[dS]
def O9:GD (.bU aF) .cu=.ok (.bl false):=rfl
end
section
variable {A A':Ab}{kb ka n:Nat}{bh:List (Str×Str)}{stays:List nX}{asked l':List Str}{p d' v' p' cV:Str}
def bH.abx (h:bH A i ay kb ka ts bh stays ps asked x au p)(e:Ext A A' [(ka,.lst (l'.map .str))]):bH A' i ay kb ka ts bh stays ps l' x au p:=by
 have n:=h.ne;exact⟨e.same h.o (fq (by omega)),e.same h.rw (fq (by omega)),e.same h.rl (fq (by omega)),e.same h.st (fq (by omega)),e.same h.br (fq (by omega)),e.new h.as FC,h.nd⟩
def bH.aby (h:bH A i ay kb ka ts bh stays ps asked x au p)(e:Ext A A' [(kb,.lst (l'.map .str))]):bH A' i ay kb ka ts bh stays l' asked x au p:=by
 have n:=h.ne;exact⟨e.same h.o (fq (by omega)),e.same h.rw (fq (by omega)),e.same h.rl (fq (by omega)),e.same h.st (fq (by omega)),e.new h.br FC,e.same h.as (fq (by omega)),h.nd⟩
def bH.e_o (h:bH A i ay kb ka ts bh stays ps asked x au p)(e:Ext A A' [(i,.bU (dP id (yT i ay kb ka d' v' p')))]):bH A' i ay kb ka ts bh stays ps asked d' v' p':=by
 have n:=h.ne;exact⟨e.new h.o FC,e.same h.rw (fq (by omega)),e.same h.rl (fq (by omega)),e.same h.st (fq (by omega)),e.same h.br (fq (by omega)),e.same h.as (fq (by omega)),h.nd⟩
def bH.abz (h:bH A i ay kb ka ts bh stays ps asked x au p):bH ((A++[Ao.lst (l'.map .str)]).set i (.bU (dP id (yT i ay A.length ka x au p)))) i ay A.length ka ts bh stays l' asked x au p:=by
 have n:=h.ne;have l1:=gb h.o;have l2:=gb h.rw;have l:=gb h.rl;have r:=gb h.st;have I:=gb h.as;have b:Ext A (A++[Ao.lst (l'.map .str)]) []:=Ext.push;have g:Ext (A++[Ao.lst (l'.map .str)]) _ _:=Ext.put (o:=.bU (dP id (yT i ay A.length ka x au p))) (b.same h.o rfl);refine⟨g.new (b.same h.o rfl) FC,g.same (b.same h.rw rfl) (fq (by omega)),g.same (b.same h.rl rfl) (fq (by omega)),g.same (b.same h.st rfl) (fq (by omega)),g.same lS (fq (by omega)),g.same (b.same h.as rfl) (fq (by omega)),?_⟩;simp only[gA,bI,cJ,cK,kP,xG,not_false_eq_true,and_true];omega
def bH.p_o {t:Tr}{Y:bY}{l:List (Str×Tr)}(h:bH A i ay kb ka ts bh stays ps asked x au p)(e:fM (yT i ay kb ka x au p) cV t=l):putD A (.at i) (.str cV) t Y=.ok (.nx Y) (A.set i (.bU (dP id l))):=by
 rw[kZ h.o (by rw[k_];show 8<dU;decide),<-e];exact dh (λz=>Rz.ok (Out.nx Y) (A.set i (.bU z))) (mj (f:=id) (a:=t))
def bH.abA (h:bH A i ay kb ka ts bh stays ps asked x au p):jM (aZ 1 A (.at i)) (.str "barred")=.ok (.at kb):=by rw[vC h.o,ee];rfl
def bH.abB (h:bH A i ay kb ka ts bh stays ps asked x au p):jM (aZ 1 A (.at i)) (.str "asked")=.ok (.at ka):=by rw[vC h.o,ee];rfl
end
noncomputable def arr:Nat->List Str->List (List Str)
 |0,_=>[[]]
 |n+1,l=>[]::l.flatMap λz=>(arr n (l.filter λy=>!(y==z))).map (z::·)
theorem Hm:∀{n:Nat} {l ss:List Str},ss.length<=n->ss.Nodup->(∀z∈ss,z∈l)->ss∈arr n l
 |0,l,[],_,_,_=>cQ.mpr rfl
 |n+1,l,[],_,_,_=>cB ..
 |n+1,l,z::ss,g,hn,hs=>by
  rw[gA]at hn;refine cx _ (List.mem_flatMap.mpr ⟨z,hs z (cB ..),cI.mpr ⟨ss,Hm (xh g) hn.2 λy b=>e_.mpr ⟨hs y (cx _ b),?_⟩,rfl⟩⟩);have:y≠z:=λe=>hn.1 (e▸b);simpa using this
def O_(ss:List Str):Bool:=match h_ ss with
 |some p=>(p.map λi=>ss.getD i ("":Str)).isPerm ss&&sortedS (p.map λi=>ss.getD i ("":Str))
 |none=>false
noncomputable abbrev six:List Str:=["ann","bo","cy","dee","ed","zed"]
def ch5(z y:Str):Bool:=y==z||(((arr 4 ((six.filter λx=>!(x==z)).filter λx=>!(x==y))).map (y::·)).map (z::·)).all O_
set_option maxHeartbeats 4000000 in
def abC:∀z∈six,∀y∈six,ch5 z y=true:=by
 intro z hz y b;simp only[bI,cJ,cK]at hz b;rcases hz with rfl|rfl|rfl|rfl|rfl|rfl<;>rcases b with rfl|rfl|rfl|rfl|rfl|rfl<;>decide+kernel
theorem abD:(arr 6 six).all O_=true:=by
 rw[arr,iD,List.all_flatMap,bW,dD];refine⟨rfl,λz hz=>?_⟩;rw[arr,bB,iD,List.map_flatMap,List.all_flatMap,bW,dD];refine⟨(by decide+kernel:∀z∈six,O_ [z]=true) z hz,λy b=>?_⟩;have n:=e_.mp b;have h:=abC z hz y n.1;rw[ch5,show(y==z)=false by simpa using n.2,jk]at h;exact h
theorem vE:∀{ss l:List Str},ss.Nodup->(∀z∈ss,z∈l)->ss.length<=l.length
 |[],_,_,_=>eP _
 |z::ss,l,hn,hs=>by
  rw[gA]at hn;have hz:=hs z (cB ..);have g:=vE (l:=l.erase z) hn.2 λy b=>(List.mem_erase_of_ne (λe:y=z=>hn.1 (by rw[<-e];exact b))).mpr (hs y (cx _ b));rw[List.length_erase_of_mem hz]at g;have:=List.length_pos_of_mem hz;rw[dw];omega
def FG{ss:List Str}(q:ss.Nodup)(hs:∀z∈ss,z∈(["ann","bo","cy","dee","ed","zed"]:List Str)):∃p,h_ ss=some p/\p.map (λi=>ss.getD i ("":Str))=c_ ss:=by
 have h:=dD.mp abD ss (Hm (vE q hs) q hs);unfold O_ at h;cases e:h_ ss with
 |none=>rw[e]at h;cases h
 |some p=>
  rw[e]at h;rw[bW]at h;exact⟨p,rfl,uH (List.isPerm_iff.mp h.1) h.2⟩
theorem DX{α:Type}{f:α->Tr}:∀{l:List (Str×α)},rR (dP f l)=some (l.map (·.1))
 |[]=>rfl
 |p::l=>by show(rR (dP f l)).map (λs=>p.1::s)=_;rw[DX];rfl
def FH{aT:List (Str×Str)}(q:(aT.map (·.1)).Nodup)(hs:∀z∈aT.map (·.1),z∈(["ann","bo","cy","dee","ed","zed"]:List Str))(hl:∀p∈aT,aT.lookup p.1=some p.2):
  wN (.bU (dP .str aT))=.ok (.lst ((c_ (aT.map (·.1))).map λz=>.tup [.str z,.str ((aT.lookup z).getD "")])):=by
 obtain⟨p,l,n⟩:=FG q hs;have r:=vE q hs;have b:((aT.map (·.1)).all λz=>decide (z.length<=cZ))=true:=dD.mpr λz hz=>gB (cC ((by decide+kernel:∀z∈(["ann","bo","cy","dee","ed","zed"]:List Str),z.length<=10) z (hs z hz)) (by decide));show l8 ((rR (dP .str aT)).bind λss=>if ss.length<64/\(ss.all λz=>decide (z.length<=cZ))=true then(h_ ss).map λp=>Tr.lst (p.map λi=>.tup [.str (ss.getD i ("":Str)),((dP .str aT).map (·.2)).getD i .cu])else none)=_;rw[DX];show l8 (if(aT.map (·.1)).length<64/\_ then _ else none)=_;rw[aX ⟨tD r (by decide),b⟩,l];show Rs.ok (Tr.lst _)=_;congr 2;rw[<-n,cN];apply fZ;intro i hi;have g:=Ay l i hi;rw[bt]at g;have g1:(aT.map (·.1)).getD i ("":Str)=aT[i].1:=by rw[eM,ck,b_ g];rfl
 have g2:((dP .str aT).map (·.2)).getD i .cu=.str aT[i].2:=by
  unfold dP;rw[cN,eM,ck,b_ g];rfl
 show Tr.tup [.str ((aT.map (·.1)).getD i ("":Str)),((dP .str aT).map (·.2)).getD i .cu]=Tr.tup [.str ((aT.map (·.1)).getD i ("":Str)),.str ((aT.lookup ((aT.map (·.1)).getD i ("":Str))).getD "")];rw[g1,g2,hl aT[i] (kL _)]
 rfl
section
variable {A:Ab}{n:Nat}{rows:List Tr}{en ch bn iv:List (Key×Tr)}
def bz.abE (h:bz A i rows aF en ch bn iv)(f:gu rows):jV ["Room"] "log" (aZ (n+2) A (.at i))=.ok (.lst rows):=by
 rw[gV h.o];show Rs.ok (aZ (n+1) A (.at (i+1)))=_;rw[mi h.lg,wO f]
def bz.abF (h:bz A i rows aF en ch bn iv)(f:gR aF):jV ["Room"] "ranks" (aZ (n+2) A (.at i))=.ok (.bU aF):=by
 rw[gV h.o];show Rs.ok (aZ (n+1) A (.at (i+2)))=_;rw[gs h.rk,iM f]
def bz.abG (h:bz A i rows aF en ch bn iv)(f:gR ch):jV ["Room"] "chosen" (aZ (n+2) A (.at i))=.ok (.bU ch):=by
 rw[gV h.o];show Rs.ok (aZ (n+1) A (.at (i+4)))=_;rw[gs h.ch,iM f]
def bz.abH (h:bz A i rows aF en ch bn iv)(f:gR bn):jV ["Room"] "banned" (aZ (n+2) A (.at i))=.ok (.bU bn):=by
 rw[gV h.o];show Rs.ok (aZ (n+1) A (.at (i+5)))=_;rw[gs h.bn,iM f]
def bz.abI (h:bz A i rows aF en ch bn iv)(f:gR iv):jV ["Room"] "invited" (aZ (n+2) A (.at i))=.ok (.bU iv):=by
 rw[gV h.o];show Rs.ok (aZ (n+1) A (.at (i+6)))=_;rw[gs h.iv,iM f]
def bz.d4 (h:bz A i rows aF en ch bn iv){m:Str}(hm:Ep ((roomF i).map λp=>(p.1,aZ n A p.2)) m=true)(F:List Tr->Rs Tr)(l:Rs (List Tr)):v7 "Room" m F (.ok (aZ (n+1) A (.at i))) l=l.bind λts=>F (aZ (n+1) A (.at i)::ts):=by
 rw[gV h.o];exact aX ⟨rfl,hm⟩
variable {bc:List (Str×Bool)}{a9:List (Str×Nat)}
def cj.d4 (h:cj A bc a9){m:Str}(hm:Ep (([("persons",.at 1),("places",.at 2),("hands",.at 3)]:List (Str×Tr)).map λp=>(p.1,aZ n A p.2)) m=true)(F:List Tr->Rs Tr)(l:Rs (List Tr)):v7 "Hall" m F (.ok (aZ (n+1) A (.at 0))) l=l.bind λts=>F (aZ (n+1) A (.at 0)::ts):=by
 rw[gV h.o];exact aX ⟨rfl,hm⟩
theorem DY{α:Type}{f:α->Tr}:∀{l:List (Str×α)},(∀p∈l,p.1.length<=1000)->v5 (dP f l)=some (l.map (·.1))
 |[],_=>rfl
 |p::l,h=>by
  show(if p.1.length<=cZ then(v5 (dP f l)).map (λr=>p.1::r)else none)=_;rw[aX (cC (h p (cB ..)) (by decide)),DY λq b=>h q (cx _ b)]
  rfl
theorem vF:∀{ss:List Str},oP (ss.map .str)=some ss
 |[]=>rfl
 |z::ss=>by show(oP (ss.map .str)).map (λr=>z::r)=_;rw[vF];rfl
def q_{f:ag->Tr}{l:List (Str×ag)}(h:∀p∈l,p.1.length<=1000)(q:l.length<64):nU [.bU (dP f l)]=.ok (.lst ((c_ (l.map (·.1))).map .str)):=by
 show Al (v5 (dP f l))=_;rw[DY h];exact aX (by rw[bt];exact q)
def AG{ss:List Str}(q:ss.length<64):nU [.lst (ss.map .str)]=.ok (.lst ((c_ ss).map .str)):=by
 show Al (oP (ss.map .str))=_;rw[vF];exact aX q
theorem Pa:(∀T G Y,zy T G [] Y=.ok (.nx Y))/\(∀T G t ts Y,zy T G (t::ts) Y=(T t Y).bind λsR=>(G sR).bind λo=>match o with
  |.nx q=>zy T G ts q
  |.ct q=>zy T G ts q
  |.bk q=>.ok (.nx q)
  |.ret t=>.ok (.ret t))/\(∀T G ts Y,Gu T G (.ok ts) Y=zy T G ts Y)/\(∀ts,E1 [.lst ts]=.ok (.tup ts)):=by
 refine⟨?_,?_,?_,?_⟩<;>intros<;>rfl
theorem Mg:∀{ts:List Tr},(∀t∈ts,t=.bl true)->Om [.lst ts]=.ok (.bl true):=λ{ts} h=>by
 have:Iu ts=.ok (ts.map λ_=>true):=by
  induction ts with
  |nil=>rfl
  |cons t ts b=>
   rw[h t (cB ..)];show(Iu ts).bind (λzs=>Rs.ok (true::zs))=_;rw[b λu g=>h u (cx _ g)]
   rfl
 show(Iu ts).bind (λbs=>Rs.ok (Tr.bl (bs.all id)))=_;rw[this];show Rs.ok (Tr.bl ((ts.map λ_=>true).all id))=_;congr 2;rw[pH];exact dD.mpr λ_ _=>rfl
theorem DZ:∀{ts:List Tr},QC ts ts=ts.map λt=>.tup [t,t]
 |[]=>rfl
 |t::ts=>by show Tr.tup [t,t]::QC ts ts=_;rw[DZ];rfl
end
structure Vf where
 bl:List Str
 own:List Str
 XU:List Str
 fl:List (Str×List Str)
 kd:List Df
 er:List Str
 xs:List (Str⊕String)
 cs:List Str
 rs:List Str
namespace Vf
def val(K:Frag):Str⊕String->Value
 |.inl c=>.ref (clsAt K c)
 |.inr c=>.type c
noncomputable def tab(q:List Str):Str⊕String->List (Str×Bool)
 |.inl c=>q.map λx=>(x,x==c)
 |.inr _=>q.map λx=>(x,true)
def QU(K:Frag)(o:Vf):Bool:=o.bl.all (λx=>decide (nsIn K mainGlobals x=some none))&&(o.own.all (λc=>decide (nsIn K mainGlobals c=some (some (.ref (clsAt K c)))))&&(o.XU.all (λc=>makesIn K (clsAt K c)&&(keepIn K (.ref (clsAt K c))&&decide (nsIn K mainGlobals c=some (some (.ref (clsAt K c))))))&&
 (o.fl.all (λp=>O2 K (clsAt K p.1)&&abf K (clsAt K p.1) p.2)&&(o.kd.all (λd=>decide (specialIn K (.ref (d.adr K)) "__get__"=some (some (.builtin "function.__get__")))&&decide (takesIn K (.ref (d.adr K))=some false))&&
 (Yv K o.er&&(o.xs.all (λc=>Yu K (val K c) (tab o.er c))&&(o.cs.all (λc=>Yw K c o.er)&&o.rs.all (λc=>excIn K (clsAt K c) bmV "ValueError.__new__"))))))))
structure Ok(o:Vf)(K:Frag)(mg:Str->Option Value):Prop where
 bl:∀{x},o.bl.contains x=true->mg x=none
 Hn:∀{c},o.own.contains c=true->mg c=some (.ref (clsAt K c))
 mk_:∀{c},o.XU.contains c=true->Ji K mg c
 fl:∀{c f fs},o.fl.lookup c=some fs->fs.contains f=true->iY K [c] f
 bn:∀(i:Nat) {d:Df},o.kd[i]?=some d->Au K (d.adr K)
 xc:∀(i:Nat) {c},o.xs[i]?=some c->iZ K (val K c) (tab o.er c)
 ca:∀{c},o.cs.contains c=true->o.own.contains c=true->qW K mg c o.er
 er:∀{c},o.rs.contains c=true->o.own.contains c=true->rN K mg c
def ok{o:Vf}{K:Frag}{h:Heap}(X:K.In h)(G:h.Ns mainGlobals mg)(k:o.QU K=true):o.Ok K mg:=by
 unfold QU at k;simp only[bW,dD,j8]at k;obtain⟨k1,k2,k3,b,k5,g,r,I,L⟩:=k;have Hn:∀{c},o.own.contains c=true->mg c=some (.ref (clsAt K c)):=λm=>mg_of X G (k2 _ (de.mp m));refine⟨λm=>mg_none_of X G (k1 _ (de.mp m)),Hn,λm=>?_,λ{c f fs} l m=>?_,λi d e=>?_,λi c e=>?_,λm n=>L3 (Hn n) (I _ (de.mp m)),λm n=>⟨Hn n,L _ (de.mp m)⟩⟩
 ·have q:=k3 _ (de.mp m);exact⟨q.1,q.2.1,mg_of X G q.2.2⟩
 ·have q:=b _ (m9 l);refine⟨λx M=>?_⟩;cases cQ.mp M;exact⟨L4 q.1,(eN (dD.mp q.2 f (de.mp m)):findIn K (.ref (clsAt K c)) f=some none)⟩
 ·have q:=k5 _ (d6 e);exact⟨q.1,q.2⟩
 ·refine T8 (r _ (d6 e)) g ?_
  cases c<;>simp[tab,Function.comp_def]
end Vf
end L2
namespace M05
open PySem.W (Frag)
open PySem L2
variable {aM:Nat}{aN:Str}{aO:List (Str×Str)}{aP:List Str}
variable {aT bh:List (Str×Str)}{bc:List (Str×Bool)}{ents:List (Str×Int)}{a9 c7:List (Str×Nat)}{rows:List Tr}{cs:List (Bool×Str×Str)}{bF bw:List Str}{aY:Str}{stays:List nX}
noncomputable def top(i:Nat):Stmt:=PySem.Challenge.pw_talkhall_k05_doors.main.body.getD i (.Pass ⟨0,0,0,0⟩)
def Pb:Stmt->List Stmt
 |.ClassDef _ _ _ b _ _ _ _ _ _ _=>b
 |_=>[]
def fN(i j:Nat):Stmt:=(Pb (top i)).getD j (.Pass ⟨0,0,0,0⟩)
def BJ:Df:=⟨none,"level","level",top 23,["role"]⟩
def iN:Df:=⟨some "Room","claim","Room.claim",fN 24 4,["self","who"]⟩
def jb:Df:=⟨some "Room","write_row","Room.write_row",fN 24 1,["self","who","word","parts"]⟩
def ml:Df:=⟨some "Room","let_in","Room.let_in",fN 24 2,["self","who","word","role"]⟩
def jc:Df:=⟨some "Room","give_role","Room.give_role",fN 24 3,["self","who","whom","role"]⟩
def lj:Df:=⟨some "Room","need_in","Room.need_in",fN 24 6,["self","who"]⟩
def ib:Df:=⟨some "Hall","need_people","Hall.need_people",fN 26 1,["self","names"]⟩
def iO:Df:=⟨some "Hall","place","Hall.place",fN 26 2,["self","room"]⟩
def jd:Df:=⟨some "Hall","place_for","Hall.place_for",fN 26 3,["self","names","room"]⟩
def qA:Df:=⟨some "Hall","come","Hall.come",fN 26 5,["self","who"]⟩
def hV:Df:=⟨some "Room","__init__","Room.__init__",fN 24 0,["self","who"]⟩
def jQ:Df:=⟨some "Hall","__init__","Hall.__init__",fN 26 0,["self"]⟩
def nY:Df:=⟨some "Hall","found","Hall.found",fN 26 8,["self","who","room"]⟩
def fu:Df:=⟨some "Room","see_to_owner","Room.see_to_owner",fN 24 5,["self"]⟩
def ig:Df:=⟨some "Room","need_keeper","Room.need_keeper",fN 24 7,["self","who"]⟩
def iP:Df:=⟨some "Room","need_above","Room.need_above",fN 24 8,["self","who","whom"]⟩
def ll:Df:=⟨some "Room","arrange","Room.arrange",fN 24 16,["self","who","what","value"]⟩
def sH:Df:=⟨some "Room","ask","Room.ask",fN 24 17,["self","who","whom"]⟩
def sI:Df:=⟨some "Room","bar","Room.bar",fN 24 20,["self","who","whom"]⟩
def nZ:Df:=⟨some "Room","unbar","Room.unbar",fN 24 21,["self","who","whom"]⟩
def n5:Df:=⟨some "Room","enter","Room.enter",fN 24 14,["self","who"]⟩
def n6:Df:=⟨some "Room","leave","Room.leave",fN 24 15,["self","who"]⟩
def n8:Df:=⟨some "Hall","enter","Hall.enter",fN 26 9,["self","who","room"]⟩
def n_:Df:=⟨some "Hall","leave","Hall.leave",fN 26 10,["self","who","room"]⟩
def lp:Df:=⟨some "Hall","arrange","Hall.arrange",fN 26 11,["self","who","room","what","value"]⟩
def sJ:Df:=⟨some "Hall","ask","Hall.ask",fN 26 12,["self","who","room","whom"]⟩
def sL:Df:=⟨some "Hall","bar","Hall.bar",fN 26 15,["self","who","room","whom"]⟩
def og:Df:=⟨some "Hall","unbar","Hall.unbar",fN 26 16,["self","who","room","whom"]⟩
def mn:Df:=⟨some "Hall","people","Hall.people",fN 26 6,["self"]⟩
def oh:Df:=⟨some "Hall","rooms","Hall.rooms",fN 26 7,["self"]⟩
def oj:Df:=⟨some "Room","roles","Room.roles",fN 24 26,["self"]⟩
def qB:Df:=⟨some "Room","rows","Room.rows",fN 24 30,["self"]⟩
def mq:Df:=⟨some "Room","barred","Room.barred",fN 24 28,["self"]⟩
def om:Df:=⟨some "Room","asked","Room.asked",fN 24 29,["self"]⟩
def lq:Df:=⟨some "Room","setting","Room.setting",fN 24 27,["self","what"]⟩
def oo:Df:=⟨some "Hall","roles","Hall.roles",fN 26 21,["self","room"]⟩
def qC:Df:=⟨some "Hall","rows","Hall.rows",fN 26 25,["self","room"]⟩
def mr:Df:=⟨some "Hall","barred","Hall.barred",fN 26 23,["self","room"]⟩
def oq:Df:=⟨some "Hall","asked","Hall.asked",fN 26 24,["self","room"]⟩
def lr:Df:=⟨some "Hall","setting","Hall.setting",fN 26 22,["self","room","what"]⟩
def yX:Df:=⟨none,"_law_rank","_law_rank",top 36,["_law_room","_law_who"]⟩
def yY:Df:=⟨none,"_law_word","_law_word",top 32,["_law_kept"]⟩
def vG:Df:=⟨none,"_law_begin","_law_begin",top 35,["_law_people"]⟩
def BK:Df:=⟨none,"_law_row","_law_row",top 42,["_law_room","_law_who","_law_parts"]⟩
def ra:Df:=⟨none,"_law_enter","_law_enter",top 43,["_law_room","_law_who","_law_word_here"]⟩
def uQ:Df:=⟨none,"_law_quit","_law_quit",top 44,["_law_room","_law_who","_law_number"]⟩
def BL:Df:=⟨none,"_law_mix","_law_mix",top 29,["_law_cell_here","_law_prime","_law_many"]⟩
def yZ:Df:=⟨none,"_law_cell","_law_cell",top 28,["_law_script","_law_k"]⟩
def kF:Df:=⟨none,"_law_owned","_law_owned",top 45,["_law_room"]⟩
def lU:Df:=⟨none,"_law_changed","_law_changed",top 47,["_law_room","_law_deed_here"]⟩
def y0:Df:=⟨none,"_law_done","_law_done",top 46,["_law_model","_law_deed_here"]⟩
def je:Df:=⟨none,"_law_refused_deed","_law_refused_deed",top 41,["_law_room","_law_deed_here"]⟩
def jH:Df:=⟨none,"_law_refused","_law_refused",top 39,["_law_model","_law_deed_here"]⟩
def uR:Df:=⟨none,"_law_deed","_law_deed",top 49,["_law_cell_here","_law_model","_law_words_here"]⟩
def y1:Df:=⟨none,"_law_call","_law_call",top 33,["_law_hall_here","_law_deed_here"]⟩
def y2:Df:=⟨none,"_law_told","_law_told",top 34,["_law_hall_here","_law_deed_here"]⟩
def uS:Df:=⟨none,"_law_same","_law_same",top 30,["_law_found","_law_due"]⟩
def y3:Df:=⟨none,"_law_both","_law_both",top 48,["_law_hall_here","_law_model","_law_deed_here"]⟩
def y4:Df:=⟨none,"_law_hall","_law_hall",top 50,["_law_hall_here","_law_model"]⟩
def ng:Df:=⟨none,"_law_is_as","_law_is_as",top 51,["_law_hall_here","_law_model"]⟩
def D0:Df:=⟨none,"law","law",top 52,["_law_script"]⟩
def DS:List Df:=[BJ,iN,jb,ml,jc,lj,ib,iO,jd,qA,hV,jQ,nY,fu,ig,iP,ll,sH,sI,nZ,n5,n6,n8,n_,lp,sJ,sL,og,mn,oh,oj,qB,mq,om,lq,oo,qC,mr,oq,lr,yX,yY,vG,BK,ra,uQ,BL,yZ,kF,lU,y0,je,jH,uR,y1,y2,uS,y3,y4,ng,D0]
structure QV(K:Frag)(w:World)(mg:Str->Option Value):Prop where
 d:∀(i:Nat) {e:Df},DS[i]?=some e->e.Ok K mg
 ValueError:mg "ValueError"=none
 all:mg "all"=none
 bool:mg "bool"=none
 dict:mg "dict"=none
 int:mg "int"=none
 isinstance:mg "isinstance"=none
 len:mg "len"=none
 list:mg "list"=none
 max:mg "max"=none
 min:mg "min"=none
 range:mg "range"=none
 set:mg "set"=none
 sorted:mg "sorted"=none
 str:mg "str"=none
 tuple:mg "tuple"=none
 zip:mg "zip"=none
 BM:Au K (iN.adr K)
 Um:Ji K mg "Hall"
 Uo:Ji K mg "Room"
 Pc:Lm K mg "ROLES" [.str "guest",.str "speaker",.str "keeper",.str "owner"]
 lu:iY K ["Room"] "banned"
 uT:iY K ["Room"] "chosen"
 vH:iY K ["Room"] "entries"
 Pd:iY K ["Hall"] "hands"
 nh:iY K ["Room"] "invited"
 Ho:iY K ["Room"] "log"
 nj:iY K ["Hall"] "persons"
 jI:iY K ["Hall"] "places"
 eQ:iY K ["Room"] "ranks"
 BN:iY K ["Room"] "read_marks"
 zE:iY K ["Room"] "said_by_key"
 Mh:Bj K w mg "SETTINGS" [("door",.tup [.str "open",.str "asked"]),("voice",.tup [.str "all",.str "some"]),("past",.tup [.str "shown",.str "hidden"])]
 FI:BA K w mg "SETTINGS" ["door","voice","past"]
 Mi:iZ K (.ref (clsAt K "Barred")) [("Known",false),("NoPerson",false),("NoRoom",false),("NotIn",false),("NotAsked",false),("Barred",true),("NoRight",false),("NoRow",false),("NoHand",false),("NoLine",false)]
 Pe:iZ K (.ref (clsAt K "Known")) [("Known",true),("NoPerson",false),("NoRoom",false),("NotIn",false),("NotAsked",false),("Barred",false),("NoRight",false),("NoRow",false),("NoHand",false),("NoLine",false)]
 Mj:iZ K (.ref (clsAt K "NoHand")) [("Known",false),("NoPerson",false),("NoRoom",false),("NotIn",false),("NotAsked",false),("Barred",false),("NoRight",false),("NoRow",false),("NoHand",true),("NoLine",false)]
 Ml:iZ K (.ref (clsAt K "NoLine")) [("Known",false),("NoPerson",false),("NoRoom",false),("NotIn",false),("NotAsked",false),("Barred",false),("NoRight",false),("NoRow",false),("NoHand",false),("NoLine",true)]
 FJ:iZ K (.ref (clsAt K "NoPerson")) [("Known",false),("NoPerson",true),("NoRoom",false),("NotIn",false),("NotAsked",false),("Barred",false),("NoRight",false),("NoRow",false),("NoHand",false),("NoLine",false)]
 Jn:iZ K (.ref (clsAt K "NoRight")) [("Known",false),("NoPerson",false),("NoRoom",false),("NotIn",false),("NotAsked",false),("Barred",false),("NoRight",true),("NoRow",false),("NoHand",false),("NoLine",false)]
 Mm:iZ K (.ref (clsAt K "NoRoom")) [("Known",false),("NoPerson",false),("NoRoom",true),("NotIn",false),("NotAsked",false),("Barred",false),("NoRight",false),("NoRow",false),("NoHand",false),("NoLine",false)]
 Pf:iZ K (.ref (clsAt K "NoRow")) [("Known",false),("NoPerson",false),("NoRoom",false),("NotIn",false),("NotAsked",false),("Barred",false),("NoRight",false),("NoRow",true),("NoHand",false),("NoLine",false)]
 FK:iZ K (.ref (clsAt K "NotAsked")) [("Known",false),("NoPerson",false),("NoRoom",false),("NotIn",false),("NotAsked",true),("Barred",false),("NoRight",false),("NoRow",false),("NoHand",false),("NoLine",false)]
 Pg:iZ K (.ref (clsAt K "NotIn")) [("Known",false),("NoPerson",false),("NoRoom",false),("NotIn",true),("NotAsked",false),("Barred",false),("NoRight",false),("NoRow",false),("NoHand",false),("NoLine",false)]
 BO:iZ K (.type "ValueError") [("Known",true),("NoPerson",true),("NoRoom",true),("NotIn",true),("NotAsked",true),("Barred",true),("NoRight",true),("NoRow",true),("NoHand",true),("NoLine",true)]
 Jo:mg "Barred"=some (.ref (clsAt K "Barred"))
 Mn:mg "Known"=some (.ref (clsAt K "Known"))
 Jp:mg "NoHand"=some (.ref (clsAt K "NoHand"))
 Jq:mg "NoLine"=some (.ref (clsAt K "NoLine"))
 D3:mg "NoPerson"=some (.ref (clsAt K "NoPerson"))
 FL:mg "NoRight"=some (.ref (clsAt K "NoRight"))
 Jr:mg "NoRoom"=some (.ref (clsAt K "NoRoom"))
 Mo:mg "NoRow"=some (.ref (clsAt K "NoRow"))
 D4:mg "NotAsked"=some (.ref (clsAt K "NotAsked"))
 Mp:mg "NotIn"=some (.ref (clsAt K "NotIn"))
 D5:qW K mg "TalkError" ["Known","NoPerson","NoRoom","NotIn","NotAsked","Barred","NoRight","NoRow","NoHand","NoLine"]
 Mq:rN K mg "Barred"
 rb:rN K mg "Known"
 FN:rN K mg "NoPerson"
 AH:rN K mg "NoRight"
 Mr:rN K mg "NoRoom"
 FO:rN K mg "NotAsked"
 Ph:rN K mg "NotIn"
abbrev CS(n:Nat)(d:Df)(a b:Nat):={F:bY->Ab->Rz Out//∀{P:Program} {w:World} {K:Frag} {mg:Str->Option Value} {base:Heap},QV K w mg->yQ P w K mg base (vo P w) n d (v8 K (ff a b F))}
abbrev CP(n:Nat)(d:Df)(a b:Nat):={F:bY->Rs Out//∀{P:Program} {w:World} {K:Frag} {mg:Str->Option Value} {base:Heap},QV K w mg->yQ P w K mg base mv n d (spT K (sk a b F))}
abbrev CZ(n:Nat)(d:Df)(a b:Nat):={F:bY->Ab->Rz Out//∀{P:Program} {w:World} {K:Frag} {mg:Str->Option Value} {base:Heap},QV K w mg->yQ P w K mg base mv n d (spT K (Dg a b F))}
abbrev CR(n:Nat)(d:Df)(a b:Nat)(r:List Tr->Rs Tr):={F:bY->Rs Out//∀{P:Program} {w:World} {K:Frag} {mg:Str->Option Value} {base:Heap} {k:Nat},QV K w mg->n<=k->yQ P w K mg base mv k d (spT K r)->yQ P w K mg base mv (k+1) d (spT K (sk a b F))}
abbrev KS(n:Nat)(d:Df)(m:List Tr->Ab->Rz Tr):Prop:=∀{P:Program} {w:World} {K:Frag} {mg:Str->Option Value} {base:Heap},QV K w mg->yQ P w K mg base (vo P w) n d (v8 K m)
abbrev KP(n:Nat)(d:Df)(m:List Tr->Rs Tr):Prop:=∀{P:Program} {w:World} {K:Frag} {mg:Str->Option Value} {base:Heap},QV K w mg->yQ P w K mg base mv n d (spT K m)
noncomputable def Hq:CP 1 BJ 1 1:=⟨_,λT=>kj ["role"] (T.d 0 rfl) λ_ _ _ _ _ _ _ b=>(cF (cM (Yp (a_ b) T.Pc (aQ 0))))⟩
def BP:=sk 1 1 Hq.1
def uU:KP 1 BJ BP:=Hq.2
noncomputable def kl:CP 2 iN 2 2:=⟨_,λT=>kj ["self","who"] (T.d 1 rfl) λ_ _ _ _ _ _ _ b=>(cF (cM (cf (aR (QN (eR (uU T) b (aR (bV (a_ b) (du T.eQ (aQ 0)) (aQ 1)) bb))) (aR (bV (a_ b) (du T.vH (aQ 0)) (aQ 1)) bb)))))⟩
def iQ:=sk 2 2 kl.1
def BQ:KP 2 iN iQ:=kl.2
noncomputable def gK:CS 1 jb 4 5:=⟨_,λT=>fY ["self","who","word","parts","number"] (T.d 2 rfl) λb _ _ _ _ _ _ g=>(bq (iu (i:=4) (bf (fA iF (cR i_ T.len (aR (du T.Ho (aQ 0)) bb)) bD)) b) (bq (cg (AB nD qK i7 vq (iL T.Ho (aV (aQ 0))) (aU (bf (fA iF (cf (aR (aQ 4) (aR (aQ 1) (aR (aQ 2) bb)))) (aQ 3))) bx))) (bN (fD (aV (aQ 4))))))⟩
def nr:=ff 4 5 gK.1
def dI:KS 1 jb nr:=gK.2
noncomputable def jr:CS 2 ml 4 4:=⟨_,λT=>fY ["self","who","word","role"] (T.d 3 rfl) λ_ _ _ _ _ _ _ b=>(bq (gq (a_ b) (iL T.vH (aV (aQ 0))) (aV (aQ 1)) (cG (dI T) b (aV (aQ 0)) (aU (aV (aQ 1)) (aU (aV (aQ 2)) (aU (bf (cf bb)) bx))))) (bq (gq (a_ b) (iL T.eQ (aV (aQ 0))) (aV (aQ 1)) (aV (aQ 3))) (bN (cg (LS (iL T.nh (aV (aQ 0))) (aV (aQ 1)) (bf f'))))))⟩
def rV:=ff 4 4 jr.1
def rW:KS 2 ml rV:=jr.2
noncomputable def gL:CS 2 jc 4 4:=⟨_,λT=>fY ["self","who","whom","role"] (T.d 4 rfl) λ_ _ _ _ _ _ _ b=>(bq (cg (cG (dI T) b (aV (aQ 0)) (aU (aV (aQ 1)) (aU (bf aW) (aU (bf (cf (aR (aQ 2) (aR (aQ 3) bb)))) bx))))) (bN (gq (a_ b) (iL T.eQ (aV (aQ 0))) (aV (aQ 2)) (aV (aQ 3)))))⟩
def nu:=ff 4 4 gL.1
def vI:KS 2 jc nu:=gL.2
noncomputable def iR:CS 1 lj 2 2:=⟨_,λT=>fY ["self","who"] (T.d 5 rfl) λ_ _ _ _ _ _ _ b=>(bN (fE (cq (bG (rK (a_ b)) (aQ 1) (du T.eQ (aQ 0)))) (bN (gJ T.Ph (aU (bf (ja (dA (iK (aQ 1)) (dA aW m8)))) bx))) dz))⟩
def lx:=ff 2 2 iR.1
def gv:KS 1 lj lx:=iR.2
noncomputable def dJ:CS 1 ib 2 3:=⟨_,λT=>fY ["self","names","name"] (T.d 6 rfl) λb _ _ _ _ _ _ g=>(bN (Hb (oR (aQ 1)) (fV 2 b) (gn 2) (bN (fE (cq (bG (rK (a_ g)) (aQ 2) (du T.nj (aQ 0)))) (bN (gJ T.FN (aU (bf (ja (dA aW (dA (iK (aQ 2)) m8)))) bx))) dz))))⟩
def ij:=ff 2 3 dJ.1
def ly:KS 1 ib ij:=dJ.2
noncomputable def km:CS 1 iO 2 2:=⟨_,λT=>fY ["self","room"] (T.d 7 rfl) λ_ _ _ _ _ _ _ b=>(bq (fE (cq (bG (rK (a_ b)) (aQ 1) (du T.jI (aQ 0)))) (bN (gJ T.Mr (aU (bf (ja (dA aW (dA (iK (aQ 1)) m8)))) bx))) dz) (bN (fD (uK (a_ b) (iL T.jI (aV (aQ 0))) (aV (aQ 1))))))⟩
def uV:=ff 2 2 km.1
def BR:KS 1 iO uV:=km.2
noncomputable def eD:CS 2 jd 3 3:=⟨_,λT=>fY ["self","names","room"] (T.d 8 rfl) λ_ _ _ _ _ _ _ b=>(bq (cg (cG (ly T) b (aV (aQ 0)) (aU (aV (aQ 1)) bx))) (bN (fD (cG (BR T) b (aV (aQ 0)) (aU (aV (aQ 2)) bx)))))⟩
def jf:=ff 3 3 eD.1
def eE:KS 2 jd jf:=eD.2
noncomputable def wd:CS 1 qA 2 2:=⟨_,λT=>fY ["self","who"] (T.d 9 rfl) λ_ _ _ _ _ _ _ b=>(bq (fE (cq (bG (lF (a_ b)) (aQ 1) (du T.nj (aQ 0)))) (bN (gJ T.rb (aU (bf (ja (dA (iK (aQ 1)) (dA aW m8)))) bx))) dz) (bN (gq (a_ b) (iL T.nj (aV (aQ 0))) (aV (aQ 1)) (bf yO))))⟩
def D6:=ff 2 2 wd.1
def we:KS 1 qA D6:=wd.2
def oS:CS 3 hV 2 2:=⟨_,λT=>fY ["self","who"] (T.d 10 rfl) λ_ _ _ _ _ _ _ b=>(bq (qv T.Ho (aV (aQ 0)) (gQ (AD bb))) (bq (qv T.eQ (aV (aQ 0)) (gQ mf)) (bq (qv T.vH (aV (aQ 0)) (gQ mf)) (bq (qv T.uT (aV (aQ 0)) (gQ (yP (G4 rfl) T.dict (aR (Jh (N':=["what"]) (ix:=[none]) (gX.of (N:=["self","who"]) (sc:=bJ hV.st) rfl rfl (by decide+kernel)) (TX T.FI) ⟨λs H ex=>⟨(fV 0 (by show List.Nodup (["what"]:List Str);decide+kernel)),AA,(cf (aR (aQ 0) (aR (bV (a_ b) (Ym T.Mh (aQ 0)) bD) bb)))⟩⟩ (gn 0)) bb)))) (bq (qv T.lu (aV (aQ 0)) (gQ mf)) (bq (qv T.nh (aV (aQ 0)) (gQ mf)) (bq (qv T.BN (aV (aQ 0)) (gQ mf)) (bq (qv T.zE (aV (aQ 0)) (gQ mf)) (bN (cg (cG (rW T) b (aV (aQ 0)) (aU (aV (aQ 1)) (aU (bf aW) (aU (bf aW) bx))))))))))))))⟩
def wC:=ff 2 2 oS.1
def wD:KS 3 hV wC:=oS.2
noncomputable def oU:CS 1 jQ 1 1:=⟨_,λT=>fY ["self"] (T.d 11 rfl) λ_ _ _ _ _ _ _ b=>(bq (qv T.nj (aV (aQ 0)) (gQ mf)) (bq (qv T.jI (aV (aQ 0)) (gQ mf)) (bN (qv T.Pd (aV (aQ 0)) (gQ (AD bb))))))⟩
def oV:=ff 1 1 oU.1
def wF:KS 1 jQ oV:=oU.2
noncomputable def uW:CS 5 nY 3 3:=⟨_,λT=>fY ["self","who","room"] (T.d 12 rfl) λ_ _ _ _ _ _ _ b=>(bq (cg (cG (ly T) b (aV (aQ 0)) (aU (bf (cf (aR (aQ 1) bb))) bx))) (bq (fE (cq (bG (lF (a_ b)) (aQ 2) (du T.jI (aQ 0)))) (bN (gJ T.rb (aU (bf (ja (dA aW (dA (iK (aQ 2)) (dA aW m8))))) bx))) dz) (bN (gq (a_ b) (iL T.jI (aV (aQ 0))) (aV (aQ 2)) (T_ (wD T) T.Uo b (aU (aV (aQ 1)) bx))))))⟩
def BS:=ff 3 3 uW.1
def BU:KS 5 nY BS:=uW.2
def fw:CS 4 fu 1 3:=⟨_,λT=>fY ["self","owners","heir"] (T.d 13 rfl) λg _ _ _ _ _ _ b=>(bq (LU (i:=1) (N':=["name","self"]) (ix:=[none,some 0]) (gX.of (N:=["self","owners","heir"]) (sc:=bJ fu.st) rfl rfl (by decide+kernel)) (Ha (du T.eQ (aQ 0))) ⟨λs H ex=>⟨(fV 0 (by show List.Nodup (["name","self"]:List Str);decide+kernel)),(wb (bG (eK (dR b)) (bV (a_ b) (du T.eQ (aQ 1)) (aQ 0)) aW)),(aQ 0)⟩⟩ (gn 0) g) (bN (fE (cq (eX (lR (bG Sk (cR i_ T.len (aR (du T.eQ (aQ 0)) bb)) bD) (iJ (bG (eK (dR b)) (cR i_ T.len (aR (aQ 1) bb)) bD))))) (bq (iu (i:=2) (bf (L7 (BQ T) T.BM b T.min (fg (OE rfl) T.list (aR (du T.eQ (aQ 0)) bb)) (aQ 0))) g) (bN (cg (cG (vI T) b (aV (aQ 0)) (aU (aV (aQ 2)) (aU (aV (aQ 2)) (aU (bf aW) bx))))))) dz)))⟩
def jW:=ff 1 3 fw.1
def jX:KS 4 fu jW:=fw.2
noncomputable def fO:CS 2 ig 2 2:=⟨_,λT=>fY ["self","who"] (T.d 14 rfl) λ_ _ _ _ _ _ _ b=>(bN (fE (cq (bG KJ (eR (uU T) b (aR (bV (a_ b) (du T.eQ (aQ 0)) (aQ 1)) bb)) (eR (uU T) b (aR aW bb)))) (bN (gJ T.AH (aU (bf (ja (dA (iK (aQ 1)) (dA aW m8)))) bx))) dz))⟩
def lz:=ff 2 2 fO.1
def fP:KS 2 ig lz:=fO.2
noncomputable def gc:CS 3 iP 3 3:=⟨_,λT=>fY ["self","who","whom"] (T.d 15 rfl) λ_ _ _ _ _ _ _ b=>(bq (cg (cG (fP T) b (aV (aQ 0)) (aU (aV (aQ 1)) bx))) (bN (fE (cq (eX (lR (bG (lF (a_ b)) (aQ 2) (du T.eQ (aQ 0))) (iJ (bG Sl (eR (uU T) b (aR (bV (a_ b) (du T.eQ (aQ 0)) (aQ 2)) bb)) (eR (uU T) b (aR (bV (a_ b) (du T.eQ (aQ 0)) (aQ 1)) bb))))))) (bN (gJ T.AH (aU (bf (ja (dA (iK (aQ 2)) (dA aW (dA (iK (aQ 1)) m8))))) bx))) dz)))⟩
def lV:=ff 3 3 gc.1
def uX:KS 3 iP lV:=gc.2
noncomputable def iT:CS 3 ll 4 4:=⟨_,λT=>fY ["self","who","what","value"] (T.d 16 rfl) λ_ _ _ _ _ _ _ b=>(bq (cg (cG (gv T) b (aV (aQ 0)) (aU (aV (aQ 1)) bx))) (bq (cg (cG (fP T) b (aV (aQ 0)) (aU (aV (aQ 1)) bx))) (bq (cg (cG (dI T) b (aV (aQ 0)) (aU (aV (aQ 1)) (aU (bf aW) (aU (bf (cf (aR (aQ 2) (aR (aQ 3) bb)))) bx))))) (bN (gq (a_ b) (iL T.uT (aV (aQ 0))) (aV (aQ 2)) (aV (aQ 3)))))))⟩
def lA:=ff 4 4 iT.1
def y6:KS 3 ll lA:=iT.2
noncomputable def ou:CS 3 sH 3 3:=⟨_,λT=>fY ["self","who","whom"] (T.d 17 rfl) λ_ _ _ _ _ _ _ b=>(bq (cg (cG (gv T) b (aV (aQ 0)) (aU (aV (aQ 1)) bx))) (bq (cg (cG (fP T) b (aV (aQ 0)) (aU (aV (aQ 1)) bx))) (bq (fE (cq (bG (lF (a_ b)) (aQ 2) (du T.eQ (aQ 0)))) (bN (gJ T.rb (aU (bf (ja (dA (iK (aQ 2)) (dA aW m8)))) bx))) dz) (bq (cg (cG (dI T) b (aV (aQ 0)) (aU (aV (aQ 1)) (aU (bf aW) (aU (bf (cf (aR (aQ 2) bb))) bx))))) (bN (gq (a_ b) (iL T.nh (aV (aQ 0))) (aV (aQ 2)) (bf yO)))))))⟩
def sM:=ff 3 3 ou.1
def FP:KS 3 sH sM:=ou.2
noncomputable def oz:CS 4 sI 3 3:=⟨_,λT=>fY ["self","who","whom"] (T.d 18 rfl) λ_ _ _ _ _ _ _ b=>(bq (cg (cG (gv T) b (aV (aQ 0)) (aU (aV (aQ 1)) bx))) (bq (cg (cG (uX T) b (aV (aQ 0)) (aU (aV (aQ 1)) (aU (aV (aQ 2)) bx)))) (bq (fE (cq (bG (lF (a_ b)) (aQ 2) (du T.lu (aQ 0)))) (bN (gJ T.rb (aU (bf (ja (dA (iK (aQ 2)) (dA aW m8)))) bx))) dz) (bq (cg (cG (dI T) b (aV (aQ 0)) (aU (aV (aQ 1)) (aU (bf aW) (aU (bf (cf (aR (aQ 2) bb))) bx))))) (bq (gq (a_ b) (iL T.lu (aV (aQ 0))) (aV (aQ 2)) (bf yO)) (bN (cg (LS (iL T.eQ (aV (aQ 0))) (aV (aQ 2)) (bf f')))))))))⟩
def sN:=ff 3 3 oz.1
def FQ:KS 4 sI sN:=oz.2
noncomputable def kn:CS 3 nZ 3 3:=⟨_,λT=>fY ["self","who","whom"] (T.d 19 rfl) λ_ _ _ _ _ _ _ b=>(bq (cg (cG (gv T) b (aV (aQ 0)) (aU (aV (aQ 1)) bx))) (bq (cg (cG (fP T) b (aV (aQ 0)) (aU (aV (aQ 1)) bx))) (bq (fE (cq (bG (rK (a_ b)) (aQ 2) (du T.lu (aQ 0)))) (bN (gJ T.rb (aU (bf (ja (dA (iK (aQ 2)) (dA aW m8)))) bx))) dz) (bq (cg (cG (dI T) b (aV (aQ 0)) (aU (aV (aQ 1)) (aU (bf aW) (aU (bf (cf (aR (aQ 2) bb))) bx))))) (bN (cg (FA (iL T.lu (aV (aQ 0))) (aV (aQ 2)))))))))⟩
def oA:=ff 3 3 kn.1
def BV:KS 3 nZ oA:=kn.2
noncomputable def dO:CS 5 n5 2 2:=⟨_,λT=>fY ["self","who"] (T.d 20 rfl) λ_ _ _ _ _ _ _ b=>(bq (fE (cq (bG (lF (a_ b)) (aQ 1) (du T.eQ (aQ 0)))) (bN (gJ T.rb (aU (bf (ja (dA (iK (aQ 1)) (dA aW m8)))) bx))) dz) (bq (fE (cq (bG (lF (a_ b)) (aQ 1) (du T.lu (aQ 0)))) (bN (gJ T.Mq (aU (bf (ja (dA (iK (aQ 1)) (dA aW m8)))) bx))) dz) (bq (fE (cq (eX (lR (bG (eK (dR b)) (bV (a_ b) (du T.uT (aQ 0)) aW) aW) (iJ (bG (rK (a_ b)) (aQ 1) (du T.nh (aQ 0))))))) (bN (gJ T.FO (aU (bf (ja (dA (iK (aQ 1)) (dA aW m8)))) bx))) dz) (bq (cg (cG (rW T) b (aV (aQ 0)) (aU (aV (aQ 1)) (aU (bf aW) (aU (bf aW) bx))))) (bN (cg (Hc (jX T) b (aV (aQ 0)))))))))⟩
def fh:=ff 2 2 dO.1
def BW:KS 5 n5 fh:=dO.2
noncomputable def gM:CS 5 n6 2 2:=⟨_,λT=>fY ["self","who"] (T.d 21 rfl) λ_ _ _ _ _ _ _ b=>(bq (cg (cG (gv T) b (aV (aQ 0)) (aU (aV (aQ 1)) bx))) (bq (cg (cG (dI T) b (aV (aQ 0)) (aU (aV (aQ 1)) (aU (bf aW) (aU (bf (cf bb)) bx))))) (bq (cg (FA (iL T.eQ (aV (aQ 0))) (aV (aQ 1)))) (bN (cg (Hc (jX T) b (aV (aQ 0))))))))⟩
def gO:=ff 2 2 gM.1
def BX:KS 5 n6 gO:=gM.2
noncomputable def ko:CS 6 n8 3 3:=⟨_,λT=>fY ["self","who","room"] (T.d 22 rfl) λ_ _ _ _ _ _ _ b=>(bN (cg (cG (BW T) b (cG (eE T) b (aV (aQ 0)) (aU (bf (cf (aR (aQ 1) bb))) (aU (aV (aQ 2)) bx))) (aU (aV (aQ 1)) bx))))⟩
def oB:=ff 3 3 ko.1
def BY:KS 6 n8 oB:=ko.2
noncomputable def kr:CS 6 n_ 3 3:=⟨_,λT=>fY ["self","who","room"] (T.d 23 rfl) λ_ _ _ _ _ _ _ b=>(bN (cg (cG (BX T) b (cG (eE T) b (aV (aQ 0)) (aU (bf (cf (aR (aQ 1) bb))) (aU (aV (aQ 2)) bx))) (aU (aV (aQ 1)) bx))))⟩
def oC:=ff 3 3 kr.1
def BZ:KS 6 n_ oC:=kr.2
noncomputable def iU:CS 4 lp 5 5:=⟨_,λT=>fY ["self","who","room","what","value"] (T.d 24 rfl) λ_ _ _ _ _ _ _ b=>(bN (cg (cG (y6 T) b (cG (eE T) b (aV (aQ 0)) (aU (bf (cf (aR (aQ 1) bb))) (aU (aV (aQ 2)) bx))) (aU (aV (aQ 1)) (aU (aV (aQ 3)) (aU (aV (aQ 4)) bx))))))⟩
def y8:=ff 5 5 iU.1
def y9:KS 4 lp y8:=iU.2
noncomputable def oE:CS 4 sJ 4 4:=⟨_,λT=>fY ["self","who","room","whom"] (T.d 25 rfl) λ_ _ _ _ _ _ _ b=>(bN (cg (cG (FP T) b (cG (eE T) b (aV (aQ 0)) (aU (bf (cf (aR (aQ 1) (aR (aQ 3) bb)))) (aU (aV (aQ 2)) bx))) (aU (aV (aQ 1)) (aU (aV (aQ 3)) bx)))))⟩
def FR:=ff 4 4 oE.1
def FT:KS 4 sJ FR:=oE.2
noncomputable def oF:CS 5 sL 4 4:=⟨_,λT=>fY ["self","who","room","whom"] (T.d 26 rfl) λ_ _ _ _ _ _ _ b=>(bN (cg (cG (FQ T) b (cG (eE T) b (aV (aQ 0)) (aU (bf (cf (aR (aQ 1) (aR (aQ 3) bb)))) (aU (aV (aQ 2)) bx))) (aU (aV (aQ 1)) (aU (aV (aQ 3)) bx)))))⟩
def FU:=ff 4 4 oF.1
def FV:KS 5 sL FU:=oF.2
noncomputable def ky:CS 4 og 4 4:=⟨_,λT=>fY ["self","who","room","whom"] (T.d 27 rfl) λ_ _ _ _ _ _ _ b=>(bN (cg (cG (BV T) b (cG (eE T) b (aV (aQ 0)) (aU (bf (cf (aR (aQ 1) (aR (aQ 3) bb)))) (aU (aV (aQ 2)) bx))) (aU (aV (aQ 1)) (aU (aV (aQ 3)) bx)))))⟩
def B5:=ff 4 4 ky.1
def B6:KS 4 og B5:=ky.2
noncomputable def js:CP 1 mn 1 1:=⟨_,λT=>kj ["self"] (T.d 28 rfl) λ_ _ _ _ _ _ _ b=>(cF (cM (fg hJ T.tuple (aR (cR (jF rfl) T.sorted (aR (du T.nj (aQ 0)) bb)) bb))))⟩
def rX:=sk 1 1 js.1
def zF:KP 1 mn rX:=js.2
noncomputable def kz:CP 1 oh 1 1:=⟨_,λT=>kj ["self"] (T.d 29 rfl) λ_ _ _ _ _ _ _ b=>(cF (cM (fg hJ T.tuple (aR (cR (jF rfl) T.sorted (aR (du T.jI (aQ 0)) bb)) bb))))⟩
def uY:=sk 1 1 kz.1
def B7:KP 1 oh uY:=kz.2
noncomputable def hW:CP 1 iO 2 2:=⟨_,λT=>kj ["self","room"] (T.d 7 rfl) λ_ _ _ _ _ _ _ b=>(bQ (gH (bG (rK (a_ b)) (aQ 1) (du T.jI (aQ 0))) (cF Ys) dY) (cF (cM (bV (a_ b) (du T.jI (aQ 0)) (aQ 1)))))⟩
def oW:=sk 2 2 hW.1
def fT:KP 1 iO oW:=hW.2
noncomputable def kA:CP 1 oj 1 1:=⟨_,λT=>kj ["self"] (T.d 30 rfl) λ_ _ _ _ _ _ _ b=>(cF (cM (fg hJ T.tuple (aR (LX T.sorted (du T.eQ (aQ 0))) bb))))⟩
def uZ:=sk 1 1 kA.1
def B8:KP 1 oj uZ:=kA.2
noncomputable def lW:CP 1 qB 1 1:=⟨_,λT=>kj ["self"] (T.d 31 rfl) λ_ _ _ _ _ _ _ b=>(cF (cM (fg hJ T.tuple (aR (du T.Ho (aQ 0)) bb))))⟩
def wg:=sk 1 1 lW.1
def D7:KP 1 qB wg:=lW.2
noncomputable def jt:CP 1 mq 1 1:=⟨_,λT=>kj ["self"] (T.d 32 rfl) λ_ _ _ _ _ _ _ b=>(cF (cM (fg hJ T.tuple (aR (cR (jF rfl) T.sorted (aR (du T.lu (aQ 0)) bb)) bb))))⟩
def rY:=sk 1 1 jt.1
def zG:KP 1 mq rY:=jt.2
noncomputable def kB:CP 1 om 1 1:=⟨_,λT=>kj ["self"] (T.d 33 rfl) λ_ _ _ _ _ _ _ b=>(cF (cM (fg hJ T.tuple (aR (cR (jF rfl) T.sorted (aR (du T.nh (aQ 0)) bb)) bb))))⟩
def u0:=sk 1 1 kB.1
def B9:KP 1 om u0:=kB.2
noncomputable def iV:CP 1 lq 2 2:=⟨_,λT=>kj ["self","what"] (T.d 34 rfl) λ_ _ _ _ _ _ _ b=>(cF (cM (bV (a_ b) (du T.uT (aQ 0)) (aQ 1))))⟩
def qD:=sk 2 2 iV.1
def y_:KP 1 lq qD:=iV.2
noncomputable def kC:CP 2 oo 2 2:=⟨_,λT=>kj ["self","room"] (T.d 35 rfl) λ_ _ _ _ _ _ _ b=>(cF (cM (qY (B8 T) b (kX (fT T) b (aQ 0) (aR (aQ 1) bb)))))⟩
def u3:=sk 2 2 kC.1
def B_:KP 2 oo u3:=kC.2
noncomputable def lX:CP 2 qC 2 2:=⟨_,λT=>kj ["self","room"] (T.d 36 rfl) λ_ _ _ _ _ _ _ b=>(cF (cM (qY (D7 T) b (kX (fT T) b (aQ 0) (aR (aQ 1) bb)))))⟩
def wj:=sk 2 2 lX.1
def D8:KP 2 qC wj:=lX.2
noncomputable def ju:CP 2 mr 2 2:=⟨_,λT=>kj ["self","room"] (T.d 37 rfl) λ_ _ _ _ _ _ _ b=>(cF (cM (qY (zG T) b (kX (fT T) b (aQ 0) (aR (aQ 1) bb)))))⟩
def rZ:=sk 2 2 ju.1
def zH:KP 2 mr rZ:=ju.2
noncomputable def kD:CP 2 oq 2 2:=⟨_,λT=>kj ["self","room"] (T.d 38 rfl) λ_ _ _ _ _ _ _ b=>(cF (cM (qY (B9 T) b (kX (fT T) b (aQ 0) (aR (aQ 1) bb)))))⟩
def u4:=sk 2 2 kD.1
def Ca:KP 2 oq u4:=kD.2
noncomputable def iW:CP 2 lr 3 3:=⟨_,λT=>kj ["self","room","what"] (T.d 39 rfl) λ_ _ _ _ _ _ _ b=>(cF (cM (kX (y_ T) b (kX (fT T) b (aQ 0) (aR (aQ 1) bb)) (aR (aQ 2) bb))))⟩
def qE:=sk 3 3 iW.1
def y':KP 2 lr qE:=iW.2
noncomputable def nv:CP 1 yX 2 2:=⟨_,λT=>kj ["_law_room","_law_who"] (T.d 40 rfl) λ_ _ _ _ _ _ _ b=>(cF (cM (DR (bG (lF (a_ b)) (aQ 1) (bV (a_ b) (aQ 0) aW)) (Yq (a_ b) (aR aW (aR aW (aR aW (aR aW bb)))) (bV (a_ b) (bV (a_ b) (aQ 0) aW) (aQ 1))) (QN bD))))⟩
def za:=sk 2 2 nv.1
def u5:KP 1 yX za:=nv.2
noncomputable def D9:CP 1 yY 1 3:=⟨_,λT=>kj ["_law_kept","_law_kinds","_law_words_here"] (T.d 41 rfl) λb _ _ _ _ _ _ g=>(bQ (fB (i:=1) (rS (aR (mh T.Pe T.Mn T.isinstance (aQ 0)) (aR (mh T.FJ T.D3 T.isinstance (aQ 0)) bb))) b) (bQ (fB (i:=1) (fA iF (aQ 1) (rS (aR (mh T.Mm T.Jr T.isinstance (aQ 0)) (aR (mh T.Pg T.Mp T.isinstance (aQ 0)) bb)))) b) (bQ (fB (i:=1) (fA iF (aQ 1) (rS (aR (mh T.FK T.D4 T.isinstance (aQ 0)) (aR (mh T.Mi T.Jo T.isinstance (aQ 0)) bb)))) b) (bQ (fB (i:=1) (fA iF (aQ 1) (rS (aR (mh T.Jn T.FL T.isinstance (aQ 0)) bb))) b) (bQ (fB (i:=1) (fA iF (aQ 1) (rS (aR (mh T.Pf T.Mo T.isinstance (aQ 0)) (aR (mh T.Mj T.Jp T.isinstance (aQ 0)) (aR (mh T.Ml T.Jq T.isinstance (aQ 0)) bb))))) b) (bQ (fB (i:=2) (cf (aR aW (aR aW (aR aW (aR aW (aR aW (aR aW bb))))))) b) (bQ (fB (i:=2) (fA iF (aQ 2) (cf (aR aW (aR aW (aR aW (aR aW bb)))))) b) (bQ (gH (eX (DQ (bG (Ir (dR g)) (Yo PySem.F.slot_list_count PySem.F.type_list_count (Ta (a_ g)) (aQ 1) yO) bD) (wa (Az (oQ (T7 T.BO T.ValueError T.isinstance (aQ 0))))))) (cF (cM aW)) dY) (cF (cM (bV (a_ g) (aQ 2) (Yo PySem.F.slot_list_index PySem.F.type_list_index (S_ (a_ g)) (aQ 1) yO))))))))))))⟩
def zb:=sk 1 3 D9.1
def Ms:KP 1 yY zb:=D9.2
noncomputable def AI:CS 1 vG 1 1:=⟨_,λT=>fY ["_law_people"] (T.d 42 rfl) λ_ _ _ _ _ _ _ b=>(bN (fD (LY (nW (aV aW) (gQ (yP Ou T.list (aR (aQ 0) bb))) (nW (aV aW) (gQ mf) Lu)))))⟩
def AJ:=ff 1 1 AI.1
def Js:KS 1 vG AJ:=AI.2
noncomputable def wX:CS 1 BK 3 3:=⟨_,λT=>fY ["_law_room","_law_who","_law_parts"] (T.d 43 rfl) λ_ _ _ _ _ _ _ b=>(bq (cg (AB nD qK i7 vq (uK (a_ b) (aV (aQ 0)) (bf aW)) (aU (bf (fA iF (cf (aR (fA iF (cR i_ T.len (aR (bV (a_ b) (aQ 0) aW) bb)) bD) (aR (aQ 1) bb))) (aQ 2))) bx))) (bN (fD (bf (cR i_ T.len (aR (bV (a_ b) (aQ 0) aW) bb))))))⟩
def Cb:=ff 3 3 wX.1
def u6:KS 1 BK Cb:=wX.2
def rf:CS 2 ra 3 5:=⟨_,λT=>fY ["_law_room","_law_who","_law_word_here","_law_number","_law_first"] (T.d 44 rfl) λg _ _ _ _ _ _ b=>(bq (iu (i:=3) (iw (u6 T) b (aU (aV (aQ 0)) (aU (aV (aQ 1)) (aU (bf (cf (aR (aQ 2) bb))) bx)))) g) (bq (iu (i:=4) (bf (DR (bG (eK (dR b)) (bV (a_ b) (aQ 0) aW) aW) bD (aQ 3))) g) (bq (cg (AB nD qK i7 vq (uK (a_ b) (aV (aQ 0)) (bf aW)) (aU (bf (cf (aR (aQ 1) (aR (aQ 4) (aR (aQ 3) (aR f' bb)))))) bx))) (bq (gq (a_ b) (uK (a_ b) (aV (aQ 0)) (bf aW)) (aV (aQ 1)) (bf aW)) (bN (gq (a_ b) (aV (aQ 0)) (bf aW) (gQ (TZ (N':=["_law_one","_law_who"]) (ix:=[none,some 1]) (gX.of (N:=["_law_room","_law_who","_law_word_here","_law_number","_law_first"]) (sc:=bJ ra.st) rfl rfl (by decide+kernel)) (oR (bV (a_ b) (aQ 0) aW)) ⟨λs H ex=>⟨(fV 0 (by show List.Nodup (["_law_one","_law_who"]:List Str);decide+kernel)),(wb (bG (Ir (dR b)) (aQ 0) (aQ 1))),(aQ 0)⟩⟩ (gn 0)))))))))⟩
def vJ:=ff 3 5 rf.1
def AK:KS 2 ra vJ:=rf.2
def u7:CS 1 uQ 3 3:=⟨_,λT=>fY ["_law_room","_law_who","_law_number"] (T.d 45 rfl) λ_ _ _ _ _ _ _ b=>(bq (cg (FA (uK (a_ b) (aV (aQ 0)) (bf aW)) (aV (aQ 1)))) (bN (gq (a_ b) (aV (aQ 0)) (bf aW) (gQ (TZ (N':=["_law_stay","_law_who","_law_number"]) (ix:=[none,some 1,some 2]) (gX.of (N:=["_law_room","_law_who","_law_number"]) (sc:=bJ uQ.st) rfl rfl (by decide+kernel)) (oR (bV (a_ b) (aQ 0) aW)) ⟨λs H ex=>⟨(fV 0 (by show List.Nodup (["_law_stay","_law_who","_law_number"]:List Str);decide+kernel)),AA,(DR (eX (lR (bG (eK (dR b)) (bV (a_ b) (aQ 0) bD) (aQ 1)) (iJ (bG C_ (bV (a_ b) (aQ 0) bD) f')))) (fA iF (wc (aQ 0) qj (qm bD)) (cf (aR (aQ 2) bb))) (aQ 0))⟩⟩ (gn 0))))))⟩
def zc:=ff 3 3 u7.1
def D_:KS 1 uQ zc:=u7.2
noncomputable def wY:CP 1 BL 3 4:=⟨_,λT=>kj ["_law_cell_here","_law_prime","_law_many","_law_blend"] (T.d 46 rfl) λb _ _ _ _ _ _ g=>(bQ (fB (i:=3) (fA C6 (fA KH (aQ 0) bD) (aQ 1)) b) (cF (cM (fA C6 (fA C6 (fA KH (aQ 3) (fA iF (aQ 3) bD)) (aQ 1)) (aQ 2)))))⟩
def Hr:=sk 3 4 wY.1
def jv:KP 1 BL Hr:=wY.2
noncomputable def Ea:CP 1 yZ 2 2:=⟨_,λT=>kj ["_law_script","_law_k"] (T.d 47 rfl) λ_ _ _ _ _ _ _ b=>(bQ (gH (bG KJ (aQ 1) (cR i_ T.len (aR (aQ 0) bb))) (cF (cM (bV (a_ b) (aQ 0) (aQ 1)))) dY) (cF (cM bD)))⟩
def Eb:=sk 2 2 Ea.1
def Mt:KP 1 yZ Eb:=Ea.2
def rg:CS 2 kF 1 3:=⟨_,λT=>fY ["_law_room","_law_most","_law_there"] (T.d 48 rfl) λg _ _ _ _ _ _ b=>(bq (fE (cq (eX (DQ (Az (oQ (bV (a_ b) (aQ 0) aW))) (wa (bG (lF (a_ b)) aW (QQ (N':=["_law_who","_law_room"]) (ix:=[none,some 0]) (gX.of (N:=["_law_room","_law_most","_law_there"]) (sc:=bJ kF.st) rfl rfl (by decide+kernel)) (Ha (bV (a_ b) (aQ 0) aW)) ⟨λs H ex=>⟨(fV 0 (by show List.Nodup (["_law_who","_law_room"]:List Str);decide+kernel)),AA,(bV (a_ b) (bV (a_ b) (aQ 1) aW) (aQ 0))⟩⟩ (gn 0))))))) (bN TY) dz) (bq (iu (i:=1) (bf (cR (X5 rfl) T.max (aR (QQ (N':=["_law_who","_law_room"]) (ix:=[none,some 0]) (gX.of (N:=["_law_room","_law_most","_law_there"]) (sc:=bJ kF.st) rfl rfl (by decide+kernel)) (Ha (bV (a_ b) (aQ 0) aW)) ⟨λs H ex=>⟨(fV 0 (by show List.Nodup (["_law_who","_law_room"]:List Str);decide+kernel)),AA,(eR (u5 T) b (aR (aQ 1) (aR (aQ 0) bb)))⟩⟩ (gn 0)) bb))) g) (bq (OX (i:=2) (N':=["_law_stay","_law_most","_law_room"]) (ix:=[none,some 1,some 0]) (gX.of (N:=["_law_room","_law_most","_law_there"]) (sc:=bJ kF.st) rfl rfl (by decide+kernel)) (oR (bV (a_ b) (aQ 0) aW)) ⟨λs H ex=>⟨(fV 0 (by show List.Nodup (["_law_stay","_law_most","_law_room"]:List Str);decide+kernel)),(wb (eX (lR (bG C_ (bV (a_ b) (aQ 0) bD) f') (iJ (bG (eK (dR b)) (eR (u5 T) b (aR (aQ 2) (aR (bV (a_ b) (aQ 0) bD) bb))) (aQ 1)))))),(bV (a_ b) (aQ 0) bD)⟩⟩ (gn 0) g) (bq (gq (a_ b) (uK (a_ b) (aV (aQ 0)) (bf aW)) (bf (bV (a_ b) (aQ 2) bD)) (bf aW)) (bN (cg (iw (u6 T) b (aU (aV (aQ 0)) (aU (bf (bV (a_ b) (aQ 2) bD)) (aU (bf (cf (aR aW (aR (bV (a_ b) (aQ 2) bD) (aR aW bb))))) bx))))))))))⟩
def kG:=ff 1 3 rg.1
def Jt:KS 2 kF kG:=rg.2
def eB:CS 2 lU 2 6:=⟨_,λT=>fY ["_law_room","_law_deed_here","_law_word_here","_law_who","_law_names","_law_number"] (T.d 49 rfl) λg _ _ _ _ _ _ b=>(bq (QR (G_ (is:=[2,3]) (qi (i:=2) (qi (i:=3) G9 g) g)) (ET [2,3]) (bf (wc (aQ 1) qj (qm bD)))) (bq (iu (i:=4) (gQ (yP (G4 rfl) T.dict (aR (rS (aR (cf (aR aW (aR aW bb))) (aR (cf (aR aW (aR aW bb))) bb))) bb))) g) (bq (iu (i:=5) (iw (u6 T) b (aU (aV (aQ 0)) (aU (aV (aQ 3)) (aU (bf (fA iF (cf (aR (LR (a_ b) (aQ 4) (aQ 2) (aQ 2)) bb)) (wc (aQ 1) (qm bD) qj))) bx)))) g) (bq (fE (cq (bG (eK (dR b)) (aQ 2) aW)) (bN (gq (a_ b) (aV (aQ 0)) (bf (bV (a_ b) (aQ 1) bD)) (bf (bV (a_ b) (aQ 1) bD)))) dz) (bq (fE (cq (bG (eK (dR b)) (aQ 2) aW)) (bN (cg (AB nD qK i7 vq (uK (a_ b) (aV (aQ 0)) (bf aW)) (aU (bf (bV (a_ b) (aQ 1) bD)) bx)))) dz) (bq (fE (cq (bG (eK (dR b)) (aQ 2) aW)) (bN (gq (a_ b) (uK (a_ b) (aV (aQ 0)) (bf aW)) (bf (bV (a_ b) (aQ 1) bD)) (bf (bV (a_ b) (aQ 1) bD)))) dz) (bq (fE (cq (bG (eK (dR b)) (aQ 2) aW)) (bN (cg (AB nD qK i7 vq (uK (a_ b) (aV (aQ 0)) (bf aW)) (aU (bf (bV (a_ b) (aQ 1) bD)) bx)))) dz) (bq (fE (cq (bG (eK (dR b)) (aQ 2) aW)) (bN (gq (a_ b) (aV (aQ 0)) (bf aW) (gQ (TZ (N':=["_law_one","_law_deed_here"]) (ix:=[none,some 1]) (gX.of (N:=["_law_room","_law_deed_here","_law_word_here","_law_who","_law_names","_law_number"]) (sc:=bJ lU.st) rfl rfl (by decide+kernel)) (oR (bV (a_ b) (aQ 0) aW)) ⟨λs H ex=>⟨(fV 0 (by show List.Nodup (["_law_one","_law_deed_here"]:List Str);decide+kernel)),(wb (bG (Ir (dR b)) (aQ 0) (bV (a_ b) (aQ 1) bD))),(aQ 0)⟩⟩ (gn 0))))) dz) (bN (fE (cq (eX (lR (bG (lF (a_ b)) (aQ 2) (cf (aR aW (aR aW bb)))) (iJ (bG (lF (a_ b)) (bV (a_ b) (aQ 1) bD) (bV (a_ b) (aQ 0) aW)))))) (bN (cg (iw (D_ T) b (aU (aV (aQ 0)) (aU (bf (bV (a_ b) (aQ 1) bD)) (aU (aV (aQ 5)) bx)))))) dz))))))))))⟩
def iy:=ff 2 6 eB.1
def Ec:KS 2 lU iy:=eB.2
noncomputable def jJ:CS 3 y0 2 5:=⟨_,λT=>fY ["_law_model","_law_deed_here","_law_word_here","_law_who","_law_room"] (T.d 50 rfl) λg _ _ _ _ _ _ b=>(bq (QR (G_ (is:=[2,3]) (qi (i:=2) (qi (i:=3) G9 g) g)) (ET [2,3]) (bf (wc (aQ 1) qj (qm bD)))) (bq (fE (cq (bG (eK (dR b)) (aQ 2) aW)) (bq (cg (AB nD qK i7 vq (uK (a_ b) (aV (aQ 0)) (bf aW)) (aU (aV (aQ 3)) bx))) (bN (fD (bf f')))) dz) (bq (fE (cq (bG (eK (dR b)) (aQ 2) aW)) (bq (iu (i:=4) (LY (nW (aV aW) (gQ (AD bb)) (nW (aV aW) (gQ mf) (nW (aV aW) (gQ (AD bb)) (nW (aV aW) (gQ (AD bb)) (nW (aV aW) (gQ (AD bb)) Lu)))))) g) (bq (cg (Yt (aV (aQ 4)) (aV (LQ (BF aW aW (BF aW aW (BF aW aW Qi))))))) (bq (gq (a_ b) (uK (a_ b) (aV (aQ 0)) (bf aW)) (bf (bV (a_ b) (aQ 1) bD)) (aV (aQ 4))) (bq (cg (iw (AK T) b (aU (aV (aQ 4)) (aU (aV (aQ 3)) (aU (bf aW) bx))))) (bq (gq (a_ b) (uK (a_ b) (aV (aQ 4)) (bf aW)) (aV (aQ 3)) (bf aW)) (bN (fD (bf f')))))))) dz) (bq (iu (i:=4) (uK (a_ b) (uK (a_ b) (aV (aQ 0)) (bf aW)) (bf (bV (a_ b) (aQ 1) bD))) g) (bq (fE (cq (bG (eK (dR b)) (aQ 2) aW)) (bN (fD (iw (u6 T) b (aU (aV (aQ 4)) (aU (aV (aQ 3)) (aU (bf (fA iF (wc (aQ 1) qj (qm bD)) (wc (aQ 1) (qm bD) qj))) bx)))))) dz) (bq (fE (cq (bG (eK (dR b)) (aQ 2) aW)) (bN (cg (iw (AK T) b (aU (aV (aQ 4)) (aU (aV (aQ 3)) (aU (bf aW) bx)))))) (bN (fE (cq (bG (eK (dR b)) (aQ 2) aW)) (bN (cg (iw (D_ T) b (aU (aV (aQ 4)) (aU (aV (aQ 3)) (aU (iw (u6 T) b (aU (aV (aQ 4)) (aU (aV (aQ 3)) (aU (bf (cf (aR aW bb))) bx)))) bx)))))) (bN (cg (iw (Ec T) b (aU (aV (aQ 4)) (aU (aV (aQ 1)) bx)))))))) (bq (cg (iw (Jt T) b (aU (aV (aQ 4)) bx))) (bN (fD (bf f'))))))))))⟩
def ny:=ff 2 5 jJ.1
def Ed:KS 3 y0 ny:=jJ.2
noncomputable def cT:CP 2 je 2 6:=⟨_,λT=>kj ["_law_room","_law_deed_here","_law_word_here","_law_who","_law_mine","_law_yours"] (T.d 51 rfl) λg _ _ _ _ _ _ b=>(bQ (Yl (G_ (is:=[2,3]) (qi (i:=2) (qi (i:=3) G9 g) g)) (wc (aQ 1) qj (qm bD))) (bQ (fB (i:=4) (eR (u5 T) b (aR (aQ 0) (aR (aQ 3) bb))) g) (bQ (fB (i:=5) (eR (u5 T) b (aR (aQ 0) (aR (bV (a_ b) (aQ 1) bD) bb))) g) (bQ (gH (eX (lR (bG (lF (a_ b)) (aQ 2) (cf (aR aW (aR aW bb)))) (iJ (bG KJ (aQ 5) bD)))) (cF (cM aW)) dY) (bQ (gH (bG (eK (dR b)) (aQ 2) aW) (bQ (gH (eX (DQ (bG KJ (aQ 4) bD) (wa (eX (lR (bG (eK (dR b)) (aQ 4) bD) (iJ (eX (DQ (bG Sk (aQ 5) bD) (wa (bG (lF (a_ b)) (bV (a_ b) (aQ 1) bD) (cf (aR aW (aR aW bb))))))))))))) (cF (cM aW)) dY) (cF (cM (DR (bG (eK (dR b)) (bV (a_ b) (bV (a_ b) (aQ 0) aW) (bV (a_ b) (aQ 1) bD)) (bV (a_ b) (aQ 1) bD)) aW f')))) dY) (bQ (gH (eX (DQ (bG KJ (aQ 4) bD) (wa (eX (lR (bG (lF (a_ b)) (aQ 2) (cf (aR aW (aR aW bb)))) (iJ (bG Sl (aQ 5) (aQ 4)))))))) (cF (cM aW)) dY) (bQ (gH (eX (DQ (eX (lR (bG (eK (dR b)) (aQ 2) aW) (iJ (bG Sl (aQ 5) bD)))) (wa (eX (lR (bG (eK (dR b)) (aQ 2) aW) (iJ (bG (lF (a_ b)) (bV (a_ b) (aQ 1) bD) (bV (a_ b) (aQ 0) aW)))))))) (cF (cM aW)) dY) (bQ (gH (eX (lR (bG (eK (dR b)) (aQ 2) aW) (iJ (bG (rK (a_ b)) (bV (a_ b) (aQ 1) bD) (bV (a_ b) (aQ 0) aW))))) (cF (cM aW)) dY) (cF (cM f'))))))))))⟩
def eI:=sk 2 6 cT.1
def vK:KP 2 je eI:=cT.2
def iz:CP 3 jH 2 5:=⟨_,λT=>kj ["_law_model","_law_deed_here","_law_word_here","_law_some","_law_room"] (T.d 52 rfl) λg _ _ _ _ _ _ b=>(bQ (fB (i:=2) (bV (a_ b) (aQ 1) bD) g) (bQ (gH (bG (eK (dR b)) (aQ 2) aW) (cF (cM (DR (bG (lF (a_ b)) (bV (a_ b) (aQ 1) bD) (bV (a_ b) (aQ 0) aW)) aW f'))) dY) (bQ (fB (i:=3) (fA iF (rS (aR (bV (a_ b) (aQ 1) bD) bb)) (Jh (N':=["_law_k","_law_deed_here","_law_word_here"]) (ix:=[none,some 1,some 2]) (gX.of (N:=["_law_model","_law_deed_here","_law_word_here","_law_some","_law_room"]) (sc:=bJ jH.st) rfl rfl (by decide+kernel)) (oR (cf (aR bD bb))) ⟨λs H ex=>⟨(fV 0 (by show List.Nodup (["_law_k","_law_deed_here","_law_word_here"]:List Str);decide+kernel)),(wb (bG (lF (a_ b)) (aQ 2) (cf (aR aW (aR aW (aR aW (aR aW (aR aW bb)))))))),(bV (a_ b) (aQ 1) (aQ 0))⟩⟩ (gn 0))) g) (bQ (gH (oQ (Jh (N':=["_law_who","_law_model"]) (ix:=[none,some 0]) (gX.of (N:=["_law_model","_law_deed_here","_law_word_here","_law_some","_law_room"]) (sc:=bJ jH.st) rfl rfl (by decide+kernel)) (oR (aQ 3)) ⟨λs H ex=>⟨(fV 0 (by show List.Nodup (["_law_who","_law_model"]:List Str);decide+kernel)),(wb (bG (rK (a_ b)) (aQ 0) (bV (a_ b) (aQ 1) aW))),(aQ 0)⟩⟩ (gn 0))) (cF (cM aW)) dY) (bQ (fB (i:=4) (TQ (a_ b) (bV (a_ b) (aQ 0) aW) (bV (a_ b) (aQ 1) bD)) g) (bQ (gH (bG (eK (dR b)) (aQ 2) aW) (cF (cM (DR (bG C_ (aQ 4) f') f' aW))) dY) (bQ (gH (bG C_ (aQ 4) f') (cF (cM aW)) dY) (bQ (gH (bG (eK (dR b)) (aQ 2) aW) (bQ (gH (bG (lF (a_ b)) (bV (a_ b) (aQ 1) bD) (bV (a_ b) (aQ 4) aW)) (cF (cM aW)) dY) (bQ (gH (bG (lF (a_ b)) (bV (a_ b) (aQ 1) bD) (bV (a_ b) (aQ 4) aW)) (cF (cM aW)) dY) (cF (cM (DR (eX (lR (bG (eK (dR b)) (bV (a_ b) (aQ 4) aW) aW) (iJ (bG (rK (a_ b)) (bV (a_ b) (aQ 1) bD) (bV (a_ b) (aQ 4) aW))))) aW f'))))) dY) (bQ (gH (bG (rK (a_ b)) (bV (a_ b) (aQ 1) bD) (bV (a_ b) (aQ 4) aW)) (cF (cM aW)) dY) (bQ (gH (bG (lF (a_ b)) (aQ 2) (cf (aR aW (aR aW (aR aW bb))))) (cF (cM LV)) dY) (cF (cM (DR (bG (eK (dR b)) (aQ 2) aW) f' (eR (vK T) b (aR (aQ 4) (aR (aQ 1) bb))))))))))))))))⟩
def fH:=sk 2 5 iz.1
def Ee:KP 3 jH fH:=iz.2
def u9:CP 2 uR 3 12:=⟨_,λT=>kj ["_law_cell_here","_law_model","_law_words_here","_law_names","_law_who","_law_whom","_law_room","_law_word_here","_law_some","_law_there","_law_number","_law_said_here"] (T.d 53 rfl) λg _ _ _ _ _ _ b=>(bQ (fB (i:=3) (cf (aR aW (aR aW (aR aW (aR aW (aR aW bb)))))) g) (bQ (gH (bG (eK (dR b)) (eR (jv T) b (aR (aQ 0) (aR bD (aR bD bb)))) bD) (cF (fB (i:=3) (cf (aR aW (aR aW (aR aW bb)))) g)) dY) (bQ (fB (i:=4) (bV (a_ b) (aQ 3) (eR (jv T) b (aR (aQ 0) (aR bD (aR (cR i_ T.len (aR (aQ 3) bb)) bb))))) g) (bQ (fB (i:=5) (bV (a_ b) (aQ 3) (eR (jv T) b (aR (aQ 0) (aR bD (aR (cR i_ T.len (aR (aQ 3) bb)) bb))))) g) (bQ (fB (i:=6) (bV (a_ b) (cf (aR aW (aR aW (aR aW (aR aW bb))))) (eR (jv T) b (aR (aQ 0) (aR bD (aR bD bb))))) g) (bQ (fB (i:=7) (bV (a_ b) (aQ 2) (eR (jv T) b (aR (aQ 0) (aR bD (aR (cR i_ T.len (aR (aQ 2) bb)) bb))))) g) (bQ (gH (bG (lF (a_ b)) (aQ 7) (cf (aR aW (aR aW (aR aW (aR aW bb)))))) (cF (cM (wc (cf (aR (aQ 7) (aR (aQ 4) (aR (aQ 6) bb)))) qj (qm (fA iF bD (fg XI T.int (aR (G8 (Ir (dR b)) (aQ 7) aW) bb))))))) dY) (bQ (gH (bG (eK (dR b)) (aQ 7) aW) (bQ (fB (i:=8) (rS (aR (cf (aR aW (aR aW bb))) (aR (cf (aR aW (aR aW bb))) (aR (cf (aR aW (aR aW bb))) bb)))) g) (bQ (fB (i:=8) (fA iF (aQ 8) (rS (aR (cf (aR aW (aR aW bb))) (aR (cf (aR aW (aR aW bb))) (aR (cf (aR aW (aR aW bb))) bb))))) g) (cF (cM (fA iF (cf (aR (aQ 7) (aR (aQ 4) (aR (aQ 6) bb)))) (bV (a_ b) (aQ 8) (eR (jv T) b (aR (aQ 0) (aR bD (aR bD bb)))))))))) dY) (bQ (gH (bG (eK (dR b)) (aQ 7) aW) (cF (cM (cf (aR (aQ 7) (aR (aQ 4) (aR (aQ 6) (aR (aQ 5) (aR (bV (a_ b) (cf (aR aW (aR aW (aR aW (aR aW bb))))) (eR (jv T) b (aR (aQ 0) (aR bD (aR bD bb))))) bb)))))))) dY) (bQ (gH (bG (lF (a_ b)) (aQ 7) (cf (aR aW (aR aW (aR aW (aR aW bb)))))) (cF (cM (cf (aR (aQ 7) (aR (aQ 4) (aR (aQ 6) (aR (aQ 5) bb))))))) dY) (bQ (fB (i:=9) (bV (a_ b) (LR (a_ b) (bV (a_ b) (aQ 1) aW) (aQ 6) (LQ (BF aW (rS bb) Qi))) aW) g) (bQ (fB (i:=10) (eR (jv T) b (aR (aQ 0) (aR bD (aR (fA iF (cR i_ T.len (aR (aQ 9) bb)) bD) bb)))) g) (bQ (OV (i:=11) (N':=["_law_row_here"]) (ix:=[none]) (gX.of (N:=["_law_cell_here","_law_model","_law_words_here","_law_names","_law_who","_law_whom","_law_room","_law_word_here","_law_some","_law_there","_law_number","_law_said_here"]) (sc:=bJ uR.st) rfl rfl (by decide+kernel)) (oR (aQ 9)) ⟨λs H ex=>⟨(fV 0 (by show List.Nodup (["_law_row_here"]:List Str);decide+kernel)),(wb (bG (eK (dR b)) (bV (a_ b) (aQ 0) bD) aW)),(bV (a_ b) (aQ 0) bD)⟩⟩ (gn 0) g) (bQ (gH (eX (lR (oQ (aQ 11)) (iJ (bG Sk (fA C6 (aQ 0) bD) bD)))) (cF (fB (i:=10) (bV (a_ b) (aQ 11) (eR (jv T) b (aR (aQ 0) (aR bD (aR (cR i_ T.len (aR (aQ 11) bb)) bb))))) g)) dY) (bQ (gH (bG (eK (dR b)) (aQ 7) aW) (cF (cM (cf (aR (aQ 7) (aR (aQ 4) (aR (aQ 6) (aR LV (aR (bV (a_ b) (cf (aR f' (aR f' (aR (aQ 10) bb)))) (eR (jv T) b (aR (aQ 0) (aR bD (aR bD bb))))) bb)))))))) dY) (bQ (gH (bG (eK (dR b)) (aQ 7) aW) (cF (cM (cf (aR (aQ 7) (aR (aQ 4) (aR (aQ 6) (aR (aQ 10) (aR LV bb)))))))) dY) (cF (cM (cf (aR (aQ 7) (aR (aQ 4) (aR (aQ 6) (aR (aQ 10) bb)))))))))))))))))))))))⟩
def Ef:=sk 3 12 u9.1
def Mu:KP 2 uR Ef:=u9.2
noncomputable def fi:CS 7 y1 2 3:=⟨_,λT=>fY ["_law_hall_here","_law_deed_here","_law_word_here"] (T.d 54 rfl) λg _ _ _ _ _ _ b=>(bq (iu (i:=2) (bf (bV (a_ b) (aQ 1) bD)) g) (bq (fE (cq (bG (eK (dR b)) (aQ 2) aW)) (bN (fD (cG (we T) b (aV (aQ 0)) (aU (bf (bV (a_ b) (aQ 1) bD)) bx)))) dz) (bq (fE (cq (bG (eK (dR b)) (aQ 2) aW)) (bN (fD (cG (BU T) b (aV (aQ 0)) (aU (bf (bV (a_ b) (aQ 1) bD)) (aU (bf (bV (a_ b) (aQ 1) bD)) bx))))) dz) (bq (fE (cq (bG (eK (dR b)) (aQ 2) aW)) (bN (fD (cG (BY T) b (aV (aQ 0)) (aU (bf (bV (a_ b) (aQ 1) bD)) (aU (bf (bV (a_ b) (aQ 1) bD)) bx))))) dz) (bq (fE (cq (bG (eK (dR b)) (aQ 2) aW)) (bN (fD (cG (BZ T) b (aV (aQ 0)) (aU (bf (bV (a_ b) (aQ 1) bD)) (aU (bf (bV (a_ b) (aQ 1) bD)) bx))))) dz) (bq (fE (cq (bG (eK (dR b)) (aQ 2) aW)) (bN (fD (cG (y9 T) b (aV (aQ 0)) (aU (bf (bV (a_ b) (aQ 1) bD)) (aU (bf (bV (a_ b) (aQ 1) bD)) (aU (bf (bV (a_ b) (aQ 1) bD)) (aU (bf (bV (a_ b) (aQ 1) bD)) bx))))))) dz) (bq (fE (cq (bG (eK (dR b)) (aQ 2) aW)) (bN (fD (cG (FT T) b (aV (aQ 0)) (aU (bf (bV (a_ b) (aQ 1) bD)) (aU (bf (bV (a_ b) (aQ 1) bD)) (aU (bf (bV (a_ b) (aQ 1) bD)) bx)))))) dz) (bq (fE (cq (bG (eK (dR b)) (aQ 2) aW)) (bN (fD DT)) dz) (bq (fE (cq (bG (eK (dR b)) (aQ 2) aW)) (bN (fD DT)) dz) (bq (fE (cq (bG (eK (dR b)) (aQ 2) aW)) (bN (fD (cG (FV T) b (aV (aQ 0)) (aU (bf (bV (a_ b) (aQ 1) bD)) (aU (bf (bV (a_ b) (aQ 1) bD)) (aU (bf (bV (a_ b) (aQ 1) bD)) bx)))))) dz) (bq (fE (cq (bG (eK (dR b)) (aQ 2) aW)) (bN (fD (cG (B6 T) b (aV (aQ 0)) (aU (bf (bV (a_ b) (aQ 1) bD)) (aU (bf (bV (a_ b) (aQ 1) bD)) (aU (bf (bV (a_ b) (aQ 1) bD)) bx)))))) dz) (bq (fE (cq (bG (eK (dR b)) (aQ 2) aW)) (bN (fD DT)) dz) (bq (fE (cq (bG (eK (dR b)) (aQ 2) aW)) (bN (fD DT)) dz) (bN (fD DT)))))))))))))))⟩
def fF:=ff 2 3 fi.1
def Eg:KS 7 y1 fF:=fi.2
noncomputable def nz:CS 8 y2 2 5:=⟨_,λT=>fY ["_law_hall_here","_law_deed_here","_law_kept","_law_answer","e"] (T.d 55 rfl) λb _ _ _ _ _ _ g=>(bq (iu (i:=2) (bf f') b) (bq (iu (i:=3) (bf f') b) (bq (T' 5 (i:=4) T.D5 (λpn l=>(bN (iu (i:=3) (iw (Eg T) g (aU (aV (aQ 0)) (aU (aV (aQ 1)) bx))) b))) (λpn e=>(bN (iu (i:=2) (aV (aQ 4)) b))) b) (bq (fE (cq (bG C_ (aQ 2) f')) (bN (fD (aV (aQ 3)))) dz) (bN (fD (bf (eR (Ms T) g (aR (aQ 2) bb)))))))))⟩
def qF:=ff 2 5 nz.1
def Mv:KS 8 y2 qF:=nz.2
def u_(r:List Tr->Rs Tr):CR 0 uS 2 2 r:=⟨_,λT g G=>kj ["_law_found","_law_due"] (T.d 56 rfl) λ_ _ _ _ _ _ _ b=>(bQ (gH (oQ (cR z6 T.isinstance (aR (aQ 1) (aR (DP T.tuple) bb)))) (bQ (gH (eX (DQ (Az (oQ (cR z6 T.isinstance (aR (aQ 0) (aR (DP T.tuple) bb))))) (wa (bG (Ir (dR b)) (cR i_ T.len (aR (aQ 0) bb)) (cR i_ T.len (aR (aQ 1) bb)))))) (cF (cM yO)) dY) (cF (cM (cR (WN rfl) T.all (aR (Jh (N':=["_law_one","_law_other"]) (ix:=[none,none]) (gX.of (N:=["_law_found","_law_due"]) (sc:=bJ uS.st) rfl rfl (by decide+kernel)) (Yn T.zip (aR (aQ 0) (aR (aQ 1) bb))) ⟨λs H ex=>⟨(G_ (is:=[0,1]) (qi (i:=0) (qi (i:=1) G9 (by show List.Nodup (["_law_one","_law_other"]:List Str);decide+kernel)) (by show List.Nodup (["_law_one","_law_other"]:List Str);decide+kernel))),AA,(eR G b (aR (aQ 0) (aR (aQ 1) bb)))⟩⟩ (ET [0,1])) bb))))) dY) (bQ (gH (bG C_ (aQ 1) f') (cF (cM (G8 C_ (aQ 0) f'))) dY) (bQ (gH (eX (DQ (oQ (cR z6 T.isinstance (aR (aQ 1) (aR (DP T.bool) bb)))) (wa (oQ (cR z6 T.isinstance (aR (aQ 0) (aR (DP T.bool) bb))))))) (cF (cM (LO (cR z6 T.isinstance (aR (aQ 1) (aR (DP T.bool) bb))) (LO (cR z6 T.isinstance (aR (aQ 0) (aR (DP T.bool) bb))) (QM (G8 (eK (dR b)) (aQ 0) (aQ 1))))))) dY) (cF (cM (LO (cR S6 T.isinstance (aR (aQ 0) (aR (cf (aR (DP T.int) (aR (DP T.str) bb))) bb))) (QM (G8 (eK (dR b)) (aQ 0) (aQ 1)))))))))⟩
def fG:Nat->List Tr->Rs Tr
 |0=>λ_=>.bad
 |n+1=>sk 2 2 (u_ (fG n)).1
theorem kH{P:Program}{w:World}{K:Frag}{mg:Str->Option Value}{base:Heap}(T:QV K w mg):∀n:Nat,yQ P w K mg base mv (0+n) uS (spT K (fG n))
 |0=>abh (T.d 56 rfl)
 |n+1=>(u_ _).2 T (mK ..) (kH T n)
noncomputable def nA:CS 9 y3 3 4:=⟨_,λT=>fY ["_law_hall_here","_law_model","_law_deed_here","_law_due"] (T.d 57 rfl) λg _ _ _ _ _ _ b=>(bq (iu (i:=3) (bf (eR (Ee T) b (aR (aQ 1) (aR (aQ 2) bb)))) g) (bq (fE (cq (bG C_ (aQ 3) f')) (bN (iu (i:=3) (iw (Ed T) b (aU (aV (aQ 1)) (aU (aV (aQ 2)) bx))) g)) dz) (bN (fD (iw (kH T 5).toZ b (aU (iw (Mv T) b (aU (aV (aQ 0)) (aU (aV (aQ 2)) bx))) (aU (aV (aQ 3)) bx)))))))⟩
def jK:=ff 3 4 nA.1
def Mw:KS 9 y3 jK:=nA.2
noncomputable def Eh:CS 8 y4 2 4:=⟨_,λT=>fY ["_law_hall_here","_law_model","_law_who","_law_deed_here"] (T.d 58 rfl) λg _ _ _ _ _ _ b=>(bq (Hb (oR (cf (aR aW (aR aW (aR aW (aR aW (aR aW bb))))))) (fV 2 g) (gn 2) (bN (cg (cG (we T) b (aV (aQ 0)) (aU (aV (aQ 2)) bx))))) (bN (Hb (oR (cf (aR (cf (aR aW (aR aW (aR aW bb)))) (aR (cf (aR aW (aR aW (aR aW bb)))) (aR (cf (aR aW (aR aW (aR aW bb)))) (aR (cf (aR aW (aR aW (aR aW bb)))) bb)))))) (fV 3 g) (gn 3) (bq (cg (iw (Eg T) b (aU (aV (aQ 0)) (aU (aV (aQ 3)) bx)))) (bN (cg (iw (Ed T) b (aU (aV (aQ 1)) (aU (aV (aQ 3)) bx)))))))))⟩
def Ei:=ff 2 4 Eh.1
def Mx:KS 8 y4 Ei:=Eh.2
def vL:CP 6 ng 2 6:=⟨_,λT=>kj ["_law_hall_here","_law_model","_law_name","_law_room","_law_roles","_law_due"] (T.d 59 rfl) λg _ _ _ _ _ _ b=>(bQ (TR (Ha (bV (a_ b) (aQ 1) aW)) (fV 2 g) (bQ (fB (i:=3) (bV (a_ b) (bV (a_ b) (aQ 1) aW) (aQ 2)) g) (bQ (fB (i:=4) (fg hJ T.tuple (aR (Jh (N':=["_law_who","_law_room"]) (ix:=[none,some 3]) (gX.of (N:=["_law_hall_here","_law_model","_law_name","_law_room","_law_roles","_law_due"]) (sc:=bJ ng.st) rfl rfl (by decide+kernel)) (oR (cR (jF rfl) T.sorted (aR (bV (a_ b) (aQ 3) aW) bb))) ⟨λs H ex=>⟨(fV 0 (by show List.Nodup (["_law_who","_law_room"]:List Str);decide+kernel)),AA,(cf (aR (aQ 0) (aR (bV (a_ b) (bV (a_ b) (aQ 1) aW) (aQ 0)) bb)))⟩⟩ (gn 0)) bb)) g) (bQ (gH (Az (oQ (eR (kH T 5) b (aR (cf (aR (kX (D8 T) b (aQ 0) (aR (aQ 2) bb)) (aR (kX (B_ T) b (aQ 0) (aR (aQ 2) bb)) bb))) (aR (cf (aR (fg hJ T.tuple (aR (bV (a_ b) (aQ 3) aW) bb)) (aR (aQ 4) bb))) bb))))) (cF (cM yO)) dY) (bQ (gH (Az (oQ (eR (kH T 5) b (aR (kX (zH T) b (aQ 0) (aR (aQ 2) bb)) (aR (fg hJ T.tuple (aR (cR (jF rfl) T.sorted (aR (bV (a_ b) (aQ 3) aW) bb)) bb)) bb))))) (cF (cM yO)) dY) (bQ (gH (Az (oQ (eR (kH T 5) b (aR (kX (Ca T) b (aQ 0) (aR (aQ 2) bb)) (aR (fg hJ T.tuple (aR (TV T.sorted T.set (bV (a_ b) (aQ 3) aW)) bb)) bb))))) (cF (cM yO)) dY) (cF (gH (oQ (Jh (N':=["_law_what","_law_name","_law_room","_law_hall_here"]) (ix:=[none,some 2,some 3,some 0]) (gX.of (N:=["_law_hall_here","_law_model","_law_name","_law_room","_law_roles","_law_due"]) (sc:=bJ ng.st) rfl rfl (by decide+kernel)) (oR (cf (aR aW (aR aW (aR aW bb))))) ⟨λs H ex=>⟨(fV 0 (by show List.Nodup (["_law_what","_law_name","_law_room","_law_hall_here"]:List Str);decide+kernel)),(wb (bG (Ir (dR b)) (kX (y' T) b (aQ 3) (aR (aQ 1) (aR (aQ 0) bb))) (bV (a_ b) (aQ 2) (aQ 0)))),bD⟩⟩ (gn 0))) (cF (cM yO)) dY)))))))) (bQ (fB (i:=5) (cf (aR (fg hJ T.tuple (aR (cR (jF rfl) T.sorted (aR (bV (a_ b) (aQ 1) aW) bb)) bb)) (aR (fg hJ T.tuple (aR (cR (jF rfl) T.sorted (aR (bV (a_ b) (aQ 1) aW) bb)) bb)) bb))) g) (cF (cM (eR (kH T 5) b (aR (cf (aR (qY (B7 T) b (aQ 0)) (aR (qY (zF T) b (aQ 0)) bb))) (aR (aQ 5) bb)))))))⟩
def AL:=sk 2 6 vL.1
def Ju:KP 6 ng AL:=vL.2
noncomputable def Hs:CZ 10 D0 1 6:=⟨_,λT=>abg ["_law_script","_law_hall_here","_law_model","_law_words_here","_law_k","_law_deed_here"] (T.d 60 rfl) λg _ _ _ _ _ _ b=>(bq (iu (i:=1) (O3 (wF T) T.Um b) g) (bq (iu (i:=2) (iw (Js T) b (aU (bf (cf (aR aW (aR aW (aR aW (aR aW (aR aW bb))))))) bx)) g) (bq (cg (iw (Mx T) b (aU (aV (aQ 1)) (aU (aV (aQ 2)) bx)))) (bq (iu (i:=3) (bf (cf (aR aW (aR aW (aR aW (aR aW (aR aW (aR aW (aR aW bb))))))))) g) (bq (Hb (LP T.range (aR bD bb)) (fV 4 g) (gn 4) (bq (iu (i:=5) (bf (eR (Mu T) b (aR (fA iF (eR (Mt T) b (aR (aQ 0) (aR (fA C6 (aQ 4) bD) bb))) (fA KH bD (aQ 4))) (aR (aQ 2) (aR (aQ 3) bb))))) g) (bN (fE (T6 (T5 (iw (Mw T) b (aU (aV (aQ 1)) (aU (aV (aQ 2)) (aU (aV (aQ 5)) bx)))))) (bN (fD (bf yO))) dz)))) (bN (fD (bf (eR (Ju T) b (aR (aQ 1) (aR (aQ 2) bb)))))))))))⟩
def zd:=Dg 1 6 Hs.1
def YK:KP 10 D0 zd:=Hs.2
section
variable {A:Ab}{rk en ch bn iv:List (Key×Tr)}
def oG{aY c6:Str}{ps:List Tr}(h:bz A aM rows rk en ch bn iv)(f:d9 rows rk en ch bn iv)(q:rows.length<dU)(hp:3+ps.length<=dU)(ht:nT ps=true):
  nr [.at aM,.str aY,.str c6,.tup ps] A=.ok (.int (rows.length+1)) (A.set (aM+1) (.lst (rows++[.tup (.int (rows.length+1):: .str aY:: .str c6::ps)]))):=by
 show cD (gK.1 [.sh (.at aM),.sh (.str aY),.sh (.str c6),.sh (.tup ps),.no] A)=_;unfold gK;have b:vk (.tup [.int (rows.length+1),.str aY,.str c6]) (.tup ps)=.ok (.tup (.int (rows.length+1):: .str aY:: .str c6::ps)):=aX hp;have g:∀A,sS (.ok (.tup (.int (rows.length+1):: .str aY:: .str c6::ps))) A=.ok (.tup (.int (rows.length+1):: .str aY:: .str c6::ps)) A:=λA=>aX (by simpa only[JG,nT,pG]using ht);simp only[ev,cO,eV,fj,h.abi f,h.abk,cz,cA,yR h.lg,yS h.lg q,b,g]
noncomputable abbrev gW(rows:List Tr)(aY c6:Str)(ps:List Tr):Tr:=.tup (.int (rows.length+1):: .str aY:: .str c6::ps)
def Pj{aY c6 role:Str}(h:bz A aM rows rk en ch bn iv)(f:d9 rows rk en ch bn iv)(q:rows.length<dU)(hr:rk.length<dU)(he:en.length<dU):
  ∃A',rV [.at aM,.str aY,.str c6,.str role] A=.ok .cu A'/\Ext A A' [(aM+6,.bU (iI iv (.inr aY))),(aM+2,.bU (kT rk (.inr aY) (.str role))),(aM+3,.bU (kT en (.inr aY) (.int (rows.length+1)))),(aM+1,.lst (rows++[gW rows aY c6 []]))]/\bz A' aM (rows++[gW rows aY c6 []]) (kT rk (.inr aY) (.str role)) (kT en (.inr aY) (.int (rows.length+1))) ch bn (iI iv (.inr aY)):=by
 have h1:=h.sG (Ext.put (o:=.lst (rows++[gW rows aY c6 []])) h.lg);have h2:=h1.abm (Ext.put (o:=.bU (kT en (.inr aY) (.int (rows.length+1)))) h1.en);have b:=h2.O6 (Ext.put (o:=.bU (kT rk (.inr aY) (.str role))) h2.rk);refine⟨_,?_,((Ext.put h.lg).trans (Ext.put h1.en)).trans ((Ext.put h2.rk).trans (Ext.put b.iv)),b.YH (Ext.put b.iv)⟩;show cD (jr.1 [.sh (.at aM),.sh (.str aY),.sh (.str c6),.sh (.str role)] A)=_;unfold jr;have g:∀A,sS (.ok (.tup [])) A=.ok (.tup []) A:=λA=>rfl;have w:=oG (aY:=aY) (c6:=c6) (ps:=[]) h f q (by decide) rfl;simp only[ev,cO,eV,fj,h.call (m:="write_row") rfl,g,w,kY,h1.abl,kZ h1.en he,h2.O4,kZ h2.rk hr,b.YG,Hf b.iv,Hg _ b.iv]
def Up{aY c9 role:Str}(h:bz A aM rows rk en ch bn iv)(f:d9 rows rk en ch bn iv)(q:rows.length<dU)(hr:rk.length<dU):
  ∃A',nu [.at aM,.str aY,.str c9,.str role] A=.ok .cu A'/\Ext A A' [(aM+2,.bU (kT rk (.inr c9) (.str role))),(aM+1,.lst (rows++[gW rows aY "role" [.str c9,.str role]]))]/\bz A' aM (rows++[gW rows aY "role" [.str c9,.str role]]) (kT rk (.inr c9) (.str role)) en ch bn iv:=by
 have h1:=h.sG (Ext.put (o:=.lst (rows++[gW rows aY "role" [.str c9,.str role]])) h.lg);refine⟨_,?_,(Ext.put h.lg).trans (Ext.put h1.rk),h1.O6 (Ext.put h1.rk)⟩;show cD (gL.1 [.sh (.at aM),.sh (.str aY),.sh (.str c9),.sh (.str role)] A)=_;unfold gL;have b:∀A,sS (.ok (.tup [.str c9,.str role])) A=.ok (.tup [.str c9,.str role]) A:=λA=>rfl;have w:=oG (aY:=aY) (c6:="role") (ps:=[.str c9,.str role]) h f q (by show 3+2<=dU;decide) rfl;simp only[ev,cO,eV,fj,h.call (m:="write_row") rfl,b,w,kY,h1.O4,kZ h1.rk hr]
def ze(h:bz A aM rows rk en ch bn iv)(f:d9 rows rk en ch bn iv)(hw:aY.length<=1000):
  lx [.at aM,.str aY] A=if(fc rk (.inr aY)).isSome=true then .ok .cu A else .exc (.str "NotIn") A:=by
 show cD (iR.1 [.sh (.at aM),.sh (.str aY)] A)=_;unfold iR;simp only[ev,cO,eV,fj,h.vA f];cases e:(fc rk (.inr aY)).isSome with
 |true=>simp only[dv,ev,bX]
 |false=>
  have s:=zD (z:=aY) (y:=" is not in the room") hw (by decide+kernel);simp only[eO,ev,cO,eV,fj,s,cE,bZ]
end
noncomputable abbrev oH:List Str:=["guest","speaker","keeper","owner"]
noncomputable def lvl(r:Str):Int:=if r="owner"then 3 else if r="keeper"then 2 else if r="speaker"then 1 else 0
def vc{r:Str}(h:r∈oH):BP [.str r]=.ok (.int (lvl r)):=by
 have:r="guest"\/r="speaker"\/r="keeper"\/r="owner":=by simpa using h
 rcases this with rfl|rfl|rfl|rfl<;>rfl
structure Jv(aT:List (Str×Str))(z:Str):Prop where
 ex:∃j r,aT[j]?=some (z,r)/\(∀p∈aT,lvl p.2<=lvl r)/\∀(a:Nat) (p:Str×Str),a<j->aT[a]?=some p->lvl p.2<lvl r
theorem Jv.one {y z:Str}(a:Jv aT y)(b:Jv aT z):y=z:=by
 obtain⟨j,r,h1,h2,n⟩:=a.ex;obtain⟨k,s,g1,g2,g3⟩:=b.ex;have g:=h2 _ (d6 g1);have l:=g2 _ (d6 h1);rcases Nat.lt_trichotomy j k with q|q|q
 ·have:=g3 j _ q h1;simp only at g l this;omega
 ·subst q;rw[h1]at g1;cases g1;rfl
 ·have:=n k _ q g1;simp only at g l this;omega
section
variable {A:Ab}{i:Nat}{ch bn iv:List (Key×Tr)}{ent:Str->Int}
structure dk(aT:List (Str×Str))(ents:List (Str×Int))(ent:Str->Int):Prop where
 rl:∀p∈aT,p.2∈oH
 nd:(aT.map (·.1)).Nodup
 sh:∀p∈aT,p.1.length<=1000
 en:∀p∈aT,ents.lookup p.1=some (ent p.1)
 up:(aT.map fun p=>ent p.1).Pairwise (· <·)
theorem hX:∀{aT:List (Str×Str)},(aT.map (·.1)).Nodup->∀p∈aT,aT.lookup p.1=some p.2
 |q::aT,nd,p,hp=>by
  rw[bB,gA]at nd;rw[cP];rcases bI.mp hp with rfl|hp
  ·simp
  ·have:(p.1==q.1)=false:=by
    simp only[j6];intro e;exact nd.1 (e▸gz hp)
   rw[this];exact hX nd.2 p hp
def Pk{p:Str×Str}(h:bz A i rows (dP .str aT) (dP .int ents) ch bn iv)(f:d9 rows (dP .str aT) (dP .int ents) ch bn iv)(k:dk aT ents ent)(hp:p∈aT):
  iQ [aZ 5 A (.at i),.str p.1]=.ok (.tup [.int (-(lvl p.2)),.int (ent p.1)]):=by
 show dG (kl.1 [.sh (aZ 5 A (.at i)),.sh (.str p.1)])=_;unfold kl;simp only[ev,cO,h.vA f,h.abj f,ee,hX k.nd p hp,k.en p hp,dE,l8,vc (k.rl p hp)]
theorem Uq(h:bz A i rows (dP .str aT) (dP .int ents) ch bn iv)(f:d9 rows (dP .str aT) (dP .int ents) ch bn iv)(k:dk aT ents ent)(q:aT≠[]):
  ∃z,Jv aT z/\G6 "Room" "claim" iQ (.ok (.lst (aT.map λp=>.str p.1))) (.ok (aZ 5 A (.at i)))=.ok (.str z):=by
 have L:0<aT.length:=tB.mpr q
 let key:Str->Int×Int:=λz=>(-(lvl ((aT.lookup z).getD "")),ent z)
 have r:∀p∈aT,key p.1=(-(lvl p.2),ent p.1):=λp hp=>by show(-(lvl ((aT.lookup p.1).getD "")),ent p.1)=_;rw[hX k.nd p hp];rfl
 have hs:keysOf iQ (aZ 5 A (.at i)) ((aT.map (·.1)).map .str)=some ((aT.map (·.1)).map key):=AE λz hz=>by
  obtain⟨p,hp,rfl⟩:=cI.mp hz;rw[Pk h f k hp,r p hp]
 let kf:Nat->Int×Int:=λa=>((aT.map (·.1)).map key).getD a (0,0)
 have l:∀a p,aT[a]?=some p->kf a=(-(lvl p.2),ent p.1):=λa p e=>by
  show((aT.map (·.1)).map key).getD a (0,0)=_;rw[eM,ck,ck,e];exact r p (d6 e)
 have n:∀a b,a<b->b<=aT.length - 1->(kf a).2<(kf b).2:=λa b M hb=>by
  have g:b<aT.length:=by omega
  have I:a<aT.length:=by omega
  rw[l a _ (b_ I),l b _ (b_ g)];have:=List.pairwise_iff_getElem.mp k.up a b (by simpa using I) (by simpa using g) M;simpa using this
 obtain⟨S,h2⟩:=uN (kf:=kf) (aT.length - 1) n;have hb:=vB (kf:=kf) (aT.length - 1);have g:dt kf (aT.length - 1)<aT.length:=by omega
 refine⟨aT[dt kf (aT.length - 1)].1,⟨dt kf (aT.length - 1),aT[dt kf (aT.length - 1)].2,b_ g,λp hp=>?_,λa p ha e=>?_⟩,?_⟩
 ·obtain⟨a,ha,e⟩:=List.getElem_of_mem hp;have:=S a (by omega);rw[l _ _ (b_ g),l a p (by rw[b_ ha,e])]at this;simp only at this;omega
 ·have:=h2 a ha;rw[l _ _ (b_ g),l a p e]at this;simp only at this;omega
 ·show v9 "Room" "claim" iQ (.lst (aT.map λp=>.str p.1)) (aZ 5 A (.at i))=_;rw[gV h.o]at hs⊢;rw[show(aT.map λp=>Tr.str p.1)=(aT.map (·.1)).map .str by rw[cN];rfl];refine Ma rfl (by simpa using L) hs ?_
  rw[show((aT.map (·.1)).map Tr.str).length=aT.length by simp];show((aT.map (·.1)).map Tr.str)[dt kf (aT.length - 1)]?=_
  rw[ck,ck,b_ g]
  rfl
inductive iA(rows:List Tr)(aT:List (Str×Str)):List Tr->List (Str×Str)->Prop
 |same:(aT=[]\/∃p∈aT,p.2="owner")->iA rows aT rows aT
 |zI (z:Str):Jv aT z->(∀p∈aT,p.2≠"owner")->aT≠[]->iA rows aT (rows++[gW rows z "role" [.str z,.str "owner"]]) (fM aT z "owner")
theorem iA.one {r1 q:List Tr}{k1 k2:List (Str×Str)}(a:iA rows aT r1 k1)(b:iA rows aT q k2):r1=q/\k1=k2:=by
 cases a with
 |same h=>
  cases b with
  |same _=>exact⟨rfl,rfl⟩
  |zI z _ h2 l=>
   rcases h with h|⟨p,hp,e⟩
   ·exact absurd h l
   ·exact absurd e (h2 p hp)
 |zI z g h2 l=>
  cases b with
  |same h=>
   rcases h with h|⟨p,hp,e⟩
   ·exact absurd h l
   ·exact absurd e (h2 p hp)
  |zI y g' _ _=>cases g.one g';exact⟨rfl,rfl⟩
theorem QX(h:bz A i rows (dP .str aT) (dP .int ents) ch bn iv)(f:d9 rows (dP .str aT) (dP .int ents) ch bn iv)(k:dk aT ents ent)(hl:rows.length<dU)(hr:aT.length<dU):
  ∃A' dc q,jW [.at i] A=.ok .cu A'/\iA rows aT dc q/\Ext A A' [(i+2,.bU (dP .str q)),(i+1,.lst dc)]/\bz A' i dc (dP .str q) (dP .int ents) ch bn iv:=by
 let P:Str->Bool:=λz=>aT.lookup z==some ("owner":Str)
 have h1:=h.e_0 (Ext.push (o:=.lst ((((aT.map (·.1)).filter P).map .str))));have r:Ext A (A++[.lst ((((aT.map (·.1)).filter P).map .str))]) [(i+2,.bU (dP .str aT)),(i+1,.lst rows)]:=(Ext.push.idem h.lg rfl).idem h.rk (fq (by omega));have g:∀p∈aT,P p.1=(p.2==("owner":Str)):=λp hp=>by show(aT.lookup p.1==some ("owner":Str))=_;rw[hX k.nd p hp];rfl
 have t1:aZ 5 (A++[Ao.lst (((aT.map (·.1)).filter P).map .str)]) (.at A.length)=.lst (((aT.map (·.1)).filter P).map .str):=by rw[mi lS,qZ]
 show∃A' dc q,cD (fw.1 [.sh (.at i),.no,.no] A)=.ok .cu A'/\_;unfold fw;simp only[ev,cO,eV,fj,h.vA f,wR k.sh,map_fst];rw[nc (AF:=[.sh (aZ 5 A (.at i))]) P rfl (by simpa using dq hr) rfl (λ_=>rfl) ?hC]
 case hC=>
  intro z hz;obtain⟨p,hp,rfl⟩:=cI.mp hz;simp only[ev,cO,h.vA f,ee,hX k.nd p hp,dE,l8,g p hp]
 simp only[uO m_,ev,cO,eV,fj,cz,cA,h1.vA f,t1,k_,bt];by_cases b:aT=[]
 ·subst b;exact⟨_,_,_,rfl,.same (.inl rfl),r,h1⟩
 have l:(decide ((0:Int)<(aT.length:Int)))=true:=gB (by have:=tB.mpr b;omega);simp only[l,ev,cO,eV];by_cases n:∃p∈aT,p.2="owner"
 ·have:((((aT.map (·.1)).filter P).length:Int)==0)=false:=by
   obtain⟨p,hp,e⟩:=n;have hm:p.1∈(aT.map (·.1)).filter P:=e_.mpr ⟨gz hp,by rw[g p hp,e];exact bR _⟩;have:=List.length_pos_of_mem hm;simp only[j6];omega
  simp only[this,ev];exact⟨_,_,_,rfl,.same (.inr n),r,h1⟩
 ·have I:∀p∈aT,p.2≠"owner":=λp hp e=>n ⟨p,hp,e⟩;have:((aT.map (·.1)).filter P)=[]:=List.filter_eq_nil_iff.mpr λz hz=>by
   obtain⟨p,hp,rfl⟩:=cI.mp hz;rw[g p hp];simpa using I p hp
  obtain⟨z,hz,L⟩:=Uq h1 f k b;obtain⟨A',q1,M,S⟩:=Up (aY:=z) (c9:=z) (role:="owner") h1 f hl (by rw[k_];exact hr);rw[map_fst]at L;have el:Fg [.bU (dP .str aT)]=.ok (.lst ((aT.map (·.1)).map .str)):=by
   show(Dh (dP .str aT)).bind (λts=>Rs.ok (Tr.lst ts))=_;rw[Hj λp hp=>cC (k.sh p hp) (by decide),map_fst];rfl
  have e9:((((aT.map (·.1)).filter P).length:Int)==0)=true:=by rw[this];rfl
  simp only[e9,ev,cO,eV,fj,h1.vA f,el,L,cz,cA,h1.call (m:="give_role") rfl,q1];rw[mj]at M S;exact⟨_,_,_,rfl,.zI z hz I b,Ext.past Ext.push M,S⟩
end
section
variable {A:Ab}{bn iv:List (Key×Tr)}{ent:Str->Int}
theorem lookup_none{α:Type}{z:Str}:∀{l:List (Str×α)},l.lookup z=none->∀p∈l,p.1≠z
 |q::l,h,p,hp=>by
  rw[cP]at h;cases e:(z==q.1)with
  |true=>rw[e]at h;cases h
  |false=>
   rw[e]at h;rcases bI.mp hp with rfl|hp
   ·intro q;rw[q,bR]at e;cases e
   ·exact lookup_none h p hp
def qG{α:Type}{l:List (Str×α)}{z:Str}{a:α}(h:l.lookup z=none):fM l z a=l++[(z,a)]:=by
 unfold fM;rw[ba];intro q;obtain⟨p,hp,e⟩:=xx.mp q;exact lookup_none h p hp (eN e)
def zf{α:Type}{z y:Str}{a:α}:∀{l:List (Str×α)},(fM l z a).lookup y=if y=z then some a else l.lookup y:=by
 intro l;unfold fM;split
 ·rename_i h
  induction l with
  |nil=>cases h
  |cons p l n=>
   rw[bB,cP,cP];by_cases hz:p.1=z
   ·rw[aX hz];by_cases g:y=z
    ·subst g;rw[aX rfl,hz];simp
    ·have L:(y==p.1)=false:=by simpa[hz]using g
     rw[ba g];simp only[L]
     clear n h
     induction l with
     |nil=>rfl
     |cons q l n=>
      rw[bB,cP,cP];by_cases I:q.1=z
      ·rw[aX I];have r:(y==q.1)=false:=by simpa[I]using g
       simp only[r];exact n
      ·rw[ba I];split
       ·rfl
       ·exact n
   ·rw[ba hz];have h2:(l.any λp=>decide (p.1=z))=true:=by
     rw[jj]at h;simpa[hz]using h
    cases e:(y==p.1)with
    |true=>
     have:y=p.1:=by simpa using e
     rw[ba (by rw[this];exact hz)]
    |false=>exact n h2
 ·rename_i h;rw[List.lookup_append];have M:l.lookup z=none:=by
   cases e:l.lookup z with
   |none=>rfl
   |some b=>
    exfalso;apply h
    clear h
    induction l with
    |nil=>cases e
    |cons p l n=>
     rw[cP]at e;rw[jj];cases r:(z==p.1)with
     |true=>have:z=p.1:=by simpa using r
            simp[this]
     |false=>rw[r]at e;simp[n e]
  by_cases g:y=z
  ·subst g;rw[M,aX rfl];simp
  ·rw[ba g];have:(y==z)=false:=by simpa using g
   simp[List.lookup,this]
theorem dk.enter {n:Int}{r:Str}(k:dk aT ents ent)(q:aT.lookup aY=none)(hZ:∀p∈aT,ent p.1<n)(hw:aY.length<=1000)(hr:r∈oH):dk (fM aT aY r) (fM ents aY n) λz=>if z=aY then n else ent z:=by
 rw[qG q];have g:=lookup_none q;refine⟨λp hp=>?_,?_,λp hp=>?_,λp hp=>?_,?_⟩
 ·rcases dm.mp hp with hp|hp
  ·exact k.rl p hp
  ·cases cQ.mp hp;exact hr
 ·rw[g7,tL];refine⟨k.nd,by simp,λa l b hb=>?_⟩;obtain⟨p,hp,rfl⟩:=cI.mp l;cases(cQ.mp hb);exact g p hp
 ·rcases dm.mp hp with hp|hp
  ·exact k.sh p hp
  ·cases cQ.mp hp;exact hw
 ·rw[zf];rcases dm.mp hp with hp|hp
  ·rw[ba (g p hp),ba (g p hp)];exact k.en p hp
  ·cases cQ.mp hp;rw[aX rfl,aX rfl]
 ·rw[g7,List.pairwise_append];refine⟨?_,by simp,λa l b hb=>?_⟩
  ·have:(aT.map λp=>if p.1=aY then n else ent p.1)=aT.map λp=>ent p.1:=fZ λp hp=>ba (g p hp);rw[this];exact k.up
  ·obtain⟨p,hp,rfl⟩:=cI.mp l;simp at hb;subst hb;rw[ba (g p hp)];exact hZ p hp
theorem dk.leave (k:dk aT ents ent):dk (gZ aT aY) ents ent:=by
 have s:(gZ aT aY).Sublist aT:=List.filter_sublist;exact⟨λp hp=>k.rl p (s.subset hp),k.nd.sublist (s.map _),λp hp=>k.sh p (s.subset hp),λp hp=>k.en p (s.subset hp),k.up.sublist (s.map _)⟩
def Ej{α:Type}{l:List (Str×α)}{a:α}(h:aY∈l.map (·.1)):(fM l aY a).map (·.1)=l.map (·.1):=by
 unfold fM;obtain⟨p,hp,e⟩:=cI.mp h;rw[aX (xx.mpr ⟨p,hp,gB e⟩),cN];exact fZ λq _=>by show(if q.1=aY then(q.1,a)else q).1=q.1;split<;>rfl
def Pl{α:Type}{l:List (Str×α)}{a:α}{p:Str×α}(h:p∈fM l aY a):p=(aY,a)\/p∈l:=by
 unfold fM at h;split at h
 ·obtain⟨q,b,e⟩:=cI.mp h;split at e
  ·rename_i hz;left;rw[<-e,hz]
  ·right;rw[<-e];exact b
 ·rcases dm.mp h with h|h
  ·exact .inr h
  ·exact .inl (cQ.mp h)
theorem dk.role {r:Str}(k:dk aT ents ent)(h:aY∈aT.map (·.1))(hr:r∈oH):dk (fM aT aY r) ents ent:=by
 have g:=Ej (a:=r) h;have hm:∀p∈fM aT aY r,∃q∈aT,q.1=p.1:=λp hp=>by
  have:p.1∈aT.map (·.1):=by rw[<-g];exact gz hp
  obtain⟨q,b,e⟩:=cI.mp this;exact⟨q,b,e⟩
 refine⟨λp hp=>?_,by rw[g];exact k.nd,λp hp=>?_,λp hp=>?_,?_⟩
 ·rcases Pl hp with rfl|hp
  ·exact hr
  ·exact k.rl p hp
 ·obtain⟨q,b,e⟩:=hm p hp;rw[<-e];exact k.sh q b
 ·obtain⟨q,b,e⟩:=hm p hp;rw[<-e];exact k.en q b
 ·have:((fM aT aY r).map λp=>ent p.1)=aT.map λp=>ent p.1:=by
   have n:∀l:List (Str×Str),(l.map λp=>ent p.1)=(l.map (·.1)).map ent:=λl=>by rw[cN];rfl
   rw[n,n,g]
  rw[this];exact k.up
def iA.My {dc:List Tr}{q:List (Str×Str)}(o:iA rows aT dc q)(k:dk aT ents ent):dk q ents ent:=by
 cases o with
 |same _=>exact k
 |zI z g _ _=>
  obtain⟨j,r,e,_⟩:=g.ex;exact k.role (cI.mpr ⟨_,d6 e,rfl⟩) (by decide+kernel)
end
section
variable {A:Ab}{bn iv:List (Key×Tr)}{ent:Str->Int}{d:Str}
def Ht{us:List Tr}{rk en ch q en' ch' bn' iv':List (Key×Tr)}(f:d9 rows rk en ch bn iv)(h1:gR q)(h2:gR en')(h3:gR ch')(h4:gR bn')(h5:gR iv'):d9 (rows++[.tup us]) q en' ch' bn' iv':=⟨uL f.lg,h1,h2,h3,h4,h5⟩
def Vh:gR (dP .str aT):=uM λ_ _ _=>sF
def flI:gR (dP .int ents):=uM λ_ _ _=>L9
def Mz{r:Str}(h:bz A aM rows (dP .str aT) (dP .int ents) (dP .str aO) bn iv)(f:d9 rows (dP .str aT) (dP .int ents) (dP .str aO) bn iv)(hw:aY.length<=1000)(q:aT.lookup aY=some r):
  fh [.at aM,.str aY] A=.exc (.str "Known") A:=by
 show cD (dO.1 [.sh (.at aM),.sh (.str aY)] A)=_;unfold dO;have s:=zD (z:=aY) (y:=" is in the room") hw (by decide+kernel);simp only[ev,cO,eV,fj,h.vA f,dS,q,dE,j7,s]
def MA{r:Tr}(h:bz A aM rows (dP .str aT) (dP .int ents) (dP .str aO) bn iv)(f:d9 rows (dP .str aT) (dP .int ents) (dP .str aO) bn iv)(hw:aY.length<=1000)(q:aT.lookup aY=none)(hb:fc bn (.inr aY)=some r):
  fh [.at aM,.str aY] A=.exc (.str "Barred") A:=by
 show cD (dO.1 [.sh (.at aM),.sh (.str aY)] A)=_;unfold dO;have s:=zD (z:=aY) (y:=" is barred") hw (by decide+kernel);simp only[ev,cO,eV,fj,h.vA f,dS,q,pC,pf,h.L' f,hb,j7,s]
def MB(h:bz A aM rows (dP .str aT) (dP .int ents) (dP .str aO) bn iv)(f:d9 rows (dP .str aT) (dP .int ents) (dP .str aO) bn iv)(hw:aY.length<=1000)(q:aT.lookup aY=none)(hb:fc bn (.inr aY)=none)(hd:aO.lookup ("door":Str)=some ("asked":Str))(hv:fc iv (.inr aY)=none):
  fh [.at aM,.str aY] A=.exc (.str "NotAsked") A:=by
 show cD (dO.1 [.sh (.at aM),.sh (.str aY)] A)=_;unfold dO;have s:=zD (z:=aY) (y:=" is not asked") hw (by decide+kernel);have b:aO.lookup (Str.ofString "door")=some (Str.ofString "asked"):=hd;simp only[ev,cO,eV,fj,h.vA f,dS,q,pC,pf,h.L' f,hb,h.YD f,ee,b,dE,l8,bR,h.YE f,hv,eO,s]
def Pm(h:bz A aM rows (dP .str aT) (dP .int ents) (dP .str aO) bn iv)(f:d9 rows (dP .str aT) (dP .int ents) (dP .str aO) bn iv)(k:dk aT ents ent)(hZ:∀p∈aT,ent p.1<rows.length+1)(hl:rows.length+1<dU)(hr':aT.length+1<dU)(he:ents.length<dU)(hw:aY.length<=1000)
  (hr:aT.lookup aY=none) (hb:fc bn (.inr aY)=none) (hd:aO.lookup ("door":Str)=some d) (q:d≠"asked"\/(fc iv (.inr aY)).isSome=true):
  ∃A' dc dB,fh [.at aM,.str aY] A=.ok .cu A'/\iA (rows++[gW rows aY "enter" []]) (fM aT aY "guest") dc dB/\Ext A A' ([(aM+2,.bU (dP .str dB)),(aM+1,.lst dc)]++[(aM+6,.bU (iI iv (.inr aY))),(aM+2,.bU (dP .str (fM aT aY "guest"))),(aM+3,.bU (dP .int (fM ents aY (rows.length+1)))),(aM+1,.lst (rows++[gW rows aY "enter" []]))])
   /\bz A' aM dc (dP .str dB) (dP .int (fM ents aY (rows.length+1))) (dP .str aO) bn (iI iv (.inr aY)):=by
 obtain⟨A1,l,g,b⟩:=Pj (aY:=aY) (c6:="enter") (role:="guest") h f (by omega) (by rw[k_];omega) (by rw[k_];exact he);rw[mj,mj]at g b;have hs:(fM aT aY "guest").length<dU:=by rw[qG hr,eZ];exact hr'
 obtain⟨A2,dc,dB,s1,s2,s3,s4⟩:=QX b (Ht f Vh flI f.ch f.bn (Jk f.iv)) (k.enter (n:=rows.length+1) hr hZ hw (by decide+kernel)) (by rw[eZ];exact hl) hs;refine⟨A2,dc,dB,?_,s2,g.trans s3,s4⟩;show cD (dO.1 [.sh (.at aM),.sh (.str aY)] A)=_;unfold dO;have r:aO.lookup (Str.ofString "door")=some d:=hd;have I:Kw (.ok (d==("asked":Str))) (.ok (!(fc iv (.inr aY)).isSome))=.ok false:=by
  rcases q with q|q
  ·rw[show(d==("asked":Str))=false by simpa using q];rfl
  ·rw[q];cases(d==("asked":Str))<;>rfl
 simp only[ev,cO,eV,fj,h.vA f,dS,hr,pC,pf,h.L' f,hb,h.YD f,ee,r,dE,l8,h.YE f,I,h.call (m:="let_in") rfl,l,b.call (m:="see_to_owner") rfl,s1]
def MC(h:bz A aM rows (dP .str aT) (dP .int ents) (dP .str aO) bn iv)(f:d9 rows (dP .str aT) (dP .int ents) (dP .str aO) bn iv)(hw:aY.length<=1000)(q:aT.lookup aY=none):
  gO [.at aM,.str aY] A=.exc (.str "NotIn") A:=by
 show cD (gM.1 [.sh (.at aM),.sh (.str aY)] A)=_;unfold gM;have n:=ze h f hw;rw[dS,q]at n;simp only[ev,cO,eV,fj,h.call (m:="need_in") rfl,n,pC,pf,cE,bZ]
def Pn(h:bz A aM rows (dP .str aT) (dP .int ents) (dP .str aO) bn iv)(f:d9 rows (dP .str aT) (dP .int ents) (dP .str aO) bn iv)(k:dk aT ents ent)(hl:rows.length+1<dU)(hr':aT.length<dU)(hw:aY.length<=1000)
  (hr:aT.lookup aY=some aN):
  ∃A' dc q,gO [.at aM,.str aY] A=.ok .cu A'/\iA (rows++[gW rows aY "leave" []]) (gZ aT aY) dc q/\Ext A A' ([(aM+2,.bU (dP .str q)),(aM+1,.lst dc)]++[(aM+2,.bU (dP .str (gZ aT aY))),(aM+1,.lst (rows++[gW rows aY "leave" []]))])
   /\bz A' aM dc (dP .str q) (dP .int ents) (dP .str aO) bn iv:=by
 have w:=oG (aY:=aY) (c6:="leave") (ps:=[]) h f (by omega) (by decide) rfl;have h1:=h.sG (Ext.put (o:=.lst (rows++[gW rows aY "leave" []])) h.lg);have h2:=h1.O6 (Ext.put (o:=.bU (dP .str (gZ aT aY))) h1.rk);obtain⟨A2,dc,q,s1,s2,s3,s4⟩:=QX h2 (Ht f Vh flI f.ch f.bn f.iv) (k.leave (aY:=aY)) (by rw[eZ];exact hl) (tD (nH ..) hr');refine⟨A2,dc,q,?_,s2,((Ext.put h.lg).trans (Ext.put h1.rk)).trans s3,s4⟩;show cD (gM.1 [.sh (.at aM),.sh (.str aY)] A)=_;unfold gM;have n:=ze h f hw;rw[dS,hr]at n;have b:∀A,sS (.ok (.tup [])) A=.ok (.tup []) A:=λA=>rfl;have p:=BH (z:=aY) (v:=.str aN) h1.rk (by rw[dS,hr];rfl);rw[wQ]at p;simp only[ev,cO,eV,fj,h.call (m:="need_in") rfl,n,dE,j7,bX,h.call (m:="write_row") rfl,b,w,h1.O4,BG h1.rk,p,h2.call (m:="see_to_owner") rfl,s1]
end
section
variable {A:Ab}
def Po(h:cj A bc a9)(hw:aY.length<=1000):ij [.at 0,.tup [.str aY]] A=if(bc.lookup aY).isSome=true then .ok .cu A else .exc (.str "NoPerson") A:=by
 show cD (dJ.1 [.sh (.at 0),.sh (.tup [.str aY]),.no] A)=_;unfold dJ;have s:=zD (z:="nobody is called ") (y:=aY) (by decide+kernel) hw;simp only[ev,cO,eV,fj,FD,cz,cA,h.O8,dS,ji];cases(bc.lookup aY).isSome with
 |true=>simp only[dv,ev,cO,bX]
 |false=>simp only[eO,ev,cO,eV,fj,s,cE,bZ]
def Hv(h:cj A bc a9)(q:a9.lookup aN=some aM):uV [.at 0,.str aN] A=.ok (.at aM) A:=by
 show cD (km.1 [.sh (.at 0),.sh (.str aN)] A)=_;unfold km;simp only[ev,cO,eV,fj,h.Ud,dS,q,dE,j7,dv,h.abo,jq,wU h.pl,ee,l8]
def sO(h:cj A bc a9)(hw:aY.length<=1000)(q:a9.lookup aN=some aM):jf [.at 0,.tup [.str aY],.str aN] A=if(bc.lookup aY).isSome=true then .ok (.at aM) A else .exc (.str "NoPerson") A:=by
 show cD (eD.1 [.sh (.at 0),.sh (.tup [.str aY]),.sh (.str aN)] A)=_;unfold eD;simp only[ev,cO,eV,fj,h.call (m:="need_people") rfl,Po h hw];cases(bc.lookup aY).isSome with
 |true=>simp only[bX,ev,cO,eV,fj,h.call (m:="place") rfl,Hv h q]
 |false=>simp only[cE,bZ,ev]
def MD(h:cj A bc a9)(hw:aY.length<=1000)(q:a9.lookup aN=some aM)(hF:rM "Room" "enter" fh (.ok (.at aM) A) (λA=>.ok [.str aY] A)=fh [.at aM,.str aY] A):
  oB [.at 0,.str aY,.str aN] A=if(bc.lookup aY).isSome=true then cD (yq (fh [.at aM,.str aY] A) [.sh (.at 0),.sh (.str aY),.sh (.str aN)])else .exc (.str "NoPerson") A:=by
 show cD (ko.1 [.sh (.at 0),.sh (.str aY),.sh (.str aN)] A)=_;unfold ko;have b:∀A,sS (.ok (.tup [.str aY])) A=.ok (.tup [.str aY]) A:=λA=>rfl;simp only[ev,cO,eV,fj,h.call (m:="place_for") rfl,b,sO h hw q];cases(bc.lookup aY).isSome with
 |true=>simp only[bX];rw[hF]
 |false=>simp only[cE,bZ];rfl
def ME(h:cj A bc a9)(hw:aY.length<=1000)(q:a9.lookup aN=some aM)(hF:rM "Room" "leave" gO (.ok (.at aM) A) (λA=>.ok [.str aY] A)=gO [.at aM,.str aY] A):
  oC [.at 0,.str aY,.str aN] A=if(bc.lookup aY).isSome=true then cD (yq (gO [.at aM,.str aY] A) [.sh (.at 0),.sh (.str aY),.sh (.str aN)])else .exc (.str "NoPerson") A:=by
 show cD (kr.1 [.sh (.at 0),.sh (.str aY),.sh (.str aN)] A)=_;unfold kr;have b:∀A,sS (.ok (.tup [.str aY])) A=.ok (.tup [.str aY]) A:=λA=>rfl;simp only[ev,cO,eV,fj,h.call (m:="place_for") rfl,b,sO h hw q];cases(bc.lookup aY).isSome with
 |true=>simp only[bX];rw[hF]
 |false=>simp only[cE,bZ];rfl
end
section
variable {A:Ab}{ks kb ka n:Nat}{v p c6:Str}
theorem sP{ps:List Tr}(h:bH A aM ks kb ka rows bh stays bw aP aN v p)(f:gu rows)(q:rows.length<dU)(hp:2+ps.length<=dU)(ht:nT ps=true):
  Cb [.at aM,.str aY,.tup ps] A=.ok (.int (rows.length+1)) (A.set (aM+1) (.lst (rows++[.tup (.int (rows.length+1):: .str aY::ps)]))):=by
 show cD (wX.1 [.sh (.at aM),.sh (.str aY),.sh (.tup ps)] A)=_;unfold wX;have h1:=h.DV (Ext.put (o:=.lst (rows++[.tup (.int (rows.length+1):: .str aY::ps)])) h.rw);have b:vk (.tup [.int (rows.length+1),.str aY]) (.tup ps)=.ok (.tup (.int (rows.length+1):: .str aY::ps)):=aX hp;have g:∀A,sS (.ok (.tup (.int (rows.length+1):: .str aY::ps))) A=.ok (.tup (.int (rows.length+1):: .str aY::ps)) A:=λA=>aX (by simpa only[JG,nT,pG]using ht);have l:((rows++[Tr.tup (.int (rows.length+1):: .str aY::ps)]).length:Int)=rows.length+1:=by simp
 simp only[ev,cO,eV,fj,jq,h.abp,yR h.rw,h.Ue (n:=3) f,b,g,yS h.rw q,h1.Ue (n:=3) (uL f),l]
theorem MF(h:bH A aM ks kb ka rows bh stays bw aP aN v p)(f:gu rows)(hl:rows.length<dU)(hs:stays.length<dU)(hr:bh.length<dU)(ha:aP.length<=dU):
  ∃A' YL f1,vJ [.at aM,.str aY,.str c6] A=.ok .cu A'/\A.length<=YL/\Ext A A' [(aM,.bU (dP id (yT aM ks kb YL aN v p))),(aM+2,.bU (dP .str (fM bh aY "guest"))),(ks,.lst ((stays++[(aY,f1,(rows.length+1:Int),none)]).map wB)),(aM+1,.lst (rows++[gW rows aY c6 []]))]
   /\bH A' aM ks kb YL (rows++[gW rows aY c6 []]) (fM bh aY "guest") (stays++[(aY,f1,(rows.length+1:Int),none)]) bw (aP.filter λz=>!(z==aY)) aN v p:=by
 have w:=sP (aY:=aY) (ps:=[.str c6]) h f hl (by show 2+1<=dU;decide) rfl;have h1:=h.DV (Ext.put (o:=.lst (rows++[gW rows aY c6 []])) h.rw)
 let f1:Int:=if p="shown"then 1 else rows.length+1
 have h2:=h1.abr (qw:=stays++[(aY,f1,(rows.length+1:Int),none)]) (Ext.put h1.st);have b:=h2.Ui (lh:=fM bh aY "guest") (Ext.put h2.rl);have r:=b.abt (yV:=aP.filter λz=>!(z==aY));have g:=((Ext.put (o:=.lst (rows++[gW rows aY c6 []])) h.rw).trans (Ext.put (o:=.lst ((stays++[(aY,f1,(rows.length+1:Int),none)]).map wB)) h1.st)).trans (Ext.put (o:=.bU (dP .str (fM bh aY "guest"))) h2.rl);refine⟨_,_,f1,?_,g.le,g.cons (Ext.past Ext.push (Ext.put (Ext.push.same b.o rfl))),r⟩;show cD (rf.1 [.sh (.at aM),.sh (.str aY),.sh (.str c6),.no,.no] A)=_;unfold rf;have I:∀A,sS (.ok (.tup [.str c6])) A=.ok (.tup [.str c6]) A:=λA=>rfl;have L:∀A,sS (.ok (.tup [.str aY,.int f1,.int (rows.length+1),.cu])) A=.ok (.tup [.str aY,.int f1,.int (rows.length+1),.cu]) A:=λA=>rfl;have M:Kx (.ok (p==("shown":Str))) (.ok (.int 1)) (.ok (.int (rows.length+1)))=.ok (.int f1):=by
  show(if(p==("shown":Str))then _ else _)=_;by_cases q:p="shown"
  ·subst q;rfl
  ·rw[show(p==("shown":Str))=false by simpa using q];show Rs.ok _=_;congr 2;exact(ba q).symm
 have ep:=kZ (z:=aY) (t:=.str "guest") (Y:=[.sh (.at aM),.sh (.str aY),.sh (.str c6),.sh (.int (rows.length+1)),.sh (.int f1)]) h2.rl (by rw[k_];exact hr);rw[mj]at ep;have l:=yS (t:=.tup [.str aY,.int f1,.int (rows.length+1),.cu]) h1.st (by rw[bt];exact hs);rw[show stays.map wB++[.tup [.str aY,.int f1,.int (rows.length+1),.cu]]=(stays++[(aY,f1,(rows.length+1:Int),none)]).map wB by rw[g7];rfl]at l;simp only[ev,cO,eV,fj,I,w,cz,cA,h1.a_p (n:=4),M,jq,h1.abq,yR h1.st,L,l,kY,h2.Uh,ep,FD,b.Ug (n:=3)];rw[nc (AF:=[.sh (.str aY)]) (λz=>!(z==aY)) rfl ha rfl (λ_=>rfl) ?hC]
 case hC=>intro z hz;simp only[ev,Hk]
 simp only[uO m_,kY,ev,cO,eV,fj,b.abv]
noncomputable def gw(aY:Str)(n:Int)(s:nX):nX:=if s.1=aY/\s.2.2.2=none then(s.1,s.2.1,s.2.2.1,some n)else s
def Hw{n:Int}{r:Str}(h:bH A aM ks kb ka rows bh stays bw aP aN v p)(hs:stays.length<=dU)(hr:bh.lookup aY=some r):
  ∃A' Hx,zc [.at aM,.str aY,.int n] A=.ok .cu A'/\A.length<=Hx/\Ext A A' [(aM,.bU (dP id (yT aM Hx kb ka aN v p))),(aM+2,.bU (dP .str (gZ bh aY)))]
   /\bH A' aM Hx kb ka rows (gZ bh aY) (stays.map (gw aY n)) bw aP aN v p:=by
 have h1:=h.Ui (lh:=gZ bh aY) (Ext.put h.rl);have h2:=h1.abu (qw:=stays.map (gw aY n));have I:=Ext.put (o:=.bU (dP .str (gZ bh aY))) h.rl;refine⟨_,_,?_,I.le,I.cons (Ext.past Ext.push (Ext.put (Ext.push.same h1.o rfl))),h2⟩;show cD (u7.1 [.sh (.at aM),.sh (.str aY),.sh (.int n)] A)=_;unfold u7;have pp:=BH (z:=aY) (v:=.str r) h.rl (by rw[dS,hr];rfl);rw[wQ]at pp;simp only[ev,cO,eV,fj,jq,h.Uh,BG h.rl,pp,h1.YI (n:=3),FD];rw[lT (AF:=[.sh (.str aY),.sh (.int n)]) (λ_=>true) wB (λs=>wB (gw aY n s)) rfl hs rfl (λ_ _=>rfl) ?hF]
 case hF=>
  intro s _ _;obtain⟨a,b,c,e⟩:=s;have g:jM (wB (a,b,c,e)) (.int 0)=.ok (.str a):=rfl;have L:jM (wB (a,b,c,e)) (.int 3)=.ok (FE e):=rfl;have is:o4 (.ok (wB (a,b,c,e))) (.ok none) (Ci (.ok (.int 3)))=.ok (.tup [.str a,.int b,.int c]):=rfl;have ia:vk (.tup [.str a,.int b,.int c]) (.tup [.int n])=.ok (.tup [.str a,.int b,.int c,.int n]):=rfl;cases e with
  |none=>
   have l:GD (FE none) .cu=.ok (.bl true):=rfl;by_cases q:a=aY
   ·subst q;simp only[ev,cO,g,L,is,ia,l,bR,gw,and_self,bX]
    rfl
   ·have:(a==aY)=false:=by simpa using q
    simp only[ev,cO,g,this,gw,q,false_and,bZ]
  |some m=>
   have l:GD (FE (some m)) .cu=.ok (.bl false):=rfl;simp only[ev,cO,g,L,l,gw,reduceCtorEq,and_false,bZ];cases(a==aY)<;>rfl
 rw[show stays.filter (λ_=>true)=stays from mD.mpr λ_ _=>rfl,show(stays.map λs=>wB (gw aY n s))=(stays.map (gw aY n)).map wB by rw[cN];rfl];simp only[uO yW,kY,ev,cO,eV,fj,h1.abw]
end
section
variable {A:Ab}{ks kb ka n:Nat}{v p c6:Str}{ent:Str->Int}
theorem FW{T:Tr}{r:Str}(q:jM T (.str "roles")=.ok (.bU (dP .str bh)))(hr:bh.lookup aY=some r)(h4:r∈oH):za [T,.str aY]=.ok (.int (lvl r)):=by
 show dG (nv.1 [.sh T,.sh (.str aY)])=_;unfold nv;have b:∀X:Rs Tr,(if([.str "guest",.str "speaker",.str "keeper",.str "owner"]:List Tr).length<=dU then X else .bad)=X:=λX=>aX (by show 4<=dU;decide);have g:wz [.str "guest",.str "speaker",.str "keeper",.str "owner"] (.str r)=.ok (.int (lvl r)):=by
  have:r="guest"\/r="speaker"\/r="keeper"\/r="owner":=by simpa using h4
  rcases this with rfl|rfl|rfl|rfl<;>rfl
 simp only[ev,cO,q,dS,hr,dE,j7,b,ee,l8,g]
noncomputable def lB(stays:List nX):List Str:=(stays.filter λs=>s.2.2.2.isNone).map (·.1)
theorem vd{α:Type}{Q:α->Bool}{x:α}:∀{l r:List α},l.filter Q=x::r->∃a:Nat,l[a]?=some x/\Q x=true/\∀(b:Nat) (y:α),b<a->l[b]?=some y->Q y=false
 |y::l,r,h=>by
  cases e:Q y with
  |true=>
   rw[lI e]at h;cases h;exact⟨0,rfl,e,λb y hb=>absurd hb (xA _)⟩
  |false=>
   rw[jY (by rw[e];exact fI)]at h;obtain⟨a,h1,h2,g⟩:=vd h;refine⟨a+1,h1,h2,λb z hb hz=>?_⟩;cases b with
   |zero=>cases hz;exact e
   |succ b=>exact g b z (Nat.lt_of_succ_lt_succ hb) hz
def ix0{t:Tr}:jM (.lst (t::rows)) (.int 0)=.ok t:=by
 show l8 (vi (t::rows) 0)=_;have:M8 (t::rows).length 0=some 0:=by unfold M8;simp
 unfold vi;rw[this]
 rfl
theorem zg(h:bH A aM ks kb ka rows bh stays bw aP aN v p)(f:gu rows)(k:dk bh ents ent)(ho:lB stays=bh.map (·.1))(hl:rows.length<dU)(hs:stays.length<=dU)(hr:bh.length<dU):
  ∃A' dc lh,kG [.at aM] A=.ok .cu A'/\iA rows bh dc lh/\Ext A A' [(aM+1,.lst dc),(aM+2,.bU (dP .str lh))]/\bH A' aM ks kb ka dc lh stays bw aP aN v p:=by
 show∃A' dc lh,cD (rg.1 [.sh (.at aM),.no,.no] A)=.ok .cu A'/\_;unfold rg;have x0:Ext A A [(aM+1,.lst rows),(aM+2,.bU (dP .str bh))]:=(Ext.refl.idem h.rl rfl).idem h.rw (fq (by omega));have I:=h.yU (n:=3);simp only[ev,cO,eV,fj,I,Uj];by_cases L:bh=[]
 ·subst L;exact⟨_,_,_,rfl,.same (.inl rfl),x0,h⟩
 have he:bh.isEmpty=false:=by cases bh<;>first|exact absurd rfl L|rfl
 simp only[he,eO,dv,ev,wR k.sh,map_fst];rw[lT (AF:=[.sh (aZ 5 A (.at aM))]) (λ_=>true) (λp=>.str p.1) (λp=>.str p.2) (xs:=bh) (by rw[cN];rfl) (dq hr) rfl (λ_ _=>rfl) ?hF]
 case hF=>intro q g _;simp only[ev,cO,I,ee,hX k.nd q g,dE,l8]
 rw[show bh.filter (λ_=>true)=bh from mD.mpr λ_ _=>rfl,show(bh.map λp=>Tr.str p.2)=(bh.map (·.2)).map .str by rw[cN];rfl];simp only[ev,cO,eV,fj,wV];by_cases hw:∃p∈bh,p.2="owner"
 ·have:(bh.map (·.2)).contains (Str.ofString "owner")=true:=by
   obtain⟨q,g,e⟩:=hw;exact de.mpr (cI.mpr ⟨q,g,e⟩)
  simp only[this,ev];exact⟨_,_,_,rfl,.same (.inr hw),x0,h⟩
 have JL:∀p∈bh,p.2≠"owner":=λp hp e=>hw ⟨p,hp,e⟩;have hc:(bh.map (·.2)).contains (Str.ofString "owner")=false:=by
  cases e:(bh.map (·.2)).contains (Str.ofString "owner")with
  |false=>rfl
  |true=>
   obtain⟨q,g,e⟩:=cI.mp (de.mp e);exact absurd e (JL q g)
 simp only[hc,ev,cO,eV,fj,I,wR k.sh,map_fst];rw[lT (AF:=[.sh (aZ 5 A (.at aM))]) (λ_=>true) (λp=>.str p.1) (λp=>.int (lvl p.2)) (xs:=bh) (by rw[cN];rfl) (dq hr) rfl (λ_ _=>rfl) ?hF]
 case hF=>intro q g _;simp only[ev,cO,FW I (hX k.nd q g) (k.rl q g)]
 rw[show bh.filter (λ_=>true)=bh from mD.mpr λ_ _=>rfl];have M:=max_map (f:=λq:Str×Str=>lvl q.2) L;obtain⟨m1,m2⟩:=FF (ns:=bh.map λq=>lvl q.2) (by rw[bt];exact tB.mpr L);generalize rP (bh.map λq=>lvl q.2)=most at M m1 m2;simp only[ev,cO,eV,fj,M,cz,cA,h.YI (n:=3),FD]
 let Q:Str->Bool:=λz=>match bh.lookup z with|some r=>lvl r==most|none=>false
 have hQ:∀q∈bh,Q q.1=(lvl q.2==most):=λq g=>by show(match bh.lookup q.1 with|some r=>lvl r==most|none=>false)=_;rw[hX k.nd q g]
 rw[lT (AF:=[.sh (.int most),.sh (aZ 5 A (.at aM))]) (λs:nX=>s.2.2.2.isNone&&Q s.1) wB (λs=>.str s.1) rfl hs rfl ?hC ?hF]
 case hC=>
  intro s hs;obtain⟨a,b,c,e⟩:=s;have i0:jM (wB (a,b,c,e)) (.int 0)=.ok (.str a):=rfl;have i3:jM (wB (a,b,c,e)) (.int 3)=.ok (FE e):=rfl;cases e with
  |some m=>
   have ie:GD (FE (some m)) .cu=.ok (.bl false):=rfl;simp only[ev,cO,i3,ie,Option.isNone_some,xD]
  |none=>
   have ie:GD (FE none) .cu=.ok (.bl true):=rfl;have hm:a∈lB stays:=cI.mpr ⟨_,e_.mpr ⟨hs,rfl⟩,rfl⟩;rw[ho]at hm;obtain⟨q,g,e⟩:=cI.mp hm;subst e;simp only[ev,cO,i0,i3,ie,FW I (hX k.nd q g) (k.rl q g),Option.isNone_none,pG,hQ q g]
 case hF=>intro s _ _;obtain⟨a,b,c,e⟩:=s;rfl
 have ht:(stays.filter λs:nX=>s.2.2.2.isNone&&Q s.1).map (λs=>Tr.str s.1)=((bh.filter λq=>lvl q.2==most).map (·.1)).map .str:=by
  rw[show(λs:nX=>Tr.str s.1)=Tr.str∘(·.1)from rfl,<-cN];congr 1;have e1:(stays.filter λs:nX=>s.2.2.2.isNone&&Q s.1)=(stays.filter λs=>s.2.2.2.isNone).filter λs=>Q s.1:=by
   rw[List.filter_filter];congr 1;funext s;exact Bool.and_comm ..
  have e2:((stays.filter λs=>s.2.2.2.isNone).filter λs=>Q s.1).map (·.1)=(lB stays).filter Q:=by unfold lB;rw[pB];rfl
  rw[e1,e2,ho,pB];congr 1;exact tN λq g=>hQ q g
 rw[ht];obtain⟨q0,hq0,e0⟩:=cI.mp m1;have hfe:(bh.filter λq=>lvl q.2==most)≠[]:=List.ne_nil_of_mem (e_.mpr ⟨hq0,by simpa using e0⟩);obtain⟨⟨z,l⟩,c8,S⟩:=List.exists_cons_of_ne_nil hfe;obtain⟨a,a1,a2,a3⟩:=vd S;have hz:Jv bh z:=⟨a,l,a1,λq g=>by
  have:=m2 _ (gz g);have e:lvl l=most:=by simpa using a2
  rw[e];exact this,λb q hb g=>by
  have h1:=m2 _ (gz (f:=λq:Str×Str=>lvl q.2) (d6 g));have h2:¬lvl q.2=most:=by simpa using a3 b q hb g
  have e:lvl l=most:=by simpa using a2
  omega⟩
 rw[S];have h1:=h.ext (Ext.push (o:=.lst ((((z,l)::c8).map (·.1)).map .str))) λ_ _=>rfl;have h2:=h1.Ui (lh:=fM bh z "owner") (Ext.put h1.rl);have t1:aZ 5 (A++[Ao.lst ((((z,l)::c8).map (·.1)).map .str)]) (.at A.length)=.lst ((((z,l)::c8).map (·.1)).map .str):=by rw[mi lS,qZ]
 have t2:aZ 5 ((A++[Ao.lst ((((z,l)::c8).map (·.1)).map .str)]).set (aM+2) (.bU (dP .str (fM bh z "owner")))) (.at A.length)=.lst ((((z,l)::c8).map (·.1)).map .str):=by
  rw[mi (((Ext.put h1.rl).same lS (fq (by have:=gb h.rl;omega)))),qZ]
 have i0:jM (.lst ((((z,l)::c8).map (·.1)).map .str)) (.int 0)=.ok (.str z):=ix0;have ep:=kZ (z:=z) (t:=.str "owner") (Y:=[.sh (.at aM),.sh (.int most),.sh (.at A.length)]) h1.rl (by rw[k_];exact hr);rw[mj]at ep;have w:=sP (aY:=z) (ps:=[.str "role",.str z,.str "owner"]) h2 f hl (by show 2+3<=dU;decide) rfl;have ef:∀A,sS (.ok (.tup [.str "role",.str z,.str "owner"])) A=.ok (.tup [.str "role",.str z,.str "owner"]) A:=λA=>rfl;simp only[uO m_,ev,cO,eV,fj,cz,cA,kY,jq,h1.Uh,t1,i0,ep,t2,ef,w];exact⟨_,_,_,rfl,.zI z hz JL L,(Ext.past Ext.push (Ext.put h1.rl)).cons (Ext.put h2.rw),h2.DV (Ext.put h2.rw)⟩
end
section
variable {A:Ab}{ks kb ka n:Nat}{v p c5:Str}
theorem Hy{c6:Str}(m:fS A bF c7)(h:bH A aM ks kb ka rows bh stays bw aP aN v p)(q:c7.lookup c5=some aM)(hw:c6="found"\/c6="enter"\/c6="leave"):
  fH [aZ 5 A (.at 4),.tup [.str c6,.str aY,.str c5]]=.ok (if bF.contains aY=false then .str "no person"else if c6="found"then .str "known"else if c6="enter"then(if(bh.lookup aY).isSome=true then .str "known"else if bw.contains aY=true then .str "barred"else if aN="asked"/\aP.contains aY=false then .str "not asked"else .cu)else if(bh.lookup aY).isSome=true then .cu else .str "not in"):=by
 show dG (iz.1 [.sh (aZ 5 A (.at 4)),.sh (.tup [.str c6,.str aY,.str c5]),.no,.no,.no])=_;unfold iz;have b:jM (.tup [.str c6,.str aY,.str c5]) (.int 0)=.ok (.str c6):=rfl;have i1:jM (.tup [.str c6,.str aY,.str c5]) (.int 1)=.ok (.str aY):=rfl;have i2:jM (.tup [.str c6,.str aY,.str c5]) (.int 2)=.ok (.str c5):=rfl;have g:(c6==Str.ofString "come")=false:=by rcases hw with rfl|rfl|rfl<;>decide+kernel
 have l:zo (.str c6) (.tup [.str "ask",.str "role",.str "out",.str "bar",.str "unbar"])=.ok (.bl false):=by rcases hw with rfl|rfl|rfl<;>rfl
 have r:zo (.str c6) (.tup [.str "say",.str "mend",.str "take_back"])=.ok (.bl false):=by rcases hw with rfl|rfl|rfl<;>rfl
 have l1:∀a,CU (.ok [a])=.ok (.lst [a]):=λ_=>rfl;have a1:vk (.lst [.str aY]) (.lst [])=.ok (.lst [.str aY]):=rfl;have I:∀x:Bool,uz (.lst (((if x then[aY]else[]):List Str).map .str))=.ok x:=λx=>by cases x<;>rfl
 have t3:aZ 3 A (.at aM)=.bU (dP (aZ 2 A) (yT aM ks kb ka aN v p)):=hU h.o;simp only[ev,cO,b,i1,i2,cz,cA,g,l1,FD];rw[lT (AF:=[.sh (.tup [.str c6,.str aY,.str c5]),.sh (.str c6)]) (λ_:Unit=>false) (λ_=>.int 3) (λ_=>.cu) (xs:=[()]) (by rfl) (by decide) rfl (λ_ _=>by simp only[ev,cO,l]) (λ_ _ e=>by cases e)];simp only[pv,xB,cE,bZ,mO,a1,ev,cO,FD,cz,cA];rw[nc (ns:=[aY]) (AF:=[.sh (aZ 5 A (.at 4))]) (λz=>!bF.contains z) (by rfl) (by show 1<=dU;decide) rfl (λ_=>rfl) ?hC]
 case hC=>intro z _;simp only[ev,cO,m.Uk (n:=3),uP]
 have L:uz (.lst ((List.filter (λz=>!bF.contains z) [aY]).map .str))=.ok (!bF.contains aY):=by
  rw[pv,xB];exact I _
 simp only[ev,cO,L];cases hp:bF.contains aY with
 |false=>simp only[eO,ev,bX]
 |true=>
  simp only[dv,ev,cO,i1,i2,m.Mf (n:=3),DW,q,dE,pw,cz,cA,Bool.true_eq_false,bZ];rcases hw with rfl|rfl|rfl
  ·simp only[bR,ev,cO,t3,O9,bX]
  ·have s1:(Str.ofString "enter"==Str.ofString "found")=false:=by decide+kernel
   have s2:¬(Str.ofString "enter"=Str.ofString "found"):=by decide+kernel
   simp only[s1,s2,ev,cO,bZ,bR,bX];rw[show GD (aZ 3 A (.at aM)) .cu=.ok (.bl false) by rw[t3];rfl];simp only[ev,cO,i1,bR,h.yU (n:=1),dS,ji];cases(bh.lookup aY).isSome with
   |true=>simp only[ev,cO,bX]
   |false=>
    simp only[ev,cO,i1,h.Mc (n:=1),wV,cE,bZ];cases bw.contains aY with
    |true=>simp only[ev,cO,bX]
    |false=>
     simp only[ev,cO,i1,h.Ug (n:=1),h.a_d (n:=2),uP,cE,bZ];by_cases hd:aN="asked"
     ·subst hd;simp only[bR,ev,cO,true_and];cases aP.contains aY<;>rfl
     ·have:(aN==Str.ofString "asked")=false:=by simpa using hd
      simp only[this,ev,cO,hd,false_and,bZ]
  ·have s1:(Str.ofString "leave"==Str.ofString "found")=false:=by decide+kernel
   have s2:¬(Str.ofString "leave"=Str.ofString "found"):=by decide+kernel
   have s3:(Str.ofString "leave"==Str.ofString "enter")=false:=by decide+kernel
   have s4:¬(Str.ofString "leave"=Str.ofString "enter"):=by decide+kernel
   simp only[s1,s2,s3,s4,ev,cO,bZ];rw[show GD (aZ 3 A (.at aM)) .cu=.ok (.bl false) by rw[t3];rfl];simp only[ev,cO,i1,s3,h.yU (n:=1),dS,ji];cases(bh.lookup aY).isSome with
   |true=>simp only[dv,ev,cO,r,bR,bX]
   |false=>simp only[eO,ev,cO,cE,bZ]
end
section
variable {A A0 A1 A2:Ab}{c5:Str}
theorem MG(m:fS A bF c7)(q:c7.lookup c5=some aM)(q1:vJ [.at aM,.str aY,.str "enter"] A=.ok .cu A1)(q2:kG [.at aM] A1=.ok .cu A2):ny [.at 4,.tup [.str "enter",.str aY,.str c5]] A=.ok .cu A2:=by
 show cD (jJ.1 [.sh (.at 4),.sh (.tup [.str "enter",.str aY,.str c5]),.no,.no,.no] A)=_;unfold jJ;have sl:o4 (.ok (.tup [.str "enter",.str aY,.str c5])) (.ok none) (Ci (.ok (.int 2)))=.ok (.tup [.str "enter",.str aY]):=rfl;have b:∀A,sS (.ok (.tup [.str "enter",.str aY])) A=.ok (.tup [.str "enter",.str aY]) A:=λA=>rfl;have gt:∀A,KW (gT [2,3]) (.ok (.tup [.str "enter",.str aY]) A) [.sh (.at 4),.sh (.tup [.str "enter",.str aY,.str c5]),.no,.no,.no]=.ok (.nx [.sh (.at 4),.sh (.tup [.str "enter",.str aY,.str c5]),.sh (.str "enter"),.sh (.str aY),.no]) A:=λA=>rfl;have i2:jM (.tup [.str "enter",.str aY,.str c5]) (.int 2)=.ok (.str c5):=rfl;have s1:(Str.ofString "enter"==Str.ofString "come")=false:=by decide+kernel
 have s2:(Str.ofString "enter"==Str.ofString "found")=false:=by decide+kernel
 have s3:(Str.ofString "enter"==Str.ofString "say")=false:=by decide+kernel
 simp only[ev,cO,eV,fj,sl,b,gt,s1,s2,s3,i2,jq,m.Ul,wU m.rs,ee,q,dE,l8,cz,cA,bR,q1,q2]
theorem MH{n:Int}(m:fS A bF c7)(q:c7.lookup c5=some aM)(q0:Cb [.at aM,.str aY,.tup [.str "leave"]] A=.ok (.int n) A0)(q1:zc [.at aM,.str aY,.int n] A0=.ok .cu A1)(q2:kG [.at aM] A1=.ok .cu A2):ny [.at 4,.tup [.str "leave",.str aY,.str c5]] A=.ok .cu A2:=by
 show cD (jJ.1 [.sh (.at 4),.sh (.tup [.str "leave",.str aY,.str c5]),.no,.no,.no] A)=_;unfold jJ;have sl:o4 (.ok (.tup [.str "leave",.str aY,.str c5])) (.ok none) (Ci (.ok (.int 2)))=.ok (.tup [.str "leave",.str aY]):=rfl;have b:∀A,sS (.ok (.tup [.str "leave",.str aY])) A=.ok (.tup [.str "leave",.str aY]) A:=λA=>rfl;have g:∀A,sS (.ok (.tup [.str "leave"])) A=.ok (.tup [.str "leave"]) A:=λA=>rfl;have gt:∀A,KW (gT [2,3]) (.ok (.tup [.str "leave",.str aY]) A) [.sh (.at 4),.sh (.tup [.str "leave",.str aY,.str c5]),.no,.no,.no]=.ok (.nx [.sh (.at 4),.sh (.tup [.str "leave",.str aY,.str c5]),.sh (.str "leave"),.sh (.str aY),.no]) A:=λA=>rfl;have i2:jM (.tup [.str "leave",.str aY,.str c5]) (.int 2)=.ok (.str c5):=rfl;have s1:(Str.ofString "leave"==Str.ofString "come")=false:=by decide+kernel
 have s2:(Str.ofString "leave"==Str.ofString "found")=false:=by decide+kernel
 have s3:(Str.ofString "leave"==Str.ofString "say")=false:=by decide+kernel
 have s4:(Str.ofString "leave"==Str.ofString "enter")=false:=by decide+kernel
 simp only[ev,cO,eV,fj,sl,b,g,gt,s1,s2,s3,s4,i2,jq,m.Ul,wU m.rs,ee,q,dE,l8,cz,cA,bR,q0,q1,q2]
def Vi{X:Rz Tr}{G:bY->Ab->Rz Out}:cD (E4 (KU X) G)=X:=by cases X<;>rfl
theorem MI(h:cj A bc a9):fF [.at 0,.tup [.str "enter",.str aY,.str c5]] A=oB [.at 0,.str aY,.str c5] A:=by
 show cD (fi.1 [.sh (.at 0),.sh (.tup [.str "enter",.str aY,.str c5]),.no] A)=_;unfold fi;have b:jM (.tup [.str "enter",.str aY,.str c5]) (.int 0)=.ok (.str "enter"):=rfl;have i1:jM (.tup [.str "enter",.str aY,.str c5]) (.int 1)=.ok (.str aY):=rfl;have i2:jM (.tup [.str "enter",.str aY,.str c5]) (.int 2)=.ok (.str c5):=rfl;have s1:(Str.ofString "enter"==Str.ofString "come")=false:=by decide+kernel
 have s2:(Str.ofString "enter"==Str.ofString "found")=false:=by decide+kernel
 simp only[ev,cO,eV,fj,b,i1,i2,s1,s2,cz,cA,bR,h.call (m:="enter") rfl,Vi]
theorem MJ(h:cj A bc a9):fF [.at 0,.tup [.str "leave",.str aY,.str c5]] A=oC [.at 0,.str aY,.str c5] A:=by
 show cD (fi.1 [.sh (.at 0),.sh (.tup [.str "leave",.str aY,.str c5]),.no] A)=_;unfold fi;have b:jM (.tup [.str "leave",.str aY,.str c5]) (.int 0)=.ok (.str "leave"):=rfl;have i1:jM (.tup [.str "leave",.str aY,.str c5]) (.int 1)=.ok (.str aY):=rfl;have i2:jM (.tup [.str "leave",.str aY,.str c5]) (.int 2)=.ok (.str c5):=rfl;have s1:(Str.ofString "leave"==Str.ofString "come")=false:=by decide+kernel
 have s2:(Str.ofString "leave"==Str.ofString "found")=false:=by decide+kernel
 have s3:(Str.ofString "leave"==Str.ofString "enter")=false:=by decide+kernel
 simp only[ev,cO,eV,fj,b,i1,i2,s1,s2,s3,cz,cA,bR,h.call (m:="leave") rfl,Vi]
variable {ts:List Tr}{x w:Str}
def Ur(q:fF [.at 0,.tup ts] A=.ok .cu A1):qF [.at 0,.tup ts] A=.ok .cu A1:=by
 show cD (nz.1 [.sh (.at 0),.sh (.tup ts),.no,.no,.no] A)=_;unfold nz;have tz:∀o A G,Fm 5 4 ["Known","NoPerson","NoRoom","NotIn","NotAsked","Barred","NoRight","NoRow","NoHand","NoLine"] (.ok o A) G=.ok o A:=λ_ _ _=>rfl;have b:GD .cu .cu=.ok (.bl true):=rfl;simp only[ev,cO,eV,fj,cz,cA,q,tz,b]
def Pp(q:fF [.at 0,.tup ts] A=.exc (.str x) A)(hx:(["Known","NoPerson","NoRoom","NotIn","NotAsked","Barred","NoRight","NoRow","NoHand","NoLine"]:List Str).contains x=true)(hw:zb [.zU x]=.ok (.str w)):qF [.at 0,.tup ts] A=.ok (.str w) (A++[.Eo x]):=by
 show cD (nz.1 [.sh (.at 0),.sh (.tup ts),.no,.no,.no] A)=_;unfold nz;have tz:∀A:Ab,Fm 5 4 ["Known","NoPerson","NoRoom","NotIn","NotAsked","Barred","NoRight","NoRow","NoHand","NoLine"] (.exc (.str x) A) (λY A=>Bk 2 (gY (ye Y 4) A) Y)=.ok (.nx [.no,.no,.sh (.at A.length),.no,.no]) (A++[.Eo x]):=λA=>by
  unfold Fm XY;simp only[hx,bX]
  rfl
 have t1:aZ 5 (A++[Ao.Eo x]) (.at A.length)=.zU x:=by simp only[aZ,lS]
 have b:GD (.zU x) .cu=.ok (.bl false):=rfl;simp only[ev,cO,eV,fj,cz,cA,q,tz,t1,b,hw]
def Pq(q:fH [aZ 5 A (.at 4),.tup ts]=.ok (.str w))(ht:qF [.at 0,.tup ts] A=.ok (.str w) A1)(hs:fG 5 [.str w,.str w]=.ok (.bl true)):jK [.at 0,.at 4,.tup ts] A=.ok (.bl true) A1:=by
 show cD (nA.1 [.sh (.at 0),.sh (.at 4),.sh (.tup ts),.no] A)=_;unfold nA;have b:GD (.str w) .cu=.ok (.bl false):=rfl;simp only[ev,cO,eV,fj,cz,cA,q,b,ht,hs]
def Pt(q:fH [aZ 5 A (.at 4),.tup ts]=.ok .cu)(hd:ny [.at 4,.tup ts] A=.ok .cu A1)(ht:qF [.at 0,.tup ts] A1=.ok .cu A2):jK [.at 0,.at 4,.tup ts] A=.ok (.bl true) A2:=by
 show cD (nA.1 [.sh (.at 0),.sh (.at 4),.sh (.tup ts),.no] A)=_;unfold nA;have b:GD .cu .cu=.ok (.bl true):=rfl;have hs:fG 5 [.cu,.cu]=.ok (.bl true):=rfl;simp only[ev,cO,eV,fj,cz,cA,q,b,hd,ht,hs]
end
theorem lkn{k:Nat}:∀{pins:List (Nat×Ao)},k∉pins.map (·.1)->pins.lookup k=none
 |[],_=>rfl
 |p::pins,h=>by
  rw[bB,bI,kP]at h;rw[cP];have:(k==p.1)=false:=by simpa using h.1
  rw[this];exact lkn h.2
def ik(A A':Ab)(S:List Nat):Prop:=∃pins,Ext A A' pins/\∀k∈pins.map (·.1),k∈S
section
variable {A A' B:Ab}{S T:List Nat}{k:Nat}{o o':Ao}
theorem ik.push:ik A (A++[o]) S:=⟨[],Ext.push,λk h=>nomatch h⟩
theorem ik.put (h:A[k]?=some o')(m:k∈S):ik A (A.set k o) S:=⟨_,Ext.put h,λq b=>by cases cQ.mp b;exact m⟩
def ik.of {pins:List (Nat×Ao)}(x:Ext A A' pins)(h:∀k∈pins.map (·.1),k∈S):ik A A' S:=⟨pins,x,h⟩
theorem ik.trans (a:ik A A' S)(b:ik A' B S):ik A B S:=by
 obtain⟨pins,x,p⟩:=a;obtain⟨V,y,q⟩:=b;refine⟨_,x.trans y,λk g=>?_⟩;rw[g7]at g;rcases dm.mp g with h|h
 ·exact q k h
 ·exact p k h
def ik.sub (a:ik A A' S)(h:∀k∈S,k∈T):ik A A' T:=by obtain⟨pins,x,p⟩:=a;exact⟨pins,x,λk b=>h k (p k b)⟩
theorem ik.le (a:ik A A' S):A.length<=A'.length:=by obtain⟨pins,x,p⟩:=a;exact x.le
theorem ik.same (a:ik A A' S)(h:A[k]?=some o)(n:k∉S):A'[k]?=some o:=by obtain⟨pins,x,p⟩:=a;exact x.same h (lkn λq=>n (p k q))
def bz.kp {i:Nat}{rk en ch bn iv:List (Key×Tr)}(h:bz A i rows rk en ch bn iv)(t:ik A A' S)(q:∀k∈S,k<i\/i+6<k):bz A' i rows rk en ch bn iv:=by
 have n:∀k,i<=k->k<=i+6->k∉S:=λk g h2 b=>by have:=q k b;omega
 exact⟨t.same h.o (n _ (by omega) (by omega)),t.same h.lg (n _ (by omega) (by omega)),t.same h.rk (n _ (by omega) (by omega)),t.same h.en (n _ (by omega) (by omega)),t.same h.ch (n _ (by omega) (by omega)),t.same h.bn (n _ (by omega) (by omega)),t.same h.iv (n _ (by omega) (by omega))⟩
def bH.kp {j ks kb ka:Nat}{asked:List Str}{d v p:Str}(h:bH A j ks kb ka rows bh stays bw asked d v p)(t:ik A A' S)(q:∀k∈[j,j+1,j+2,ks,kb,ka],k∉S):bH A' j ks kb ka rows bh stays bw asked d v p:=by
 obtain⟨pins,x,p⟩:=t;exact h.ext x λk b=>lkn λg=>q k b (p k g)
def cj.kp (h:cj A bc a9)(t:ik A A' S)(q:∀k∈S,6<k):cj A' bc a9:=by
 have n:∀k,k<=6->k∉S:=λk g b=>by have:=q k b;omega
 exact⟨t.same h.o (n _ (by decide)),t.same h.ps (n _ (by decide)),t.same h.pl (n _ (by decide))⟩
def fS.kp (h:fS A bF c7)(t:ik A A' S)(q:∀k∈S,6<k):fS A' bF c7:=by
 have n:∀k,k<=6->k∉S:=λk g b=>by have:=q k b;omega
 exact⟨t.same h.o (n _ (by decide)),t.same h.pe (n _ (by decide)),t.same h.rs (n _ (by decide))⟩
end
noncomputable abbrev iS(i:Nat):List Nat:=[i+1,i+2,i+3,i+4,i+5,i+6]
theorem sn{a b:String}(h:(a==b)=false):(Str.ofString a==Str.ofString b)=false:=by
 have:a≠b:=by simpa using h
 refine j6.mpr λe=>this ?_
 rw[Str.ofString_eq_toList,Str.ofString_eq_toList]at e;injection e with e
 have m:∀{l r:List Char},l.map Char.toNat=r.map Char.toNat->l=r:=λ{l}=>by
  induction l with
  |nil=>intro r h;cases r with
   |nil=>rfl
   |cons=>cases h
  |cons x l g=>intro r h;cases r with
   |nil=>cases h
   |cons y r=>
    injection h with h1 h2
    rw[g h2,Char.toNat_inj.mp h1]
 exact String.toList_inj.mp (m (Array.toList_inj.mpr e:(List.map Char.toNat a.toList).toArray.toList=_))
def jN(h:aY.length<=20000):∃w,Du aY=.ok (.str w):=⟨aY,aX (cC h (by decide))⟩
def jC{k:Str->Rs Tr}{acc z:Str}{n:Nat}(q:acc.length<=n)(hz:z.length<=1000)(hn:n<=10000)(h:∀a,a.length<=n+1000->∃w,k a=.ok (.str w)):∃w,uI (.ok (.str z)) k acc=.ok (.str w):=by
 have l:(acc++z).length<=n+1000:=by rw[o8];omega
 obtain⟨w,e⟩:=h _ l;refine⟨w,?_⟩;show(if(acc++z).length<=cZ then k (acc++z)else .bad)=_;rw[aX (cC l (by show n+1000<=1000000;omega)),e]
def fW:List (Bool×Str×Str)->Tr
 |[]=>.cu
 |(b,_,w)::cs=>if b then .str w else fW cs
noncomputable def fX(A:Ab)(X:Rz Tr):List (Bool×Str×Str)->Rz Tr
 |[]=>X
 |(b,x,_)::cs=>if b then .exc (.str x) A else fX A X cs
theorem MK{A:Ab}{X:Rz Tr}:∀{cs:List (Bool×Str×Str)},(∀c∈cs,c.1=false)->fX A X cs=X
 |[],_=>rfl
 |c::cs,h=>by
  obtain⟨b,x,w⟩:=c;have:b=false:=h _ (cB ..);subst this;exact MK (cs:=cs) λc g=>h c (cx _ g)
def Ek{b:Bool}{x:Str}{A:Ab}{X:Rz Tr}{q:Rz Tr}(h1:b=true->q=.exc (.str x) A)(h2:b=false->q=fX A X cs):q=fX A X ((b,x,aY)::cs):=by
 cases b with
 |true=>exact h1 rfl
 |false=>exact h2 rfl
def ifW{b:Bool}{q:Rs Tr}(h1:b=true->q=.ok (.str aN))(h2:b=false->q=.ok (fW cs)):q=.ok (fW ((b,aY,aN)::cs)):=by
 cases b with
 |true=>exact h1 rfl
 |false=>exact h2 rfl
def YM{k:Nat}{t:Tr}(h:rows[k]?=some t):jM (.tup rows) (.int k)=.ok t:=by
 show l8 (L2.vi rows k)=_;rw[A6 h];rfl
def Cc:(∀a l,jM (.tup (a::l)) (.int 0)=.ok a)/\(∀a b l,jM (.tup (a::b::l)) (.int 1)=.ok b)/\(∀a b c l,jM (.tup (a::b::c::l)) (.int 2)=.ok c)/\(∀a b c d l,jM (.tup (a::b::c::d::l)) (.int 3)=.ok d)/\(∀a b c d e l,jM (.tup (a::b::c::d::e::l)) (.int 4)=.ok e):=
 ⟨λ_ _=>YM (k:=0) rfl,λ_ _ _=>YM (k:=1) rfl,λ_ _ _ _=>YM (k:=2) rfl,λ_ _ _ _ _=>YM (k:=3) rfl,λ_ _ _ _ _ _=>YM (k:=4) rfl⟩
def Vj:(∀i j:Int,ltC (.int i) (.int j)=.ok (.bl (decide (i<j))))/\(∀i j:Int,leC (.int i) (.int j)=.ok (.bl (decide (i<=j))))/\(∀i j:Int,geC (.int i) (.int j)=.ok (.bl (decide (j<=i))))/\(∀i j:Int,LB [.int i,.int j]=.ok (.int (if j>i then j else i))):=by
 refine⟨?_,?_,?_,?_⟩<;>intros<;>rfl
def lH(aT:List (Str×Str))(z:Str):Int:=match aT.lookup z with
 |some r=>lvl r
 |none=>-1
def FX(r:Str):0<=lvl r/\lvl r<=3:=by
 unfold lvl;split
 ·decide
 split
 ·decide
 split<;>decide
abbrev RA(A:Ab)(i:Nat)(rows:List Tr)(aT:List (Str×Str))(ents:List (Str×Int))(chs:List (Str×Str))(bn iv:List Str):Prop:=bz A i rows (dP .str aT) (dP .int ents) (dP .str chs) (nS bn) (nS iv)
section
variable {A:Ab}{iv:List Str}{ent:Str->Int}{r cV val:Str}{X:Rz Tr}{Y:bY}
def jR(tu:gu rows):d9 rows (dP .str aT) (dP .int ents) (dP .str aO) (nS aP) (nS iv):=⟨tu,Vh,flI,Vh,wW,wW⟩
def dk.lk (k:dk aT ents ent)(h:aT.lookup aY=some r):r∈oH:=k.rl _ (m9 h)
theorem YN{A1:Ab}:∀{cs:List (Bool×Str×Str)},cD (yq (fX A (.ok .cu A1) cs) Y)=fX A (.ok .cu A1) cs
 |[]=>rfl
 |(true,_,_)::cs=>rfl
 |(false,_,_)::cs=>YN (cs:=cs)
def Hz(h:RA A aM rows aT ents aO aP iv)(tu:gu rows)(hw:aY.length<=1000):lx [.at aM,.str aY] A=if(aT.lookup aY).isNone then .exc (.str "NotIn") A else .ok .cu A:=by
 have n:=ze h (jR tu) hw;rw[dS]at n;rw[n];cases aT.lookup aY<;>rfl
end
section
variable {A A1:Ab}{j t ks kb ka:Nat}{iv asked:List Str}{ent:Str->Int}{cV val c5 d v p:Str}
theorem Pu(h:RA A aM rows aT ents aO aP iv)(tu:gu rows)(k:dk aT ents ent)(hw:aY.length<=1000)(q:(aT.lookup aY).isNone=false):lz [.at aM,.str aY] A=if decide (lH aT aY<2)then .exc (.str "NoRight") A else .ok .cu A:=by
 obtain⟨r,b⟩:∃r,aT.lookup aY=some r:=by cases e:aT.lookup aY with
  |none=>rw[e]at q;cases q
  |some r=>exact⟨r,rfl⟩
 show cD (fO.1 [.sh (.at aM),.sh (.str aY)] A)=_;unfold fO;obtain⟨w,s⟩:=jC (z:=aY) (acc:=Str.empty) (n:=0) (k:=λacc=>uI (.ok (.str " is no keeper or owner")) (λacc=>Du acc) acc) (bu 0) hw (by decide) λa g=>jC g (by decide+kernel) (by decide) λa g=>jN (by omega);have l2:BP [.str "keeper"]=.ok (.int 2):=vc (by decide+kernel);simp only[ev,cO,eV,fj,h.vA (jR tu),ee,b,dE,l8,vc (k.lk b),l2,Vj];rw[show lH aT aY=lvl r by unfold lH;rw[b]];cases decide (lvl r<2)with
 |true=>simp only[ev,cO,eV,s,bX]
 |false=>rfl
end
def p9(l:List Str)(z:Str):List Str:=if l.contains z then l else l++[z]
theorem ML{z:Str}:kT (nS aP) (.inr z) (.bl true)=nS (p9 aP z):=by
 show kT (dP .bl (aP.map λz=>(z,true))) (.inr z) (Tr.bl true)=_;rw[mj];unfold nS p9;congr 1;cases e:aP.contains z with
 |false=>
  rw[qG (by rw[BI,e];rfl),ba fI,g7];rfl
 |true=>
  unfold fM;rw[aX rfl,aX (by rw[List.any_map];exact xx.mpr ⟨z,de.mp e,by simp⟩),cN];exact fZ λy b=>by show(if y=z then(y,true)else(y,true))=_;split<;>rfl
def HC:(nS bF).length=bF.length:=by unfold nS;rw[k_,bt]
section
variable {A:Ab}{i:Nat}{iv:List Str}{ent:Str->Int}{cV val:Str}
def YO{z:Str}(q:(aT.lookup z).isNone=false):∃r,aT.lookup z=some r:=by
 cases e:aT.lookup z with
 |none=>rw[e]at q;cases q
 |some r=>exact⟨r,rfl⟩
def qH{z r:Str}(h:aT.lookup z=some r):lH aT z=lvl r:=by unfold lH;rw[h]
def xJ{b:Str}:(∀A,sS (.ok (.tup [.str aN])) A=.ok (.tup [.str aN]) A)/\(∀A,sS (.ok (.tup [.str aN,.str b])) A=.ok (.tup [.str aN,.str b]) A):=⟨λ_=>rfl,λ_=>rfl⟩
abbrev rE(rows:List Tr)(aY c6:Str)(ps:List Tr):Ao:=.lst (rows++[gW rows aY c6 ps])
end
section
variable {A A1:Ab}{j t ks kb ka:Nat}{iv asked:List Str}{ent:Str->Int}{cV val c5 d v p:Str}
theorem YQ(h:RA A aM rows aT ents aO aP iv)(tu:gu rows)(k:dk aT ents ent)(hw:aY.length<=1000)(hv:aN.length<=1000)(q:(aT.lookup aY).isNone=false):lV [.at aM,.str aY,.str aN] A=if decide (lH aT aY<2)||decide (lH aT aY<=lH aT aN)then .exc (.str "NoRight") A else .ok .cu A:=by
 obtain⟨r,b⟩:=YO q;show cD (gc.1 [.sh (.at aM),.sh (.str aY),.sh (.str aN)] A)=_;unfold gc;simp only[ev,cO,eV,fj,h.call (m:="need_keeper") rfl,Pu h tu k hw q];cases decide (lH aT aY<2)with
 |true=>rfl
 |false=>
  simp only[ev,cO,eV,fj,h.vA (jR tu),dS,cE,bZ,jk];cases hm:aT.lookup aN with
  |none=>
   rw[show decide (lH aT aY<=lH aT aN)=false from fJ (by rw[qH b,show lH aT aN=-1 by unfold lH;rw[hm]];have:=FX r;omega)]
   rfl
  |some s=>
   obtain⟨w,l⟩:=jC (z:=aN) (acc:=Str.empty) (n:=0) (k:=λacc=>uI (.ok (.str " has no lesser role than ")) (λacc=>uI (.ok (.str aY)) (λacc=>Du acc) acc) acc) (bu 0) hv (by decide) λa g=>jC g (by decide+kernel) (by decide) λa g=>jC g hw (by decide) λa g=>jN (by omega);simp only[dE,j7,ev,cO,ee,hm,b,l8,vc (k.lk b),vc (k.lk hm),Vj];rw[qH b,qH hm];cases decide (lvl r<=lvl s)with
   |true=>simp only[ev,cO,eV,l,bX]
   |false=>rfl
end
section
variable {A A1:Ab}{c5 cV val:Str}{iv:List Str}
def Pw(h:cj A bc a9)(hw:aY.length<=1000)(q:aN.length<=1000):ij [.at 0,.tup [.str aY,.str aN]] A=if((bc.lookup aY).isSome&&(bc.lookup aN).isSome)=true then .ok .cu A else .exc (.str "NoPerson") A:=by
 show cD (dJ.1 [.sh (.at 0),.sh (.tup [.str aY,.str aN]),.no] A)=_;unfold dJ;have s:=zD (z:="nobody is called ") (y:=aY) (by decide+kernel) hw;have s':=zD (z:="nobody is called ") (y:=aN) (by decide+kernel) q;simp only[ev,cO,eV,fj,FD,cz,cA,h.O8,dS,ji];cases(bc.lookup aY).isSome with
 |false=>simp only[eO,ev,cO,eV,fj,s,xD,cE,bZ]
 |true=>
  simp only[dv,ev,cO,eV,fj,cz,cA,h.O8,dS,ji,pG];cases(bc.lookup aN).isSome with
  |true=>simp only[dv,ev,cO,bX]
  |false=>simp only[eO,ev,cO,eV,fj,s',cE,bZ]
def qI(h:cj A bc a9)(hw:aY.length<=1000)(q:aN.length<=1000)(hj:a9.lookup c5=some aM):jf [.at 0,.tup [.str aY,.str aN],.str c5] A=if((bc.lookup aY).isSome&&(bc.lookup aN).isSome)=true then .ok (.at aM) A else .exc (.str "NoPerson") A:=by
 show cD (eD.1 [.sh (.at 0),.sh (.tup [.str aY,.str aN]),.sh (.str c5)] A)=_;unfold eD;simp only[ev,cO,eV,fj,h.call (m:="need_people") rfl,Pw h hw q];cases((bc.lookup aY).isSome&&(bc.lookup aN).isSome)with
 |true=>simp only[bX,ev,cO,eV,fj,h.call (m:="place") rfl,Hv h hj]
 |false=>simp only[cE,bZ,ev]
end
section
variable {A:Ab}{ks kb ka n:Nat}{ent:Str->Int}{v p c9 c5 x3 cV val:Str}
def Us:decide (0<=lH bh aY)=(bh.lookup aY).isSome:=by
 unfold lH;cases bh.lookup aY with
 |none=>rfl
 |some r=>exact gB (FX r).1
def wZ{T:Tr}(q:jM T (.str "roles")=.ok (.bU (dP .str bh)))(k:dk bh ents ent):za [T,.str aY]=.ok (.int (lH bh aY)):=by
 cases b:bh.lookup aY with
 |some r=>rw[qH b];exact FW q b (k.lk b)
 |none=>
  show dG (nv.1 [.sh T,.sh (.str aY)])=_;unfold nv;simp only[ev,cO,q,dS,b,pC,pf,show lH bh aY=-1 by unfold lH;rw[b]]
theorem Cd{c6:Str}{c8:List Tr}{wh:Bool}(m:fS A bF c7)(h:bH A aM ks kb ka rows bh stays bw aP aN v p)(hj:c7.lookup c5=some aM)
  (hw:c6="arrange"/\wh=false\/(c6="ask"\/c6="role"\/c6="out"\/c6="bar"\/c6="unbar")/\wh=true)
  (hd:eI [aZ 3 A (.at aM),.tup (.str c6:: .str aY:: .str c5:: .str x3::c8)]=.ok (fW cs)):
  fH [aZ 5 A (.at 4),.tup (.str c6:: .str aY:: .str c5:: .str x3::c8)]=.ok (fW ((!(bF.contains aY&&(!wh||bF.contains x3)),"NoPerson","no person")::((bh.lookup aY).isNone,"NotIn","not in")::cs)):=by
 show dG (iz.1 [.sh (aZ 5 A (.at 4)),.sh (.tup (.str c6:: .str aY:: .str c5:: .str x3::c8)),.no,.no,.no])=_;unfold iz;have r:zo (.str c6) (.tup [.str "ask",.str "role",.str "out",.str "bar",.str "unbar"])=.ok (.bl wh):=by rcases hw with⟨rfl,rfl⟩|⟨rfl|rfl|rfl|rfl|rfl,rfl⟩<;>rfl
 have g:zo (.str c6) (.tup [.str "say",.str "mend",.str "take_back"])=.ok (.bl false):=by rcases hw with⟨rfl,_⟩|⟨rfl|rfl|rfl|rfl|rfl,_⟩<;>rfl
 have b:(c6==Str.ofString "come")=false/\(c6==Str.ofString "found")=false/\(c6==Str.ofString "enter")=false/\(c6==Str.ofString "leave")=false:=by rcases hw with⟨rfl,_⟩|⟨rfl|rfl|rfl|rfl|rfl,_⟩<;>decide+kernel
 have l1:∀a,CU (.ok [a])=.ok (.lst [a]):=λ_=>rfl;have t3:aZ 3 A (.at aM)=.bU (dP (aZ 2 A) (yT aM ks kb ka aN v p)):=hU h.o;simp only[ev,cO,Cc,cz,cA,b,l1,FD];rw[lT (AF:=[.sh (.tup (.str c6:: .str aY:: .str c5:: .str x3::c8)),.sh (.str c6)]) (λ_:Unit=>wh) (λ_=>.int 3) (λ_=>.str x3) (xs:=[()]) (by rfl) (by decide) rfl (λ_ _=>by simp only[ev,cO,r]) (λ_ _ e=>by simp only[ev,cO,Cc])];have a1:vk (.lst [.str aY]) (.lst (([()].filter λ_=>wh).map λ_=>.str x3))=.ok (.lst ((aY::if wh then[x3]else[]).map .str)):=by cases wh<;>rfl
 simp only[a1,ev,cO,FD,cz,cA];have I:(aY::if wh then[x3]else[]).length<=dU:=by
  cases wh
  ·show 1<=dU;decide
  ·show 2<=dU;decide
 rw[nc (ns:=aY::if wh then[x3]else[]) (AF:=[.sh (aZ 5 A (.at 4))]) (λz=>!bF.contains z) (by rfl) I rfl (λ_=>rfl) ?hC]
 case hC=>intro z _;simp only[ev,cO,m.Uk (n:=3),uP]
 have L:uz (.lst ((List.filter (λz=>!bF.contains z) (aY::if wh then[x3]else[])).map .str))=.ok (!(bF.contains aY&&(!wh||bF.contains x3))):=by
  cases wh<;>simp only[pv,xB,bX,cE,bZ]<;>cases bF.contains aY<;>first|rfl|(cases bF.contains x3<;>rfl)
 simp only[ev,cO,L];refine ifW (λq=>by simp only[q,ev]) λq=>?_
 simp only[q,ev,cO,Cc,m.Mf (n:=3),DW,hj,dE,pw,cz,cA,b];rw[show GD (aZ 3 A (.at aM)) .cu=.ok (.bl false) by rw[t3];rfl];simp only[ev,cO,Cc,b,g,h.yU (n:=1),dS,ji];have l:(bh.lookup aY).isSome=!(bh.lookup aY).isNone:=by cases bh.lookup aY<;>rfl
 refine ifW (λq=>by simp only[l,q,dv,eO,ev]) λq=>by simp only[l,q,dv,eO,ev,cO,b,g,hd]
end
section
variable {A A':Ab}{ks kb ka n:Nat}{l':List Str}{v p d' v' p' c5 cV val:Str}
noncomputable abbrev El:List (Key×Tr):=[(.inr "arrange",.str "set"),(.inr "take_back",.str "gone")]
def nm1:(∀a b,CU (.ok [a,b])=.ok (.lst [a,b]))/\Fw [.lst [.tup [.str "arrange",.str "set"],.tup [.str "take_back",.str "gone"]]]=.ok (.bU El)/\(∀A,wq (.ok (.bU El)) A=.ok (.at A.length) (A++[.bU El])):=⟨λ_ _=>rfl,rfl,λ_=>rfl⟩
def nm2:aZ 5 (A++[.bU El]) (.at A.length)=.bU El:=by rw[gs lS];rfl
def YR{a b:Tr}{Y:bY}{c e:Cell}:KW (gT [2,3]) (.ok (.tup [a,b]) A) (c::e:: .no:: .no::Y)=.ok (.nx (c::e:: .sh a:: .sh b::Y)) A:=rfl
noncomputable abbrev Cm(aN v p:Str):List (Str×Str):=[("door",aN),("voice",v),("past",p)]
abbrev jS(aM ks kb ka:Nat):List Nat:=[aM,aM+1,aM+2,ks,kb,ka]
def Jw{n:Int}(h:aY∉lB stays):stays.map (gw aY n)=stays:=by
 conv=>rhs;rw[<-jA stays]
 refine fZ λs hs=>?_
 show gw aY n s=s;unfold gw;refine ba λq=>h ?_
 exact cI.mpr ⟨s,e_.mpr ⟨hs,by rw[q.2];rfl⟩,q.1⟩
def FY(h:bh.lookup aY=none):gZ bh aY=bh:=mD.mpr λq b=>gB (lookup_none h q b)
end
structure Dat where
 rows:List Tr
 aT:List (Str×Str)
 ents:List (Str×Int)
 ent:Str->Int
 stays:List nX
 bw:List Str
 inv:List Str
 asked:List Str
 d:Str
 v:Str
 p:Str
 ks:Nat
 kb:Nat
 ka:Nat
noncomputable abbrev six:List Str:=["ann","bo","cy","dee","ed","zed"]
def eY{z:Str}(h:z∈six):z.length<=1000:=(by decide+kernel:∀z∈six,z.length<=1000) z h
def jT(rows:List Tr):Prop:=∀t∈rows,∃us,t=.tup us/\us.all yl=true/\us.length<=10
section
variable {dc us:List Tr}{ent:Str->Int}{inv asked:List Str}{t:Nat}
def jT.tu (h:jT rows):gu rows:=λt b=>by obtain⟨us,e,_⟩:=h t b;exact⟨us,e⟩
def jT.add (h:jT rows)(q:us.all yl=true)(hl:us.length<=10):jT (rows++[.tup us]):=λt b=>by
 rcases dm.mp b with b|b
 ·exact h t b
 ·exact⟨us,cQ.mp b,q,hl⟩
def cW{n:Nat}(h:n<10000):n<dU:=dg h (by decide)
def HD{α:Type}{l:List (Str×α)}{z:Str}{a:α}:(fM l z a).length<=l.length+1:=by
 unfold fM;split
 ·rw[bt];omega
 ·rw[eZ];exact bu _
def iA.names (o:iA rows aT dc bh):bh.map (·.1)=aT.map (·.1):=by
 cases o with
 |same _=>rfl
 |zI z g _ _=>
  obtain⟨a,r,e,_⟩:=g.ex;exact Ej (cI.mpr ⟨_,d6 e,rfl⟩)
theorem iA.len (o:iA rows aT dc bh):rows.length<=dc.length/\dc.length<=rows.length+1/\bh.length=aT.length:=by
 have hn:bh.length=aT.length:=by have:=dh List.length o.names;simpa using this
 cases o with
 |same _=>omega
 |zI z g _ _=>rw[eZ];exact⟨by omega,bu _,hn⟩
theorem iA.jT (o:iA rows aT dc bh)(h:jT rows):jT dc:=by
 cases o with
 |same _=>exact h
 |zI z g _ _=>exact h.add rfl (by show 5<=10;decide)
def iA.ow (o:iA rows aT dc bh):bh=[]\/∃p∈bh,p.2="owner":=by
 cases o with
 |same h=>exact h
 |zI z g _ _=>exact .inr ⟨(z,"owner"),m9 (by rw[zf,aX rfl]),rfl⟩
def Em(o:iA rows aT dc bh)(h:∀p∈aT,ent p.1<rows.length+1):∀p∈bh,ent p.1<dc.length+1:=λp hp=>by
 have:p.1∈aT.map (·.1):=by rw[<-o.names];exact gz hp
 obtain⟨q,b,e⟩:=cI.mp this;have g:=h q b;have h2:=o.len.1;rw[<-e];omega
structure Good(rows:List Tr)(aT:List (Str×Str))(ents:List (Str×Int))(ent:Str->Int)(stays:List nX)(bw inv asked:List Str):Prop where
 fr:jT rows
 rk:dk aT ents ent
 op:lB stays=aT.map (·.1)
 lt:∀p∈aT,ent p.1<rows.length+1
 ow:aT=[]\/∃p∈aT,p.2="owner"
 ia:∀z,inv.contains z=asked.contains z
 ns:∀z∈aT.map (·.1),z∈six
 bs:∀z∈bw,z∈six
 is:∀z∈inv,z∈six
 nd:inv.Nodup
theorem Good.row (g:Good rows aT ents ent stays bw inv asked)(q:us.all yl=true)(hl:us.length<=10):Good (rows++[.tup us]) aT ents ent stays bw inv asked:=
 ⟨g.fr.add q hl,g.rk,g.op,λp hp=>by have:=g.lt p hp;rw[eZ];show ent p.1<((rows.length+1:Nat):Int)+1;omega,g.ow,g.ia,g.ns,g.bs,g.is,g.nd⟩
abbrev QY(D:Dat):Prop:=Good D.rows D.aT D.ents D.ent D.stays D.bw D.inv D.asked
structure Bd(D:Dat)(t:Nat):Prop where
 b1:D.rows.length<=3+2*t
 b2:D.aT.length<=3+t
 b3:D.ents.length<=3+t
 b4:D.stays.length<=3+t
 b5:D.asked.length<=t
 b6:D.bw.length<=t
 b7:D.inv.length<=t
end
structure Pr(A:Ab)(i j:Nat)(D:Dat)(t:Nat):Prop where
 r:RA A i D.rows D.aT D.ents (Cm D.d D.v D.p) D.bw D.inv
 m:bH A j D.ks D.kb D.ka D.rows D.aT D.stays D.bw D.asked D.d D.v D.p
 g:QY D
 b:Bd D t
 dj:∀k∈jS j D.ks D.kb D.ka,6<k/\(k<i\/i+6<k)
 hi:6<i
def Kept(A:Ab)(D D':Dat):Prop:=∀k∈[D'.ks,D'.kb,D'.ka],k∈[D.ks,D.kb,D.ka]\/A.length<=k
abbrev touched(i j:Nat)(D:Dat):List Nat:=iS i++jS j D.ks D.kb D.ka
def Res(A:Ab)(i j:Nat)(D:Dat)(t:Nat)(ts:List Tr):Prop:=∃A' D',jK [.at 0,.at 4,.tup ts] A=.ok (.bl true) A'/\ik A A' (touched i j D)/\Pr A' i j D' (t+1)/\Kept A D D'
noncomputable abbrev YS:List (Str×Str):=[("Known","known"),("NoPerson","no person"),("NotIn","not in"),("NotAsked","not asked"),("Barred","barred"),("NoRight","no right")]
section
variable {A A' A2:Ab}{j t:Nat}{D D':Dat}{c5 x w:Str}{ts:List Tr}{X:Rz Tr}
def Ut(h:(x,w)∈YS):(["Known","NoPerson","NoRoom","NotIn","NotAsked","Barred","NoRight","NoRow","NoHand","NoLine"]:List Str).contains x=true/\zb [.zU x]=.ok (.str w)/\fG 5 [.str w,.str w]=.ok (.bl true):=by
 simp only[bI,cJ,cK,Prod.mk.injEq]at h;rcases h with⟨rfl,rfl⟩|⟨rfl,rfl⟩|⟨rfl,rfl⟩|⟨rfl,rfl⟩|⟨rfl,rfl⟩|⟨rfl,rfl⟩<;>exact⟨by decide+kernel,rfl,rfl⟩
def Bd.more (b:Bd D t):Bd D (t+1):=by obtain⟨g,h2,l,n,r,I,L⟩:=b;exact⟨by omega,by omega,by omega,by omega,by omega,by omega,by omega⟩
theorem Pr.kp {S:List Nat}(P:Pr A aM j D t)(e:ik A A' S)(q:∀k∈S,(k<aM\/aM+6<k)/\k∉jS j D.ks D.kb D.ka):Pr A' aM j D (t+1):=
 ⟨bz.kp P.r e λk l=>(q k l).1,bH.kp P.m e λk l h=>(q k h).2 l,P.g,P.b.more,P.dj,P.hi⟩
theorem s_same(P:Pr A aM j D t)(h:jK [.at 0,.at 4,.tup ts] A=.ok (.bl true) (A++[.Eo x])):Res A aM j D t ts:=
 ⟨_,D,h,ik.push,P.kp (ik.push (S:=[])) λ_ h=>(nomatch h),λ_ h=>.inl h⟩
theorem O5:∀{cs:List (Bool×Str×Str)},(∀c∈cs,c.1=false)\/∃c∈cs,fW cs=.str c.2.2/\fX A X cs=.exc (.str c.2.1) A
 |[]=>.inl λc h=>nomatch h
 |(true,x,w)::cs=>.inr ⟨_,cB ..,rfl,rfl⟩
 |(false,x,w)::cs=>by
  rcases O5 (cs:=cs)with h|⟨c,h,h2⟩
  ·exact .inl λc b=>by
    rcases bI.mp b with rfl|b
    ·rfl
    ·exact h c b
  ·exact .inr ⟨c,cx _ h,h2⟩
theorem YT:∀{cs:List (Bool×Str×Str)},(∀c∈cs,c.1=false)->fW cs=.cu
 |[],_=>rfl
 |(b,x,w)::cs,h=>by
  have:b=false:=h _ (cB ..);subst this;exact YT (cs:=cs) λc g=>h c (cx _ g)
def rh(P:Pr A aM j D t)(q:fH [aZ 5 A (.at 4),.tup ts]=.ok (fW cs))(hc:fF [.at 0,.tup ts] A=fX A X cs)(he:∀c∈cs,c.2∈YS)(dn:(∀c∈cs,c.1=false)->fH [aZ 5 A (.at 4),.tup ts]=.ok .cu->Res A aM j D t ts):Res A aM j D t ts:=by
 rcases O5 (A:=A) (X:=X) (cs:=cs)with h|⟨c,h,h1,h2⟩
 ·exact dn h (by rw[q,YT h])
 ·obtain⟨b,g,l⟩:=Ut (he c h);rw[h1]at q;rw[h2]at hc;exact s_same P (Pq q (Pp hc b g) l)
def Pr.abJ (P:Pr A aM j D t)(kp:Kept A D D'):∀k∈jS j D'.ks D'.kb D'.ka,6<k/\(k<aM\/aM+6<k):=λk b=>by
 have l:=gb P.r.iv;have g:=P.hi;have q:∀k,k∈[D'.ks,D'.kb,D'.ka]->6<k/\(k<aM\/aM+6<k):=λk b=>by
  rcases kp k b with h|h
  ·exact P.dj k (cx _ (cx _ (cx _ h)))
  ·omega
 rcases bI.mp b with rfl|b
 ·exact P.dj _ (by simp)
 rcases bI.mp b with rfl|b
 ·exact P.dj _ (by simp)
 rcases bI.mp b with rfl|b
 ·exact P.dj _ (by simp)
 exact q k b
def ri(P:Pr A aM j D t)(hH:cj A bc a9)(hr:fH [aZ 5 A (.at 4),.tup ts]=.ok .cu)(hd:ny [.at 4,.tup ts] A=.ok .cu A2)(t1:ik A A2 (jS j D.ks D.kb D.ka))
  (m2:bH A2 j D'.ks D'.kb D'.ka D'.rows D'.aT D'.stays D'.bw D'.asked D'.d D'.v D'.p) (kp:Kept A D D')
  (pr:cj A2 bc a9->RA A2 aM D.rows D.aT D.ents (Cm D.d D.v D.p) D.bw D.inv->∃q,fF [.at 0,.tup ts] A2=.ok .cu q/\ik A2 q (iS aM)/\RA q aM D'.rows D'.aT D'.ents (Cm D'.d D'.v D'.p) D'.bw D'.inv)
  (g:QY D') (b:Bd D' (t+1)):Res A aM j D t ts:=by
 obtain⟨q,L,n,M⟩:=pr (cj.kp hH t1 λk l=>(P.dj k l).1) (bz.kp P.r t1 λk l=>(P.dj k l).2);have I:=P.abJ kp;refine⟨q,D',Pt hr hd (Ur L),(t1.sub λk l=>dm.mpr (.inr l)).trans (n.sub λk l=>dm.mpr (.inl l)),⟨M,bH.kp m2 n λk l h=>?_,g,b,I,P.hi⟩,kp⟩;have:=I k l;simp only[bI,cJ,cK]at h;omega
end
section
variable {A A1 A2:Ab}{j t:Nat}{D D':Dat}{c5 cV val c6:Str}{c8:List Tr}
theorem Ce(hw:c6="arrange"\/c6="ask"\/c6="role"\/c6="out"\/c6="bar"\/c6="unbar")(m:fS A bF c7)(q:c7.lookup c5=some j)(q1:iy [.at j,.tup (.str c6:: .str aY:: .str c5::c8)] A=.ok .cu A1)(q2:kG [.at j] A1=.ok .cu A2)
  (sl:o4 (.ok (.tup (.str c6:: .str aY:: .str c5::c8))) (.ok none) (Ci (.ok (.int 2)))=.ok (.tup [.str c6,.str aY])):ny [.at 4,.tup (.str c6:: .str aY:: .str c5::c8)] A=.ok .cu A2:=by
 show cD (jJ.1 [.sh (.at 4),.sh (.tup (.str c6:: .str aY:: .str c5::c8)),.no,.no,.no] A)=_;unfold jJ;have b:(c6==Str.ofString "come")=false/\(c6==Str.ofString "found")=false/\(c6==Str.ofString "say")=false/\(c6==Str.ofString "enter")=false/\(c6==Str.ofString "leave")=false:=by rcases hw with rfl|rfl|rfl|rfl|rfl|rfl<;>decide+kernel
 simp only[ev,cO,eV,fj,Cc,sl,xJ,YR,b,jq,m.Ul,wU m.rs,ee,q,dE,l8,cz,cA,q1,q2]
def w4{kb ka:Nat}{ent:Str->Int}{p:Str}(h:bH A j aM kb ka rows bh stays bw bF aY aN p)(f:gu rows)(k:dk bh ents ent)(ho:lB stays=bh.map (·.1))(ow:bh=[]\/∃p∈bh,p.2="owner")(hl:rows.length<dU)(hs:stays.length<=dU)(hr:bh.length<dU):
  ∃A',kG [.at j] A=.ok .cu A'/\(∀aM kb ka,ik A A' (jS j aM kb ka))/\bH A' j aM kb ka rows bh stays bw bF aY aN p:=by
 obtain⟨A',dc,lh,q,o,x,m⟩:=zg h f k ho hl hs hr;obtain⟨rfl,rfl⟩:=o.one (.same ow);exact⟨A',q,λ_ _ _=>ik.of x (by simp),m⟩
def Kept.refl:Kept A D D:=λ_ h=>.inl h
abbrev Dr(D:Dat)(aY c6:Str)(ps:List Tr):Dat:={D with rows:=D.rows++[gW D.rows aY c6 ps]}
def oJ{α:Type}{l:List α}{a:α}:(l++[a]).length=l.length+1:=by rw[eZ];rfl
def MM{y:Str}:(p9 bF aY).contains y=(bF++[aY]).contains y:=by
 unfold p9;split
 ·rename_i h;rw[tW,de,de,dm];refine⟨.inl,λq=>?_⟩;rcases q with q|q
  ·exact q
  ·rw[cQ.mp q];exact de.mp h
 ·rfl
def Uu{z:Str}(h:aY∈p9 bF z):aY∈bF\/aY=z:=by
 have:=MM▸de.mpr h;rcases dm.mp (de.mp this)with h|h
 ·exact .inl h
 ·exact .inr (cQ.mp h)
def Uv{l:List Str}{z:Str}(h:l.Nodup):(p9 l z).Nodup:=by
 unfold p9;split
 ·exact h
 ·rename_i q;refine tL.mpr ⟨h,xg _ _,λa g b hb e=>q ?_⟩;rw[cQ.mp hb]at e;exact de.mpr (e▸g)
def Uw{l:List Str}{z:Str}:(p9 l z).length<=l.length+1:=by
 unfold p9;split
 ·omega
 ·rw[oJ];exact bu _
theorem vM{n:Int}:∀{stays:List nX},lB (stays.map (gw aY n))=(lB stays).filter λz=>!(z==aY)
 |[]=>rfl
 |s::stays=>by
  obtain⟨a,b,c,e⟩:=s;have g:=vM (n:=n) (stays:=stays);unfold lB at g⊢;rw[bB];cases e with
  |some m=>
   have:gw aY n (a,b,c,some m)=(a,b,c,some m):=by simp[gw]
   rw[this,jY (by simp),jY (by simp)];exact g
  |none=>
   rw[lI (a:=(a,b,c,none)) (by rfl),bB];by_cases q:a=aY
   ·subst q;have:gw a n (a,b,c,none)=(a,b,c,some n):=by simp[gw]
    rw[this,jY (by simp),jY (by simp)];exact g
   ·have:gw aY n (a,b,c,none)=(a,b,c,none):=by simp[gw,q]
    rw[this,lI (by rfl),bB,lI (by simpa using q),g]
def sQ:(gZ aT aY).map (·.1)=(aT.map (·.1)).filter λz=>!(z==aY):=by
 unfold gZ;rw[pB];congr 1;refine tN λq _=>?_
 show decide (q.1≠aY)=!(q.1==aY);by_cases h:q.1=aY<;>simp[h]
def Good.drop {ent:Str->Int}{inv asked:List Str}{n:Int}(g:Good rows aT ents ent stays bw inv asked)(h:lH aT aN<lH aT aY):Good rows (gZ aT aN) ents ent (stays.map (gw aN n)) bw inv asked:=by
 have sub:∀p∈gZ aT aN,p∈aT:=λp hp=>(e_.mp hp).1;refine⟨g.fr,g.rk.leave,by rw[vM,g.op,sQ],λp hp=>g.lt p (sub p hp),.inr ?_,g.ia,λz hz=>?_,g.bs,g.is,g.nd⟩
 ·rcases g.ow with h0|⟨p,hp,e⟩
  ·rw[h0]at h;exact absurd h (by show¬(-1:Int)< -1;decide)
  ·refine⟨p,e_.mpr ⟨hp,gB λq=>?_⟩,e⟩;have b:=qH (hX g.rk.nd p hp);rw[q,e]at b;have h2:lH aT aY<=3:=by
    unfold lH;split
    ·exact(FX _).2
    ·decide
   have l:lvl "owner"=3:=by decide+kernel
   omega
 ·obtain⟨p,hp,rfl⟩:=cI.mp hz;exact g.ns _ (gz (sub p hp))
end
def contains_filter{l:List Str}{P:Str->Bool}{z:Str}:(l.filter P).contains z=(l.contains z&&P z):=by
 rw[tW,de,e_,bW,de]
section
variable {A:Ab}{j t:Nat}{D:Dat}{c5:Str}
theorem Px(P:Pr A aM j D t)(hH:cj A bc a9)(hM:fS A bF c7)(hi:a9.lookup c5=some aM)(hj:c7.lookup c5=some j)(hp:∀z,(bc.lookup z).isSome=bF.contains z)(h6:aY∈six)(ht:t<=1000):Res A aM j D t [.str "enter",.str aY,.str c5]:=by
 have tu:=P.g.fr.tu;have hs:=eY h6;have b1:=P.b.b1;have b2:=P.b.b2;have b3:=P.b.b3;have b4:=P.b.b4;have b5:=P.b.b5;have b6:=P.b.b6;have b7:=P.b.b7;have fl:d9 D.rows (dP .str D.aT) (dP .int D.ents) (dP .str (Cm D.d D.v D.p)) (nS D.bw) (nS D.inv):=jR tu;have hr:=Hy (aY:=aY) (c6:="enter") hM P.m hj (.inr (.inl rfl));have I:=λ{A:Ab} (hH:cj A bc a9) (r:RA A aM D.rows D.aT D.ents (Cm D.d D.v D.p) D.bw D.inv)=>(MI (aY:=aY) (c5:=c5) hH).trans (MD hH hs hi (by rw[r.call (m:="enter") rfl];rfl));simp only[hp]at I;have s2:¬(Str.ofString "enter"=Str.ofString "found"):=by decide+kernel
 have vb:∀{b},D.bw.contains aY=b->fc (nS D.bw) (.inr aY)=if b then some (.bl true)else none:=λe=>by rw[vD,e]
 refine rh (cs:=[(!bF.contains aY,"NoPerson","no person"),((D.aT.lookup aY).isSome,"Known","known"),(D.bw.contains aY,"Barred","barred"),(decide (D.d="asked")&&!D.asked.contains aY,"NotAsked","not asked")]) (X:=fF [.at 0,.tup [.str "enter",.str aY,.str c5]] A) P (hr.trans ?_) ?_ (by simp) λall Je=>?_
 ·simp only[s2,bZ,bX];cases bF.contains aY with
  |false=>rfl
  |true=>
   cases(D.aT.lookup aY).isSome with
   |true=>rfl
   |false=>
    cases D.bw.contains aY with
    |true=>rfl
    |false=>by_cases hd:D.d="asked"<;>cases D.asked.contains aY<;>simp[fW,hd]
 ·refine Ek (λq=>by rw[I hH P.r,show bF.contains aY=false by simpa using q];rfl) λq=>?_
  have I:=I hH P.r;rw[show bF.contains aY=true by simpa using q,aX rfl]at I;refine Ek (λq=>?_) λq=>Ek (λq2=>?_) λq2=>Ek (λq3=>?_) λq3=>rfl
  ·obtain⟨r,L⟩:=sU.mp q;rw[I,Mz P.r fl hs L];rfl
  ·rw[I,MA (r:=.bl true) P.r fl hs (by simpa using q) (vb q2)];rfl
  ·rw[bW,xr]at q3;rw[I,MB P.r fl hs (by simpa using q) (vb q2) (show some D.d=some _ by rw[eN q3.1]) (by rw[vD,P.g.ia,q3.2];rfl)];rfl
 have a1:bF.contains aY=true:=by simpa using all _ (cB ..)
 have L:D.aT.lookup aY=none:=by simpa using all ((D.aT.lookup aY).isSome,"Known","known") (by simp)
 have a3:=all (D.bw.contains aY,"Barred","barred") (by simp);have a4:=all (decide (D.d="asked")&&!D.asked.contains aY,"NotAsked","not asked") (by simp);obtain⟨A1,YL,f1,q1,le1,x1,m1⟩:=MF (aY:=aY) (c6:="enter") P.m tu (cW (by omega)) (cW (by omega)) (cW (by omega)) (dq (cW (by omega)));have YU:=P.g.rk.enter (aY:=aY) (n:=D.rows.length+1) (r:="guest") L P.g.lt hs (by decide+kernel);have hnm:(fM D.aT aY "guest").map (·.1)=D.aT.map (·.1)++[aY]:=by rw[qG L,g7];rfl
 have pl:=HD (l:=D.aT) (z:=aY) (a:=("guest":Str));have YV:lB (D.stays++[(aY,f1,(D.rows.length+1:Int),none)])=(fM D.aT aY "guest").map (·.1):=by
  unfold lB;rw[List.filter_append,g7,hnm,<-P.g.op];rfl
 obtain⟨A2,dc,dB,q2,M,x2,m2⟩:=zg m1 (uL tu) YU YV (by rw[oJ];exact cW (by omega)) (by rw[oJ];exact dq (cW (by omega))) (cW (by omega));have ol:=M.len;rw[oJ]at ol;refine ri (D':=⟨dc,dB,fM D.ents aY (D.rows.length+1),λz=>if z=aY then D.rows.length+1 else D.ent z,D.stays++[(aY,f1,(D.rows.length+1:Int),none)],D.bw,D.inv.filter λz=>!(z==aY),D.asked.filter λz=>!(z==aY),D.d,D.v,D.p,D.ks,D.kb,YL⟩) P hH Je (MG hM hj q1 q2) ((ik.of x1 (by simp)).trans (ik.of x2 (by simp))) m2 (λk L=>?_) (λMN r2=>?_) ⟨M.jT (P.g.fr.add rfl (by show 3<=10;decide)),M.My YU,YV.trans M.names.symm,Em M λq S=>?_,M.ow,λz=>?_,λz hz=>?_,P.g.bs,λz hz=>P.g.is z (e_.mp hz).1,P.g.nd.sublist List.filter_sublist⟩ ⟨by show dc.length<=_;omega,by show dB.length<=_;omega,?_,by show(D.stays++[_]).length<=_;rw[oJ];omega,by show(D.asked.filter _).length<=_;have:=nH (λz=>!(z==aY)) D.asked;omega,by show D.bw.length<=_;omega,by show(D.inv.filter _).length<=_;have:=nH (λz=>!(z==aY)) D.inv;omega⟩
 ·simp only[bI,cJ,cK]at L⊢;omega
 ·obtain⟨A3,YW,Ux,q3,o3,x3,r3⟩:=Pm (aY:=aY) (d:=D.d) r2 fl P.g.rk P.g.lt (cW (by omega)) (cW (by omega)) (cW (by omega)) hs L (vb a3) rfl (by
   by_cases h9:D.d="asked"
   ·right;rw[vD,P.g.ia];rw[h9]at a4;rw[show D.asked.contains aY=true by simpa using a4];rfl
   ·exact .inl h9)
  obtain⟨rfl,rfl⟩:=M.one o3;rw[Hl]at r3;have I:=I MN r2;rw[a1,aX rfl,q3]at I;exact⟨A3,I,ik.of x3 (by simp),r3⟩
 ·rw[qG L]at S;show(if q.1=aY then(D.rows.length+1:Int)else D.ent q.1)<((D.rows++[gW D.rows aY "enter" []]).length:Int)+1;rw[oJ];rcases dm.mp S with S|S
  ·rw[ba (lookup_none L q S)];have:=P.g.lt q S;omega
  ·cases cQ.mp S;rw[aX rfl];omega
 ·show(D.inv.filter λz=>!(z==aY)).contains z=(D.asked.filter λz=>!(z==aY)).contains z;rw[contains_filter,contains_filter,P.g.ia]
 ·have hz:z∈dB.map (·.1):=hz;rw[M.names,hnm]at hz;rcases dm.mp hz with hz|hz
  ·exact P.g.ns z hz
  ·rw[cQ.mp hz];exact h6
 ·show(fM D.ents aY _).length<=_;have:=HD (l:=D.ents) (z:=aY) (a:=(D.rows.length+1:Int));omega
theorem Py(P:Pr A aM j D t)(hH:cj A bc a9)(hM:fS A bF c7)(hi:a9.lookup c5=some aM)(hj:c7.lookup c5=some j)(hp:∀z,(bc.lookup z).isSome=bF.contains z)(h6:aY∈six)(ht:t<=1000):Res A aM j D t [.str "leave",.str aY,.str c5]:=by
 have tu:=P.g.fr.tu;have hs:=eY h6;have b1:=P.b.b1;have b2:=P.b.b2;have b3:=P.b.b3;have b4:=P.b.b4;have b5:=P.b.b5;have b6:=P.b.b6;have b7:=P.b.b7;have fl:d9 D.rows (dP .str D.aT) (dP .int D.ents) (dP .str (Cm D.d D.v D.p)) (nS D.bw) (nS D.inv):=jR tu;have hr:=Hy (aY:=aY) (c6:="leave") hM P.m hj (.inr (.inr rfl));have I:=λ{A:Ab} (hH:cj A bc a9) (r:RA A aM D.rows D.aT D.ents (Cm D.d D.v D.p) D.bw D.inv)=>(MJ (aY:=aY) (c5:=c5) hH).trans (ME hH hs hi (by rw[r.call (m:="leave") rfl];rfl));simp only[hp]at I;have s2:¬(Str.ofString "leave"=Str.ofString "found"):=by decide+kernel
 have s3:¬(Str.ofString "leave"=Str.ofString "enter"):=by decide+kernel
 refine rh (cs:=[(!bF.contains aY,"NoPerson","no person"),(!(D.aT.lookup aY).isSome,"NotIn","not in")]) (X:=fF [.at 0,.tup [.str "leave",.str aY,.str c5]] A) P (hr.trans ?_) ?_ (by simp) λall Je=>?_
 ·simp only[s2,s3,bZ];cases bF.contains aY<;>cases(D.aT.lookup aY).isSome<;>rfl
 ·refine Ek (λq=>by rw[I hH P.r,show bF.contains aY=false by simpa using q];rfl) λq=>Ek (λL=>?_) λL=>rfl;rw[I hH P.r,show bF.contains aY=true by simpa using q,aX rfl,MC P.r fl hs (by simpa using L)];rfl
 have a1:bF.contains aY=true:=by simpa using all _ (cB ..)
 obtain⟨r,M⟩:∃r,D.aT.lookup aY=some r:=sU.mp (by simpa using all (!(D.aT.lookup aY).isSome,"NotIn","not in") (by simp));have q0:=sP (aY:=aY) (ps:=[.str "leave"]) P.m tu (cW (by omega)) (by show 2+1<=dU;decide) rfl;have x0:=Ext.put (o:=.lst (D.rows++[gW D.rows aY "leave" []])) P.m.rw;have m0:=P.m.DV x0;obtain⟨A1,Hx,q1,le1,x1,m1⟩:=Hw (aY:=aY) (n:=D.rows.length+1) m0 (dq (cW (by omega))) M;have YU:=P.g.rk.leave (aY:=aY);have dl:=nH (λp:Str×Str=>decide (p.1≠aY)) D.aT;have YV:lB (D.stays.map (gw aY (D.rows.length+1)))=(gZ D.aT aY).map (·.1):=by rw[vM,P.g.op,sQ]
 obtain⟨A2,dc,S,L,l,x2,m2⟩:=zg m1 (uL tu) YU YV (by rw[oJ];exact cW (by omega)) (by rw[bt];exact dq (cW (by omega))) (cW (by show(D.aT.filter _).length<_;omega));have le0:=x0.le;have ol:=l.len;rw[oJ]at ol;have ol3:S.length=(D.aT.filter λp=>decide (p.1≠aY)).length:=ol.2.2;refine ri (D':=⟨dc,S,D.ents,D.ent,D.stays.map (gw aY (D.rows.length+1)),D.bw,D.inv,D.asked,D.d,D.v,D.p,Hx,D.kb,D.ka⟩) P hH Je (MH hM hj q0 q1 L) (((ik.of x0 (by simp)).trans (ik.of x1 (by simp))).trans (ik.of x2 (by simp))) m2 (λk M=>?_) (λMN r2=>?_) ⟨l.jT (P.g.fr.add rfl (by show 3<=10;decide)),l.My YU,YV.trans l.names.symm,Em l λq hq=>?_,l.ow,P.g.ia,λz hz=>?_,P.g.bs,P.g.is,P.g.nd⟩ ⟨by show dc.length<=_;omega,by show S.length<=_;omega,by show D.ents.length<=_;omega,by show(D.stays.map _).length<=_;rw[bt];omega,by show D.asked.length<=_;omega,by show D.bw.length<=_;omega,by show D.inv.length<=_;omega⟩
 ·simp only[bI,cJ,cK]at M⊢;omega
 ·obtain⟨A3,YW,Ux,q3,o3,x3,r3⟩:=Pn (aY:=aY) r2 fl P.g.rk (cW (by omega)) (cW (by omega)) hs M;obtain⟨rfl,rfl⟩:=l.one o3;have I:=I MN r2;rw[a1,aX rfl,q3]at I;exact⟨A3,I,ik.of x3 (by simp),r3⟩
 ·have:=P.g.lt q (e_.mp hq).1;show D.ent q.1<((D.rows++[gW D.rows aY "leave" []]).length:Int)+1;rw[oJ];omega
 ·have hz:z∈S.map (·.1):=hz;rw[l.names,sQ]at hz;exact P.g.ns z (e_.mp hz).1
end
section
variable {A A1:Ab}{j t ks kb ka:Nat}{D:Dat}{iv asked:List Str}{ent:Str->Int}{cV val c5 d v p:Str}
def YX(h:RA A aM rows aT ents aO aP iv)(tu:gu rows)(k:dk aT ents ent)(hw:aY.length<=1000)(hl:rows.length<dU)(hc:aO.length<dU):
  lA [.at aM,.str aY,.str cV,.str val] A=fX A (.ok .cu ((A.set (aM+1) (rE rows aY "set" [.str cV,.str val])).set (aM+4) (.bU (dP .str (fM aO cV val))))) [((aT.lookup aY).isNone,"NotIn","not in"),(decide (lH aT aY<2),"NoRight","no right")]:=by
 show cD (iT.1 [.sh (.at aM),.sh (.str aY),.sh (.str cV),.sh (.str val)] A)=_;unfold iT;simp only[ev,cO,eV,fj,h.call (m:="need_in") rfl,Hz h tu hw];refine Ek (λq=>by simp only[q,bX,ev]) λq=>?_
 simp only[q,cE,bZ,ev,cO,eV,fj,h.call (m:="need_keeper") rfl,Pu h tu k hw q];refine Ek (λq=>by simp only[q,bX,ev]) λq=>?_
 have w:=oG (aY:=aY) (c6:="set") (ps:=[.str cV,.str val]) h (jR tu) hl (by show 3+2<=dU;decide) rfl;have h1:=h.sG (Ext.put (o:=rE rows aY "set" [.str cV,.str val]) h.lg);have ep:=kZ (z:=cV) (t:=.str val) (Y:=[.sh (.at aM),.sh (.str aY),.sh (.str cV),.sh (.str val)]) h1.ch (by rw[k_];exact hc);rw[mj]at ep;simp only[q,cE,bZ,ev,cO,eV,fj,h.call (m:="write_row") rfl,xJ,w,kY,h1.O5,ep,fX]
theorem YY(q:cj A bc a9)(hi:a9.lookup c5=some aM)(h:RA A aM rows aT ents aO aP iv)(hw:aY.length<=1000)(hR:lA [.at aM,.str aY,.str cV,.str val] A=fX A (.ok .cu A1) cs):
  fF [.at 0,.tup [.str "arrange",.str aY,.str c5,.str cV,.str val]] A=fX A (.ok .cu A1) ((!(bc.lookup aY).isSome,"NoPerson","no person")::cs):=by
 show cD (fi.1 [.sh (.at 0),.sh (.tup [.str "arrange",.str aY,.str c5,.str cV,.str val]),.no] A)=_;unfold fi;simp only[ev,cO,eV,fj,Cc,cz,cA,sn,String.reduceBEq,bR,q.call (m:="arrange") rfl,Vi];show cD (iU.1 [.sh (.at 0),.sh (.str aY),.sh (.str c5),.sh (.str cV),.sh (.str val)] A)=_;unfold iU;simp only[ev,cO,eV,fj,q.call (m:="place_for") rfl,(xJ (b:=aY)).1,sO q hw hi];cases(bc.lookup aY).isSome with
 |false=>rfl
 |true=>simp only[bX,ev,cO,eV,fj,h.call (m:="arrange") rfl,hR,YN];rfl
theorem Uy(h:bH A j ks kb ka rows bh stays bw asked d v p)(k:dk bh ents ent):eI [aZ 3 A (.at j),.tup [.str "arrange",.str aY,.str c5,.str cV,.str val]]=.ok (fW [(decide (lH bh aY<2),"NoRight","no right")]):=by
 show dG (cT.1 [.sh (aZ 3 A (.at j)),.sh (.tup [.str "arrange",.str aY,.str c5,.str cV,.str val]),.no,.no,.no,.no])=_;unfold cT;have sl:o4 (.ok (.tup [.str "arrange",.str aY,.str c5,.str cV,.str val])) (.ok none) (Ci (.ok (.int 2)))=.ok (.tup [.str "arrange",.str aY]):=rfl;have gt:∀a b Y c e,Ij (gT [2,3]) (.ok (.tup [a,b])) (c::e:: .no:: .no::Y)=.ok (.nx (c::e:: .sh a:: .sh b::Y)):=λ_ _ _ _ _=>rfl;have g:zo (.str "arrange") (.tup [.str "role",.str "out"])=.ok (.bl false):=rfl;have l:zo (.str "arrange") (.tup [.str "out",.str "bar"])=.ok (.bl false):=rfl;cases r:decide (lH bh aY<2)<;>simp only[ev,cO,Cc,Vj,sl,gt,wZ (h.yU (n:=1)) k,g,l,sn,String.reduceBEq,bR,cz,cA,fW,bX,cE,bZ,mP,jx,dv,eO,r]
theorem YZ(h:bH A j ks kb ka rows bh stays bw asked d v p)(f:gu rows)(q:rows.length<dU)(hw:cV="door"\/cV="voice"\/cV="past"):
  ∃A' d' v' p',iy [.at j,.tup [.str "arrange",.str aY,.str c5,.str cV,.str val]] A=.ok .cu A'/\ik A A' (jS j ks kb ka)/\bH A' j ks kb ka (rows++[gW rows aY "set" [.str cV,.str val]]) bh stays bw asked d' v' p'/\fM (Cm d v p) cV val=Cm d' v' p':=by
 have h0:=h.ext (Ext.push (o:=.bU El)) λ_ _=>rfl;have w:=sP (aY:=aY) (ps:=[.str "set",.str cV,.str val]) h0 f q (by show 2+3<=dU;decide) rfl;have h1:=h0.DV (Ext.put (o:=.lst (rows++[gW rows aY "set" [.str cV,.str val]])) h0.rw);have t1:=(ik.push (A:=A) (o:=.bU El) (S:=jS j ks kb ka)).trans (ik.put (o:=(.lst (rows++[gW rows aY "set" [.str cV,.str val]]))) h0.rw (by simp));obtain⟨d',v',p',b,g⟩:∃d' v' p',fM (yT j ks kb ka d v p) cV (.str val)=yT j ks kb ka d' v' p'/\fM (Cm d v p) cV val=Cm d' v' p':=by
  rcases hw with rfl|rfl|rfl
  ·exact⟨val,v,p,rfl,rfl⟩
  ·exact⟨d,val,p,rfl,rfl⟩
  ·exact⟨d,v,val,rfl,rfl⟩
 refine⟨_,d',v',p',?_,t1.trans (ik.put h1.o (by simp)),h1.e_o (Ext.put h1.o),g⟩;show cD (eB.1 [.sh (.at j),.sh (.tup [.str "arrange",.str aY,.str c5,.str cV,.str val]),.no,.no,.no,.no] A)=_;unfold eB;have s1:o4 (.ok (.tup [.str "arrange",.str aY,.str c5,.str cV,.str val])) (.ok none) (Ci (.ok (.int 2)))=.ok (.tup [.str "arrange",.str aY]):=rfl;have s2:o4 (.ok (.tup [.str "arrange",.str aY,.str c5,.str cV,.str val])) (Ci (.ok (.int 3))) (.ok none)=.ok (.tup [.str cV,.str val]):=rfl;have s3:z8 (.ok (.bU El)) (.ok (.str "arrange")) (.ok (.str "arrange"))=.ok (.str "set"):=rfl;have s4:vk (.tup [.str "set"]) (.tup [.str cV,.str val])=.ok (.tup [.str "set",.str cV,.str val]):=rfl;have s5:∀A,sS (.ok (.tup [.str "set",.str cV,.str val])) A=.ok (.tup [.str "set",.str cV,.str val]) A:=λ_=>rfl;have l:zo (.str "arrange") (.tup [.str "out",.str "bar"])=.ok (.bl false):=rfl;simp only[ev,cO,eV,fj,Cc,s1,xJ,YR,nm1,nm2,cz,cA,s2,s3,s4,s5,w,sn,String.reduceBEq,bR,kY,h1.p_o b,l]
theorem Y0(P:Pr A aM j D t)(q:cj A bc a9)(hM:fS A bF c7)(hi:a9.lookup c5=some aM)(hj:c7.lookup c5=some j)(hp:∀z,(bc.lookup z).isSome=bF.contains z)(h6:aY∈six)(hw:cV="door"\/cV="voice"\/cV="past")(ht:t<=1000):Res A aM j D t [.str "arrange",.str aY,.str c5,.str cV,.str val]:=by
 have tu:=P.g.fr.tu;have hs:=eY h6;have b1:=P.b.b1;have b2:=P.b.b2;have b3:=P.b.b3;have b4:=P.b.b4;have b5:=P.b.b5;have b6:=P.b.b6;have b7:=P.b.b7;have hR:=λ{A:Ab} (r:RA A aM D.rows D.aT D.ents (Cm D.d D.v D.p) D.bw D.inv)=>YX (aY:=aY) (cV:=cV) (val:=val) r tu P.g.rk hs (cW (by omega)) (by show 3<dU;decide);have L:=Cd (aY:=aY) (x3:=cV) (c8:=[.str val]) (wh:=false) hM P.m hj (.inl ⟨rfl,rfl⟩) (Uy P.m P.g.rk);have I:=λ{A:Ab} (q:cj A bc a9) r=>YY (c5:=c5) q hi r hs (hR r);simp only[hp]at I;simp only[eO,t9,Bool.and_true]at L;refine rh P L (I q P.r) (by simp) λall M=>?_
 obtain⟨A1,d',v',p',S,t1,m1,ec⟩:=YZ (aY:=aY) (c5:=c5) (val:=val) P.m tu (cW (by omega)) hw;have g:=P.g.row (us:=[.int (D.rows.length+1),.str aY,.str "set",.str cV,.str val]) rfl (by show 5<=10;decide);obtain⟨A2,q2,t2,m2⟩:=w4 m1 g.fr.tu P.g.rk P.g.op P.g.ow (by rw[oJ];exact cW (by omega)) (dq (cW (by omega))) (cW (by omega));refine ri (D':={Dr D aY "set" [.str cV,.str val]with d:=d',v:=v',p:=p'}) P q M (Ce (.inl rfl) hM hj S q2 rfl) (t1.trans (t2 _ _ _)) m2 Kept.refl (λMN l=>⟨_,(I MN l).trans (MK all),?_,?_⟩) g ⟨by show(D.rows++[_]).length<=_;rw[oJ];omega,by show D.aT.length<=_;omega,by show D.ents.length<=_;omega,by show D.stays.length<=_;omega,by show D.asked.length<=_;omega,by show D.bw.length<=_;omega,by show D.inv.length<=_;omega⟩
 ·have n:=l.sG (Ext.put (o:=rE D.rows aY "set" [.str cV,.str val]) l.lg);exact(ik.put l.lg (by simp)).trans (ik.put n.ch (by simp))
 ·have n:=l.sG (Ext.put (o:=rE D.rows aY "set" [.str cV,.str val]) l.lg);rw[ec];exact n.abn (Ext.put n.ch)
end
section
variable {A A1:Ab}{j t ks kb ka:Nat}{D:Dat}{iv asked:List Str}{ent:Str->Int}{c9 val c5 d v p:Str}
def Y1(h:RA A aM rows aT ents aO aP iv)(tu:gu rows)(k:dk aT ents ent)(hw:aY.length<=1000)(hv:c9.length<=1000)(hl:rows.length<dU)(hc:iv.length<dU):
  sM [.at aM,.str aY,.str c9] A=fX A (.ok .cu ((A.set (aM+1) (rE rows aY "ask" [.str c9])).set (aM+6) (.bU (nS (p9 iv c9))))) [((aT.lookup aY).isNone,"NotIn","not in"),(decide (lH aT aY<2),"NoRight","no right"),((aT.lookup c9).isSome,"Known","known")]:=by
 show cD (ou.1 [.sh (.at aM),.sh (.str aY),.sh (.str c9)] A)=_;unfold ou;simp only[ev,cO,eV,fj,h.call (m:="need_in") rfl,Hz h tu hw];refine Ek (λq=>by simp only[q,bX,ev]) λq=>?_
 simp only[q,cE,bZ,ev,cO,eV,fj,h.call (m:="need_keeper") rfl,Pu h tu k hw q];refine Ek (λq=>by simp only[q,bX,ev]) λq=>?_
 have s:=zD (z:=c9) (y:=" is in the room") hv (by decide+kernel);simp only[q,cE,bZ,ev,cO,eV,fj,h.vA (jR tu),dS,ji];refine Ek (λq=>by simp only[q,ev,cO,eV,fj,s]) λq=>?_
 have w:=oG (aY:=aY) (c6:="ask") (ps:=[.str c9]) h (jR tu) hl (by show 3+1<=dU;decide) rfl;have h1:=h.sG (Ext.put (o:=rE rows aY "ask" [.str c9]) h.lg);have ep:=kZ (z:=c9) (t:=.bl true) (Y:=[.sh (.at aM),.sh (.str aY),.sh (.str c9)]) h1.iv (by rw[HC];exact hc);rw[ML]at ep;simp only[q,ev,cO,eV,fj,h.call (m:="write_row") rfl,(xJ (b:=aY)).1,w,kY,h1.YG,ep,fX]
theorem Y2(q:cj A bc a9)(hi:a9.lookup c5=some aM)(h:RA A aM rows aT ents aO aP iv)(hw:aY.length<=1000)(hv:c9.length<=1000)(hR:sM [.at aM,.str aY,.str c9] A=fX A (.ok .cu A1) cs):
  fF [.at 0,.tup [.str "ask",.str aY,.str c5,.str c9]] A=fX A (.ok .cu A1) ((!((bc.lookup aY).isSome&&(bc.lookup c9).isSome),"NoPerson","no person")::cs):=by
 show cD (fi.1 [.sh (.at 0),.sh (.tup [.str "ask",.str aY,.str c5,.str c9]),.no] A)=_;unfold fi;simp only[ev,cO,eV,fj,Cc,cz,cA,sn,String.reduceBEq,bR,q.call (m:="ask") rfl,Vi];show cD (oE.1 [.sh (.at 0),.sh (.str aY),.sh (.str c5),.sh (.str c9)] A)=_;unfold oE;simp only[ev,cO,eV,fj,q.call (m:="place_for") rfl,xJ,qI q hw hv hi];cases((bc.lookup aY).isSome&&(bc.lookup c9).isSome)with
 |false=>rfl
 |true=>simp only[bX,ev,cO,eV,fj,h.call (m:="ask") rfl,hR,YN];rfl
theorem Uz(h:bH A j ks kb ka rows bh stays bw asked d v p)(k:dk bh ents ent):eI [aZ 3 A (.at j),.tup [.str "ask",.str aY,.str c5,.str c9]]=.ok (fW [(decide (lH bh aY<2),"NoRight","no right"),((bh.lookup c9).isSome,"Known","known")]):=by
 show dG (cT.1 [.sh (aZ 3 A (.at j)),.sh (.tup [.str "ask",.str aY,.str c5,.str c9]),.no,.no,.no,.no])=_;unfold cT;have sl:o4 (.ok (.tup [.str "ask",.str aY,.str c5,.str c9])) (.ok none) (Ci (.ok (.int 2)))=.ok (.tup [.str "ask",.str aY]):=rfl;have gt:∀a b Y c e,Ij (gT [2,3]) (.ok (.tup [a,b])) (c::e:: .no:: .no::Y)=.ok (.nx (c::e:: .sh a:: .sh b::Y)):=λ_ _ _ _ _=>rfl;have g:zo (.str "ask") (.tup [.str "role",.str "out"])=.ok (.bl false):=rfl;have l:zo (.str "ask") (.tup [.str "out",.str "bar"])=.ok (.bl false):=rfl;cases r:decide (lH bh aY<2)<;>cases I:(bh.lookup c9).isSome<;>simp only[ev,cO,Cc,Vj,sl,gt,wZ (h.yU (n:=1)) k,g,l,sn,String.reduceBEq,bR,cz,cA,Us,fW,bX,cE,bZ,mP,jx,dv,eO,r,I]
theorem Y3(h:bH A j ks kb ka rows bh stays bw asked d v p)(f:gu rows)(q:rows.length<dU)(ha:asked.length<dU):
  ∃A',iy [.at j,.tup [.str "ask",.str aY,.str c5,.str c9]] A=.ok .cu A'/\ik A A' (jS j ks kb ka)/\bH A' j ks kb ka (rows++[gW rows aY "ask" [.str c9]]) bh stays bw (asked++[c9]) d v p:=by
 have h0:=h.ext (Ext.push (o:=.bU El)) λ_ _=>rfl;have w:=sP (aY:=aY) (ps:=[.str "ask",.str c9]) h0 f q (by show 2+2<=dU;decide) rfl;have h1:=h0.DV (Ext.put (o:=.lst (rows++[gW rows aY "ask" [.str c9]])) h0.rw);have t1:=(ik.push (A:=A) (o:=.bU El) (S:=jS j ks kb ka)).trans (ik.put (o:=(.lst (rows++[gW rows aY "ask" [.str c9]]))) h0.rw (by simp));refine⟨_,?_,t1.trans (ik.put (o:=.lst ((asked++[c9]).map .str)) h1.as (by simp)),h1.abx (Ext.put h1.as)⟩;show cD (eB.1 [.sh (.at j),.sh (.tup [.str "ask",.str aY,.str c5,.str c9]),.no,.no,.no,.no] A)=_;unfold eB;have s1:o4 (.ok (.tup [.str "ask",.str aY,.str c5,.str c9])) (.ok none) (Ci (.ok (.int 2)))=.ok (.tup [.str "ask",.str aY]):=rfl;have s2:o4 (.ok (.tup [.str "ask",.str aY,.str c5,.str c9])) (Ci (.ok (.int 3))) (.ok none)=.ok (.tup [.str c9]):=rfl;have s3:z8 (.ok (.bU El)) (.ok (.str "ask")) (.ok (.str "ask"))=.ok (.str "ask"):=rfl;have s4:vk (.tup [.str "ask"]) (.tup [.str c9])=.ok (.tup [.str "ask",.str c9]):=rfl;have g:zo (.str "ask") (.tup [.str "out",.str "bar"])=.ok (.bl false):=rfl;have b:=yS (t:=.str c9) h1.as (by rw[bt];exact ha);rw[show asked.map Tr.str++[.str c9]=(asked++[c9]).map .str by rw[g7];rfl]at b;simp only[ev,cO,eV,fj,Cc,s1,xJ,YR,nm1,nm2,cz,cA,s2,s3,s4,w,sn,String.reduceBEq,bR,jq,h1.abB,yR h1.as,b,g]
def Y4(P:Pr A aM j D t)(q:cj A bc a9)(hM:fS A bF c7)(hi:a9.lookup c5=some aM)(hj:c7.lookup c5=some j)(hp:∀z,(bc.lookup z).isSome=bF.contains z)(h6:aY∈six)(h7:c9∈six)(ht:t<=1000):Res A aM j D t [.str "ask",.str aY,.str c5,.str c9]:=by
 have tu:=P.g.fr.tu;have hs:=eY h6;have M:=eY h7;have b1:=P.b.b1;have b2:=P.b.b2;have b3:=P.b.b3;have b4:=P.b.b4;have b5:=P.b.b5;have b6:=P.b.b6;have b7:=P.b.b7;have hR:=λ{A:Ab} (r:RA A aM D.rows D.aT D.ents (Cm D.d D.v D.p) D.bw D.inv)=>Y1 (aY:=aY) (c9:=c9) r tu P.g.rk hs M (cW (by omega)) (cW (by omega));have S:=Cd (aY:=aY) (x3:=c9) (c8:=[]) (wh:=true) hM P.m hj (.inr ⟨.inl rfl,rfl⟩) (Uz P.m P.g.rk);have L:=λ{A:Ab} (q:cj A bc a9) r=>Y2 (c5:=c5) q hi r hs M (hR r);simp only[hp]at L;simp only[dv,jk]at S;refine rh P S (L q P.r) (by simp) λall Je=>?_
 obtain⟨A1,q1,t1,m1⟩:=Y3 (aY:=aY) (c5:=c5) (c9:=c9) P.m tu (cW (by omega)) (cW (by omega));have g:=P.g.row (us:=[.int (D.rows.length+1),.str aY,.str "ask",.str c9]) rfl (by show 4<=10;decide);obtain⟨A2,q2,t2,m2⟩:=w4 m1 g.fr.tu P.g.rk P.g.op P.g.ow (by rw[oJ];exact cW (by omega)) (dq (cW (by omega))) (cW (by omega));refine ri (D':={Dr D aY "ask" [.str c9]with inv:=p9 D.inv c9,asked:=D.asked++[c9]}) P q Je (Ce (.inr (.inl rfl)) hM hj q1 q2 rfl) (t1.trans (t2 _ _ _)) m2 Kept.refl (λMN n=>⟨_,(L MN n).trans (MK all),?_,?_⟩) ⟨g.fr,g.rk,g.op,g.lt,g.ow,λz=>?_,g.ns,g.bs,λz hz=>?_,Uv g.nd⟩ ⟨by show(D.rows++[_]).length<=_;rw[oJ];omega,by show D.aT.length<=_;omega,by show D.ents.length<=_;omega,by show D.stays.length<=_;omega,by show(D.asked++[_]).length<=_;rw[oJ];omega,by show D.bw.length<=_;omega,by show(p9 D.inv c9).length<=_;have:=Uw (l:=D.inv) (z:=c9);omega⟩
 ·have I:=n.sG (Ext.put (o:=rE D.rows aY "ask" [.str c9]) n.lg);exact(ik.put n.lg (by simp)).trans (ik.put I.iv (by simp))
 ·have I:=n.sG (Ext.put (o:=rE D.rows aY "ask" [.str c9]) n.lg);exact I.YH (Ext.put I.iv)
 ·show(p9 D.inv c9).contains z=(D.asked++[c9]).contains z;rw[MM,tW,de,de,dm,dm,<-de (as:=D.inv),P.g.ia,de]
 ·rcases Uu hz with h|rfl
  ·exact P.g.is z h
  ·exact h7
end
section
variable {A A1:Ab}{j t ks kb ka:Nat}{D:Dat}{iv asked:List Str}{ent:Str->Int}{c9 val c5 d v p:Str}
def Y5(h:RA A aM rows aT ents aO aP iv)(tu:gu rows)(k:dk aT ents ent)(hw:aY.length<=1000)(hv:c9.length<=1000)(hl:rows.length<dU)(hc:aP.length<dU):
  sN [.at aM,.str aY,.str c9] A=fX A (.ok .cu (((A.set (aM+1) (rE rows aY "bar" [.str c9])).set (aM+5) (.bU (nS (aP++[c9])))).set (aM+2) (.bU (dP .str (gZ aT c9))))) [((aT.lookup aY).isNone,"NotIn","not in"),(decide (lH aT aY<2)||decide (lH aT aY<=lH aT c9),"NoRight","no right"),(aP.contains c9,"Known","known")]:=by
 show cD (oz.1 [.sh (.at aM),.sh (.str aY),.sh (.str c9)] A)=_;unfold oz;simp only[ev,cO,eV,fj,h.call (m:="need_in") rfl,Hz h tu hw];refine Ek (λq=>by simp only[q,bX,ev]) λq=>?_
 simp only[q,cE,bZ,ev,cO,eV,fj,h.call (m:="need_above") rfl,YQ h tu k hw hv q];refine Ek (λq=>by simp only[q,bX,ev]) λq=>?_
 have s:=zD (z:=c9) (y:=" is barred") hv (by decide+kernel);have g:(fc (nS aP) (.inr c9)).isSome=aP.contains c9:=by rw[vD];cases aP.contains c9<;>rfl
 simp only[q,cE,bZ,ev,cO,eV,fj,h.L' (jR tu),g];refine Ek (λq=>by simp only[q,ev,cO,eV,fj,s]) λq=>?_
 have w:=oG (aY:=aY) (c6:="bar") (ps:=[.str c9]) h (jR tu) hl (by show 3+1<=dU;decide) rfl;have h1:=h.sG (Ext.put (o:=rE rows aY "bar" [.str c9]) h.lg);have ep:=kZ (z:=c9) (t:=.bl true) (Y:=[.sh (.at aM),.sh (.str aY),.sh (.str c9)]) h1.bn (by rw[HC];exact hc);rw[ML,show p9 aP c9=aP++[c9] by unfold p9;rw[q];rfl]at ep;have h2:=h1.O7 (Ext.put (o:=.bU (nS (aP++[c9]))) h1.bn);have p:=λx l=>Hg (z:=c9) (x:=x) l h2.rk;rw[wQ]at p;simp only[q,ev,cO,eV,fj,h.call (m:="write_row") rfl,(xJ (b:=aY)).1,w,kY,h1.YF,ep,h2.O4,Hf h2.rk,p,fX]
theorem Y6(q:cj A bc a9)(hi:a9.lookup c5=some aM)(h:RA A aM rows aT ents aO aP iv)(hw:aY.length<=1000)(hv:c9.length<=1000)(hR:sN [.at aM,.str aY,.str c9] A=fX A (.ok .cu A1) cs):
  fF [.at 0,.tup [.str "bar",.str aY,.str c5,.str c9]] A=fX A (.ok .cu A1) ((!((bc.lookup aY).isSome&&(bc.lookup c9).isSome),"NoPerson","no person")::cs):=by
 show cD (fi.1 [.sh (.at 0),.sh (.tup [.str "bar",.str aY,.str c5,.str c9]),.no] A)=_;unfold fi;simp only[ev,cO,eV,fj,Cc,cz,cA,sn,String.reduceBEq,bR,q.call (m:="bar") rfl,Vi];show cD (oF.1 [.sh (.at 0),.sh (.str aY),.sh (.str c5),.sh (.str c9)] A)=_;unfold oF;simp only[ev,cO,eV,fj,q.call (m:="place_for") rfl,xJ,qI q hw hv hi];cases((bc.lookup aY).isSome&&(bc.lookup c9).isSome)with
 |false=>rfl
 |true=>simp only[bX,ev,cO,eV,fj,h.call (m:="bar") rfl,hR,YN];rfl
theorem UA(h:bH A j ks kb ka rows bh stays bw asked d v p)(k:dk bh ents ent):eI [aZ 3 A (.at j),.tup [.str "bar",.str aY,.str c5,.str c9]]=.ok (fW [(decide (lH bh aY<2)||decide (lH bh aY<=lH bh c9),"NoRight","no right"),(bw.contains c9,"Known","known")]):=by
 show dG (cT.1 [.sh (aZ 3 A (.at j)),.sh (.tup [.str "bar",.str aY,.str c5,.str c9]),.no,.no,.no,.no])=_;unfold cT;have sl:o4 (.ok (.tup [.str "bar",.str aY,.str c5,.str c9])) (.ok none) (Ci (.ok (.int 2)))=.ok (.tup [.str "bar",.str aY]):=rfl;have gt:∀a b Y c e,Ij (gT [2,3]) (.ok (.tup [a,b])) (c::e:: .no:: .no::Y)=.ok (.nx (c::e:: .sh a:: .sh b::Y)):=λ_ _ _ _ _=>rfl;have g:zo (.str "bar") (.tup [.str "role",.str "out"])=.ok (.bl false):=rfl;have l:zo (.str "bar") (.tup [.str "out",.str "bar"])=.ok (.bl true):=rfl;cases r:decide (lH bh aY<2)<;>cases I:decide (lH bh aY<=lH bh c9)<;>cases L:bw.contains c9<;>simp only[ev,cO,Cc,Vj,sl,gt,wZ (h.yU (n:=1)) k,g,l,sn,String.reduceBEq,bR,cz,cA,h.Mc (n:=1),wV,fW,bX,cE,bZ,mP,jx,dv,eO,r,I,L]
theorem Y7(h:bH A j ks kb ka rows bh stays bw asked d v p)(f:gu rows)(ho:lB stays=bh.map (·.1))(hl:rows.length<dU)(ha:bw.length<dU)(hs:stays.length<=dU):
  ∃A' Hx,iy [.at j,.tup [.str "bar",.str aY,.str c5,.str c9]] A=.ok .cu A'/\(Hx=ks\/A.length<=Hx)/\ik A A' (jS j ks kb ka)/\bH A' j Hx kb ka (rows++[gW rows aY "bar" [.str c9]]) (gZ bh c9) (stays.map (gw c9 (rows.length+1))) (bw++[c9]) asked d v p:=by
 have h0:=h.ext (Ext.push (o:=.bU El)) λ_ _=>rfl;have w:=sP (aY:=aY) (ps:=[.str "bar",.str c9]) h0 f hl (by show 2+2<=dU;decide) rfl;have h1:=h0.DV (Ext.put (o:=.lst (rows++[gW rows aY "bar" [.str c9]])) h0.rw);have t1:=((ik.push (A:=A) (o:=.bU El) (S:=jS j ks kb ka)).trans (ik.put (o:=.lst (rows++[gW rows aY "bar" [.str c9]])) h0.rw (by simp))).trans (ik.put (o:=.lst ((bw++[c9]).map .str)) h1.br (by simp));have h2:=h1.aby (l':=bw++[c9]) (Ext.put h1.br);show∃A' Hx,cD (eB.1 [.sh (.at j),.sh (.tup [.str "bar",.str aY,.str c5,.str c9]),.no,.no,.no,.no] A)=.ok .cu A'/\_;unfold eB;have s1:o4 (.ok (.tup [.str "bar",.str aY,.str c5,.str c9])) (.ok none) (Ci (.ok (.int 2)))=.ok (.tup [.str "bar",.str aY]):=rfl;have s2:o4 (.ok (.tup [.str "bar",.str aY,.str c5,.str c9])) (Ci (.ok (.int 3))) (.ok none)=.ok (.tup [.str c9]):=rfl;have s3:z8 (.ok (.bU El)) (.ok (.str "bar")) (.ok (.str "bar"))=.ok (.str "bar"):=rfl;have s4:vk (.tup [.str "bar"]) (.tup [.str c9])=.ok (.tup [.str "bar",.str c9]):=rfl;have l:zo (.str "bar") (.tup [.str "out",.str "bar"])=.ok (.bl true):=rfl;have g:=yS (t:=.str c9) h1.br (by rw[bt];exact ha);rw[show bw.map Tr.str++[.str c9]=(bw++[c9]).map .str by rw[g7];rfl]at g;simp only[ev,cO,eV,fj,Cc,s1,xJ,YR,nm1,nm2,cz,cA,s2,s3,s4,w,sn,String.reduceBEq,bR,jq,h1.abA,yR h1.br,g,l,h2.yU (n:=3),dS];cases b:bh.lookup c9 with
 |none=>
  have I:c9∉lB stays:=by
   rw[ho];intro hm;obtain⟨q,L,e⟩:=cI.mp hm;exact lookup_none b q L e
  rw[Jw I,FY b];exact⟨_,ks,rfl,.inl rfl,t1,h2⟩
 |some r=>
  obtain⟨A3,Hx,M,q2,q3,q4⟩:=Hw (aY:=c9) (n:=rows.length+1) h2 hs b;simp only[dE,j7,ev,cO,eV,fj,Cc,M];exact⟨_,Hx,rfl,.inr (cC t1.le q2),t1.trans (ik.of q3 (by simp)),q4⟩
theorem Y8(P:Pr A aM j D t)(q:cj A bc a9)(hM:fS A bF c7)(hi:a9.lookup c5=some aM)(hj:c7.lookup c5=some j)(hp:∀z,(bc.lookup z).isSome=bF.contains z)(h6:aY∈six)(h7:c9∈six)(ht:t<=1000):Res A aM j D t [.str "bar",.str aY,.str c5,.str c9]:=by
 have tu:=P.g.fr.tu;have hs:=eY h6;have M:=eY h7;have b1:=P.b.b1;have b2:=P.b.b2;have b3:=P.b.b3;have b4:=P.b.b4;have b5:=P.b.b5;have b6:=P.b.b6;have b7:=P.b.b7;have hR:=λ{A:Ab} (r:RA A aM D.rows D.aT D.ents (Cm D.d D.v D.p) D.bw D.inv)=>Y5 (aY:=aY) (c9:=c9) r tu P.g.rk hs M (cW (by omega)) (cW (by omega));have S:=Cd (aY:=aY) (x3:=c9) (c8:=[]) (wh:=true) hM P.m hj (.inr ⟨.inr (.inr (.inr (.inl rfl))),rfl⟩) (UA P.m P.g.rk);have L:=λ{A:Ab} (q:cj A bc a9) r=>Y6 (c5:=c5) q hi r hs M (hR r);simp only[hp]at L;simp only[dv,jk]at S;refine rh P S (L q P.r) (by simp) λall Je=>?_
 have lt:lH D.aT c9<lH D.aT aY:=by
  have:=all (decide (lH D.aT aY<2)||decide (lH D.aT aY<=lH D.aT c9),"NoRight","no right") (by simp);simp only[Bool.or_eq_false_iff,decide_eq_false_iff_not]at this;omega
 obtain⟨A1,Hx,q1,le,t1,m1⟩:=Y7 (aY:=aY) (c5:=c5) (c9:=c9) P.m tu P.g.op (cW (by omega)) (cW (by omega)) (dq (cW (by omega)));have g:=(P.g.row (us:=[.int (D.rows.length+1),.str aY,.str "bar",.str c9]) rfl (by show 4<=10;decide)).drop (n:=D.rows.length+1) lt;have dl:=nH (λp:Str×Str=>decide (p.1≠c9)) D.aT;obtain⟨A2,q2,t2,m2⟩:=w4 m1 g.fr.tu g.rk g.op g.ow (by rw[oJ];exact cW (by omega)) (by rw[bt];exact dq (cW (by omega))) (cW (by show(D.aT.filter _).length<_;omega));refine ri (D':={Dr D aY "bar" [.str c9]with aT:=gZ D.aT c9,stays:=D.stays.map (gw c9 (D.rows.length+1)),bw:=D.bw++[c9],ks:=Hx}) P q Je (Ce (.inr (.inr (.inr (.inr (.inl rfl))))) hM hj q1 q2 rfl) (t1.trans (t2 _ _ _)) m2 (λk hk=>?_) (λMN l=>⟨_,(L MN l).trans (MK all),?_,?_⟩) ⟨g.fr,g.rk,g.op,g.lt,g.ow,g.ia,g.ns,λz hz=>?_,g.is,g.nd⟩ ⟨by show(D.rows++[_]).length<=_;rw[oJ];omega,by show(D.aT.filter _).length<=_;omega,by show D.ents.length<=_;omega,by show(D.stays.map _).length<=_;rw[bt];omega,by show D.asked.length<=_;omega,by show(D.bw++[_]).length<=_;rw[oJ];omega,by show D.inv.length<=_;omega⟩
 ·simp only[bI,cJ,cK]at hk⊢;omega
 ·have I:=l.sG (Ext.put (o:=rE D.rows aY "bar" [.str c9]) l.lg);have h2:=I.O7 (Ext.put (o:=.bU (nS (D.bw++[c9]))) I.bn);exact((ik.put l.lg (by simp)).trans (ik.put I.bn (by simp))).trans (ik.put h2.rk (by simp))
 ·have I:=l.sG (Ext.put (o:=rE D.rows aY "bar" [.str c9]) l.lg);have h2:=I.O7 (Ext.put (o:=.bU (nS (D.bw++[c9]))) I.bn);exact h2.O6 (Ext.put h2.rk)
 ·rcases dm.mp hz with hz|hz
  ·exact P.g.bs z hz
  ·rw[cQ.mp hz];exact h7
end
section
variable {A A1:Ab}{j t ks kb ka:Nat}{D:Dat}{iv asked:List Str}{ent:Str->Int}{c9 cV val c5 v p:Str}
def Pz(h:RA A aM rows aT ents aO aP iv)(tu:gu rows)(k:dk aT ents ent)(hw:aY.length<=1000)(hv:c9.length<=1000)(hl:rows.length<dU):
  oA [.at aM,.str aY,.str c9] A=fX A (.ok .cu ((A.set (aM+1) (rE rows aY "unbar" [.str c9])).set (aM+5) (.bU (nS (aP.filter λy=>!(y==c9)))))) [((aT.lookup aY).isNone,"NotIn","not in"),(decide (lH aT aY<2),"NoRight","no right"),(!aP.contains c9,"Known","known")]:=by
 show cD (kn.1 [.sh (.at aM),.sh (.str aY),.sh (.str c9)] A)=_;unfold kn;simp only[ev,cO,eV,fj,h.call (m:="need_in") rfl,Hz h tu hw];refine Ek (λq=>by simp only[q,bX,ev]) λq=>?_
 simp only[q,cE,bZ,ev,cO,eV,fj,h.call (m:="need_keeper") rfl,Pu h tu k hw q];refine Ek (λq=>by simp only[q,bX,ev]) λq=>?_
 have s:=zD (z:=c9) (y:=" is not barred") hv (by decide+kernel);have g:(fc (nS aP) (.inr c9)).isSome=aP.contains c9:=by rw[vD];cases aP.contains c9<;>rfl
 simp only[q,cE,bZ,ev,cO,eV,fj,h.L' (jR tu),g];refine Ek (λq=>by simp only[q,ev,cO,eV,fj,s]) λq=>?_
 have w:=oG (aY:=aY) (c6:="unbar") (ps:=[.str c9]) h (jR tu) hl (by show 3+1<=dU;decide) rfl;have h1:=h.sG (Ext.put (o:=rE rows aY "unbar" [.str c9]) h.lg);have p:=BH (z:=c9) (v:=.bl true) h1.bn (by rw[vD,aX (by simpa using q)]);rw[Hl]at p;simp only[q,ev,cO,eV,fj,h.call (m:="write_row") rfl,(xJ (b:=aY)).1,w,h1.YF,BG h1.bn,p,fX]
theorem PB(q:cj A bc a9)(hi:a9.lookup c5=some aM)(h:RA A aM rows aT ents aO aP iv)(hw:aY.length<=1000)(hv:c9.length<=1000)(hR:oA [.at aM,.str aY,.str c9] A=fX A (.ok .cu A1) cs):
  fF [.at 0,.tup [.str "unbar",.str aY,.str c5,.str c9]] A=fX A (.ok .cu A1) ((!((bc.lookup aY).isSome&&(bc.lookup c9).isSome),"NoPerson","no person")::cs):=by
 show cD (fi.1 [.sh (.at 0),.sh (.tup [.str "unbar",.str aY,.str c5,.str c9]),.no] A)=_;unfold fi;simp only[ev,cO,eV,fj,Cc,cz,cA,sn,String.reduceBEq,bR,q.call (m:="unbar") rfl,Vi];show cD (ky.1 [.sh (.at 0),.sh (.str aY),.sh (.str c5),.sh (.str c9)] A)=_;unfold ky;simp only[ev,cO,eV,fj,q.call (m:="place_for") rfl,xJ,qI q hw hv hi];cases((bc.lookup aY).isSome&&(bc.lookup c9).isSome)with
 |false=>rfl
 |true=>simp only[bX,ev,cO,eV,fj,h.call (m:="unbar") rfl,hR,YN];rfl
theorem MO(h:bH A j ks kb ka rows bh stays bw asked aN v p)(k:dk bh ents ent):eI [aZ 3 A (.at j),.tup [.str "unbar",.str aY,.str c5,.str c9]]=.ok (fW [(decide (lH bh aY<2),"NoRight","no right"),(!bw.contains c9,"Known","known")]):=by
 show dG (cT.1 [.sh (aZ 3 A (.at j)),.sh (.tup [.str "unbar",.str aY,.str c5,.str c9]),.no,.no,.no,.no])=_;unfold cT;have sl:o4 (.ok (.tup [.str "unbar",.str aY,.str c5,.str c9])) (.ok none) (Ci (.ok (.int 2)))=.ok (.tup [.str "unbar",.str aY]):=rfl;have gt:∀a b Y c e,Ij (gT [2,3]) (.ok (.tup [a,b])) (c::e:: .no:: .no::Y)=.ok (.nx (c::e:: .sh a:: .sh b::Y)):=λ_ _ _ _ _=>rfl;have g:zo (.str "unbar") (.tup [.str "role",.str "out"])=.ok (.bl false):=rfl;have l:zo (.str "unbar") (.tup [.str "out",.str "bar"])=.ok (.bl false):=rfl;cases r:decide (lH bh aY<2)<;>cases I:bw.contains c9<;>simp only[ev,cO,Cc,Vj,sl,gt,wZ (h.yU (n:=1)) k,g,l,sn,String.reduceBEq,bR,cz,cA,h.Mc (n:=1),uP,fW,bX,cE,bZ,mP,jx,dv,eO,r,I]
theorem PC(h:bH A j ks kb ka rows bh stays bw asked aN v p)(f:gu rows)(hl:rows.length<dU)(ha:bw.length<=dU):
  ∃A' q,iy [.at j,.tup [.str "unbar",.str aY,.str c5,.str c9]] A=.ok .cu A'/\A.length<=q/\ik A A' (jS j ks kb ka)/\bH A' j ks q ka (rows++[gW rows aY "unbar" [.str c9]]) bh stays (bw.filter λy=>!(y==c9)) asked aN v p:=by
 have h0:=h.ext (Ext.push (o:=.bU El)) λ_ _=>rfl;have w:=sP (aY:=aY) (ps:=[.str "unbar",.str c9]) h0 f hl (by show 2+2<=dU;decide) rfl;have h1:=h0.DV (Ext.put (o:=.lst (rows++[gW rows aY "unbar" [.str c9]])) h0.rw);have t1:=(ik.push (A:=A) (o:=.bU El) (S:=jS j ks kb ka)).trans (ik.put (o:=(.lst (rows++[gW rows aY "unbar" [.str c9]]))) h0.rw (by simp));have h2:=h1.ext (Ext.push (o:=.lst ((bw.filter λy=>!(y==c9)).map .str))) λ_ _=>rfl;refine⟨_,_,?_,t1.le,t1.trans (ik.push.trans (ik.put h2.o (by simp))),h1.abz⟩;show cD (eB.1 [.sh (.at j),.sh (.tup [.str "unbar",.str aY,.str c5,.str c9]),.no,.no,.no,.no] A)=_;unfold eB;have s1:o4 (.ok (.tup [.str "unbar",.str aY,.str c5,.str c9])) (.ok none) (Ci (.ok (.int 2)))=.ok (.tup [.str "unbar",.str aY]):=rfl;have s2:o4 (.ok (.tup [.str "unbar",.str aY,.str c5,.str c9])) (Ci (.ok (.int 3))) (.ok none)=.ok (.tup [.str c9]):=rfl;have s3:z8 (.ok (.bU El)) (.ok (.str "unbar")) (.ok (.str "unbar"))=.ok (.str "unbar"):=rfl;have s4:vk (.tup [.str "unbar"]) (.tup [.str c9])=.ok (.tup [.str "unbar",.str c9]):=rfl;have b:zo (.str "unbar") (.tup [.str "out",.str "bar"])=.ok (.bl false):=rfl;simp only[ev,cO,eV,fj,Cc,s1,xJ,YR,nm1,nm2,cz,cA,s2,s3,s4,w,sn,String.reduceBEq,bR,FD,h1.Mc (n:=3)];rw[nc (AF:=[.sh (.tup [.str "unbar",.str aY,.str c5,.str c9])]) (λz=>!(z==c9)) rfl ha rfl (λ_=>rfl) ?hC]
 case hC=>intro z hz;simp only[ev,Cc,Hk]
 simp only[uO m_,kY,ev,cO,eV,fj,h2.p_o (cV:="barred") rfl,b]
 rfl
def PD(P:Pr A aM j D t)(q:cj A bc a9)(hM:fS A bF c7)(hi:a9.lookup c5=some aM)(hj:c7.lookup c5=some j)(hp:∀z,(bc.lookup z).isSome=bF.contains z)(h6:aY∈six)(h7:c9∈six)(ht:t<=1000):Res A aM j D t [.str "unbar",.str aY,.str c5,.str c9]:=by
 have tu:=P.g.fr.tu;have hs:=eY h6;have M:=eY h7;have b1:=P.b.b1;have b2:=P.b.b2;have b3:=P.b.b3;have b4:=P.b.b4;have b5:=P.b.b5;have b6:=P.b.b6;have b7:=P.b.b7;have hR:=λ{A:Ab} (r:RA A aM D.rows D.aT D.ents (Cm D.d D.v D.p) D.bw D.inv)=>Pz (aY:=aY) (c9:=c9) r tu P.g.rk hs M (cW (by omega));have S:=Cd (aY:=aY) (x3:=c9) (c8:=[]) (wh:=true) hM P.m hj (.inr ⟨.inr (.inr (.inr (.inr rfl))),rfl⟩) (MO P.m P.g.rk);have I:=λ{A:Ab} (q:cj A bc a9) r=>PB (c5:=c5) q hi r hs M (hR r);simp only[hp]at I;simp only[dv,jk]at S;refine rh P S (I q P.r) (by simp) λall Je=>?_
 obtain⟨A1,L,q1,le,t1,m1⟩:=PC (aY:=aY) (c5:=c5) (c9:=c9) P.m tu (cW (by omega)) (dq (cW (by omega)));have g:=P.g.row (us:=[.int (D.rows.length+1),.str aY,.str "unbar",.str c9]) rfl (by show 4<=10;decide);obtain⟨A2,q2,t2,m2⟩:=w4 m1 g.fr.tu P.g.rk P.g.op P.g.ow (by rw[oJ];exact cW (by omega)) (dq (cW (by omega))) (cW (by omega));refine ri (D':={Dr D aY "unbar" [.str c9]with bw:=D.bw.filter λy=>!(y==c9),kb:=L}) P q Je (Ce (.inr (.inr (.inr (.inr (.inr rfl))))) hM hj q1 q2 rfl) (t1.trans (t2 _ _ _)) m2 (λk hk=>?_) (λMN l=>⟨_,(I MN l).trans (MK all),?_,?_⟩) ⟨g.fr,g.rk,g.op,g.lt,g.ow,g.ia,g.ns,λz hz=>g.bs z (e_.mp hz).1,g.is,g.nd⟩ ⟨by show(D.rows++[_]).length<=_;rw[oJ];omega,by show D.aT.length<=_;omega,by show D.ents.length<=_;omega,by show D.stays.length<=_;omega,by show D.asked.length<=_;omega,by show(D.bw.filter _).length<=_;have:=nH (λy=>!(y==c9)) D.bw;omega,by show D.inv.length<=_;omega⟩
 ·simp only[bI,cJ,cK]at hk⊢;omega
 ·have n:=l.sG (Ext.put (o:=rE D.rows aY "unbar" [.str c9]) l.lg);exact(ik.put l.lg (by simp)).trans (ik.put n.bn (by simp))
 ·have n:=l.sG (Ext.put (o:=rE D.rows aY "unbar" [.str c9]) l.lg);exact n.O7 (Ext.put n.bn)
end
section
def Cf{n:Nat}{t:Tr}(h:yl t=true):fG (n+1) [t,t]=.ok (.bl true):=by
 cases t with
 |cu=>rfl
 |bl b=>cases b<;>rfl
 |int k=>show Rs.ok (Tr.bl (k==k))=_;rw[bR]
 |str z=>show Rs.ok (Tr.bl (z==z))=_;rw[bR]
 |_=>cases h
theorem MP{F:bY->Rs Tr}:∀{ts:List Tr} {c d:Cell},(∀t∈ts,F [.sh t,.sh t]=.ok (.bl true))->ES (gT [0,1]) (λ_=>.ok true) F (ts.map λt=>.tup [t,t]) [c,d]=.ok (ts.map λ_=>.bl true)
 |[],_,_,_=>rfl
 |t::ts,c,d,h=>by
  show(NZ (F [.sh t,.sh t])).bind (λy=>(ES (gT [0,1]) (λ_=>.ok true) F (ts.map λt=>.tup [t,t]) [.sh t,.sh t]).bind λys=>Rs.ok (y::ys))=_;rw[h t (cB ..),MP λu b=>h u (cx _ b)]
  rfl
theorem lC{n:Nat}{ts:List Tr}(q:ts.length<=dU)(h:∀t∈ts,fG n [t,t]=.ok (.bl true)):fG (n+1) [.tup ts,.tup ts]=.ok (.bl true):=by
 show dG ((u_ (fG n)).1 [.sh (.tup ts),.sh (.tup ts)])=_;unfold u_;have i1:So [.tup ts,.ty "tuple"]=.ok (.bl true):=rfl;have i2:uz (.bl true)=.ok true:=rfl;have l:∀a b:Int,Nk (.int a) (.int b)=.ok (.bl (!(a==b))):=λ_ _=>rfl;have r:zpW (.ok [.tup ts,.tup ts])=.ok (ts.map λt=>.tup [t,t]):=by
  show(if ts.length<=ts.length then Rs.ok (QC ts ts)else .bad)=_;rw[aX (bu _),DZ]
 have I:vV [none,none] (gT [0,1]) (λ_=>.ok true) (λY=>(d4 (fG n) (yh (ye Y 0) (yh (ye Y 1) (.ok []))))) (.ok (ts.map λt=>.tup [t,t])) [.sh (.tup ts),.sh (.tup ts)]=.ok (.lst (ts.map λ_=>.bl true)):=by
  show(if(ts.map λt=>Tr.tup [t,t]).length<=dU then _ else _)=_;rw[aX (by rw[bt];exact q)];show(ES (gT [0,1]) _ _ _ [.no,.no]).bind _=_;rw[MP λt g=>h t g]
  rfl
 have L:Om [.lst (ts.map λ_=>.bl true)]=.ok (.bl true):=Mg λt g=>by obtain⟨_,_,rfl⟩:=cI.mp g;rfl
 simp only[ev,cO,i1,i2,l,r,bR,dv,I,L]
variable {A:Ab}{i j t:Nat}{D:Dat}{name:Str}
def qJ(h:cj A bc a9)(hi:a9.lookup name=some i):oW [aZ 5 A (.at 0),.str name]=.ok (aZ 3 A (.at i)):=by
 show dG (hW.1 [.sh (aZ 5 A (.at 0)),.sh (.str name)])=_;unfold hW;simp only[ev,cO,h.Ud,dS,hi,dE,j7,dv,ee,l8]
def PH(h:cj A bc a9)(hi:a9.lookup name=some i)(P:Pr A i j D t):wj [aZ 5 A (.at 0),.str name]=.ok (.tup D.rows):=by
 show dG (lX.1 [.sh (aZ 5 A (.at 0)),.sh (.str name)])=_;unfold lX;have e:wg [aZ 3 A (.at i)]=.ok (.tup D.rows):=by
  show dG (lW.1 [.sh (aZ 3 A (.at i))])=_;unfold lW;simp only[ev,cO,P.r.abE (n:=1) P.g.fr.tu,Pa]
 simp only[ev,cO,h.d4 (n:=4) (m:="place") rfl,qJ h hi,P.r.d4 (n:=2) (m:="rows") rfl,e]
def MQ(h:cj A bc a9)(hi:a9.lookup name=some i)(P:Pr A i j D t):u3 [aZ 5 A (.at 0),.str name]=.ok (.tup ((c_ (D.aT.map (·.1))).map λz=>.tup [.str z,.str ((D.aT.lookup z).getD "")])):=by
 show dG (kC.1 [.sh (aZ 5 A (.at 0)),.sh (.str name)])=_;unfold kC;have e:uZ [aZ 3 A (.at i)]=.ok (.tup ((c_ (D.aT.map (·.1))).map λz=>.tup [.str z,.str ((D.aT.lookup z).getD "")])):=by
  show dG (kA.1 [.sh (aZ 3 A (.at i))])=_;unfold kA;simp only[ev,cO,P.r.abF (n:=1) Vh,FH P.g.rk.nd P.g.ns (hX P.g.rk.nd),Pa]
 simp only[ev,cO,h.d4 (n:=4) (m:="place") rfl,qJ h hi,P.r.d4 (n:=2) (m:="roles") rfl,e]
def MR{l:List Str}:(l.map λz=>(z,true)).map (·.1)=l:=by rw[cN];exact jA l
def Jx(h:cj A bc a9)(hi:a9.lookup name=some i)(P:Pr A i j D t)(hb:D.bw.length<64)(hs:∀z∈D.bw,z.length<=1000):rZ [aZ 5 A (.at 0),.str name]=.ok (.tup ((c_ D.bw).map .str)):=by
 show dG (ju.1 [.sh (aZ 5 A (.at 0)),.sh (.str name)])=_;unfold ju;have e:rY [aZ 3 A (.at i)]=.ok (.tup ((c_ D.bw).map .str)):=by
  show dG (jt.1 [.sh (aZ 3 A (.at i))])=_;unfold jt;have s:=q_ (f:=Tr.bl) (l:=D.bw.map λz=>(z,true)) (λp hp=>by obtain⟨z,hz,rfl⟩:=cI.mp hp;exact hs z hz) (by rw[bt];exact hb);rw[MR]at s;simp only[ev,cO,P.r.abH (n:=1) wW,show nU [.bU (nS D.bw)]=_ from s,Pa]
 simp only[ev,cO,h.d4 (n:=4) (m:="place") rfl,qJ h hi,P.r.d4 (n:=2) (m:="barred") rfl,e]
def MS(h:cj A bc a9)(hi:a9.lookup name=some i)(P:Pr A i j D t)(hb:D.inv.length<64)(hs:∀z∈D.inv,z.length<=1000):u4 [aZ 5 A (.at 0),.str name]=.ok (.tup ((c_ D.inv).map .str)):=by
 show dG (kD.1 [.sh (aZ 5 A (.at 0)),.sh (.str name)])=_;unfold kD;have e:u0 [aZ 3 A (.at i)]=.ok (.tup ((c_ D.inv).map .str)):=by
  show dG (kB.1 [.sh (aZ 3 A (.at i))])=_;unfold kB;have s:=q_ (f:=Tr.bl) (l:=D.inv.map λz=>(z,true)) (λp hp=>by obtain⟨z,hz,rfl⟩:=cI.mp hp;exact hs z hz) (by rw[bt];exact hb);rw[MR]at s;simp only[ev,cO,P.r.abI (n:=1) wW,show nU [.bU (nS D.inv)]=_ from s,Pa]
 simp only[ev,cO,h.d4 (n:=4) (m:="place") rfl,qJ h hi,P.r.d4 (n:=2) (m:="asked") rfl,e]
def FZ{cV w:Str}(h:cj A bc a9)(hi:a9.lookup name=some i)(P:Pr A i j D t)(q:(Cm D.d D.v D.p).lookup cV=some w):qE [aZ 5 A (.at 0),.str name,.str cV]=.ok (.str w):=by
 show dG (iW.1 [.sh (aZ 5 A (.at 0)),.sh (.str name),.sh (.str cV)])=_;unfold iW;have e:qD [aZ 3 A (.at i),.str cV]=.ok (.str w):=by
  show dG (iV.1 [.sh (aZ 3 A (.at i)),.sh (.str cV)])=_;unfold iV;simp only[ev,cO,P.r.abG (n:=1) Vh,ee,q,dE,l8]
 simp only[ev,cO,h.d4 (n:=4) (m:="place") rfl,qJ h hi,P.r.d4 (n:=2) (m:="setting") rfl,e]
end
section
variable {A:Ab}{i i' j' t:Nat}{D D' D1 D2:Dat}{ts:List Tr}
def r6(D:Dat)(i aM:Nat):Prop:=∀k∈[D.ks,D.kb,D.ka],(k<i\/i+6<k)/\k≠aM/\k≠aM+1/\k≠aM+2
def Apart(D D':Dat):Prop:=∀k∈[D.ks,D.kb,D.ka],k∉[D'.ks,D'.kb,D'.ka]
def Apart.symm (h:Apart D D'):Apart D' D:=λk b q=>h k q b
def far(q:(i=7/\aM=16/\i'=27/\j'=36)\/(i=27/\aM=36/\i'=7/\j'=16)){k:Nat}(hk:(i<=k/\k<=i+6)\/k=aM\/k=aM+1\/k=aM+2):(k<i'\/i'+6<k)/\k≠j'/\k≠j'+1/\k≠j'+2:=by
 rcases q with⟨rfl,rfl,rfl,rfl⟩|⟨rfl,rfl,rfl,rfl⟩<;>refine⟨?_,?_,?_,?_⟩<;>omega
def r6.ne (c:r6 D i aM){k q:Nat}(hk:(i<=k/\k<=i+6)\/k=aM\/k=aM+1\/k=aM+2)(hq:q∈[D.ks,D.kb,D.ka]):k≠q:=λe=>by
 subst e;have c:=c k hq;rcases hk with h|h|h|h
 ·rcases c.1 with z|z
  ·exact Nat.not_le_of_lt z h.1
  ·exact Nat.not_le_of_lt z h.2
 ·exact c.2.1 h
 ·exact c.2.2.1 h
 ·exact c.2.2.2 h
def MT(A_:(i=7/\aM=16/\i'=27/\j'=36)\/(i=27/\aM=36/\i'=7/\j'=16))(hH:cj A bc a9)(hM:fS A bF c7)(R1:Pr A i aM D t)(R2:Pr A i' j' D' t)(c1:r6 D i' j')(c2:r6 D' i aM)(ap:Apart D D')(res:Res A i aM D t ts):
  ∃A' D1,jK [.at 0,.at 4,.tup ts] A=.ok (.bl true) A'/\cj A' bc a9/\fS A' bF c7/\Pr A' i aM D1 (t+1)/\Pr A' i' j' D' (t+1)/\r6 D1 i' j'/\r6 D' i aM/\Apart D1 D':=by
 obtain⟨A',D1,e,x,P1,kp⟩:=res;have hi:=R1.hi;have g:∀k∈touched i aM D,6<k:=λk b=>by
  rcases dm.mp b with b|b
  ·simp only[bI,cJ,cK]at b;omega
  ·exact(R1.dj k b).1
 have l1:=gb R2.m.st;have l2:=gb R2.m.br;have I:=gb R2.m.as;have L:=gb R2.m.rl;have M:=gb R2.r.iv;refine⟨A',D1,e,cj.kp hH x g,fS.kp hM x g,P1,R2.kp x λk b=>?_,λk q=>?_,c2,λk q=>?_⟩
 ·have go:∀k,((i<=k/\k<=i+6)\/k=aM\/k=aM+1\/k=aM+2)->(k<i'\/i'+6<k)/\k∉jS j' D'.ks D'.kb D'.ka:=λk b=>by
   have f:=far A_ b;have n:=λq (l:q∈[D'.ks,D'.kb,D'.ka])=>c2.ne b l;refine⟨f.1,λm=>?_⟩;simp only[bI,cJ,cK]at m n;rcases m with m|m|m|m
   ·exact f.2.1 m
   ·exact f.2.2.1 m
   ·exact f.2.2.2 m
   ·exact n k m rfl
  rcases dm.mp b with b|b
  ·refine go k (.inl ?_)
   clear go A_
   simp only[bI,cJ,cK]at b;rcases b with rfl|b<;>first|exact⟨bu _,mK _ 6⟩|omega
  ·have:k=aM\/k=aM+1\/k=aM+2\/k∈[D.ks,D.kb,D.ka]:=by simpa using b
   rcases this with h|h|h|h
   ·exact go k (.inr (.inl h))
   ·exact go k (.inr (.inr (.inl h)))
   ·exact go k (.inr (.inr (.inr h)))
   ·have f:=c1 k h;refine⟨f.1,λm=>?_⟩;have a:=ap k h;simp only[bI,cJ,cK]at m a;rcases m with m|m|m|m
    ·exact f.2.1 m
    ·exact f.2.2.1 m
    ·exact f.2.2.2 m
    ·exact a m
 ·rcases kp k q with q|q
  ·exact c1 k q
  ·omega
 ·rcases kp k q with q|q
  ·exact ap k q
  ·simp only[bI,cJ,cK,kP];omega
structure Sta(A:Ab)(t:Nat)(bc:List (Str×Bool))(bF:List Str)(D1 D2:Dat):Prop where
 h:cj A bc [("hall",7),("yard",27)]
 m:fS A bF [("hall",16),("yard",36)]
 pp:bc.map (·.1)=bF
 pl:bF.length<=5+t
 p6:∀z∈bF,z∈six
 r1:Pr A 7 16 D1 t
 r2:Pr A 27 36 D2 t
 c1:r6 D1 27 36
 c2:r6 D2 7 16
 ap:Apart D1 D2
def St(A:Ab)(t:Nat):Prop:=∃bc bF D1 D2,Sta A t bc bF D1 D2
theorem zh{α:Type}{z:Str}:∀{l:List (Str×α)},(l.lookup z).isSome=(l.map (·.1)).contains z
 |[]=>rfl
 |q::l=>by
  rw[cP,bB,List.contains_cons];cases e:(z==q.1)with
  |true=>rfl
  |false=>rw[jk];exact zh
def St.go {f:Str->List Tr}(h:St A t)(S:∀{i aM D bc a9 bF c7 c5},Pr A i aM D t->cj A bc a9->fS A bF c7->a9.lookup c5=some i->c7.lookup c5=some aM->(∀z,(bc.lookup z).isSome=bF.contains z)->Res A i aM D t (f c5)){c5:Str}(q:c5="hall"\/c5="yard"):
  ∃A',jK [.at 0,.at 4,.tup (f c5)] A=.ok (.bl true) A'/\St A' (t+1):=by
 obtain⟨bc,bF,D1,D2,s⟩:=h;have hp:∀aY,(bc.lookup aY).isSome=bF.contains aY:=λaY=>by rw[zh,s.pp]
 have I:=s.pl;rcases q with rfl|rfl
 ·obtain⟨A',D',e,a1,a2,b,g,l,n,r⟩:=MT (.inl ⟨rfl,rfl,rfl,rfl⟩) s.h s.m s.r1 s.r2 s.c1 s.c2 s.ap (S (c5:="hall") s.r1 s.h s.m (by decide+kernel) (by decide+kernel) hp);exact⟨A',e,bc,bF,D',D2,a1,a2,s.pp,by omega,s.p6,b,g,l,n,r⟩
 ·obtain⟨A',D',e,a1,a2,b,g,l,n,r⟩:=MT (.inr ⟨rfl,rfl,rfl,rfl⟩) s.h s.m s.r2 s.r1 s.c2 s.c1 s.ap.symm (S (c5:="yard") s.r2 s.h s.m (by decide+kernel) (by decide+kernel) hp);exact⟨A',e,bc,bF,D1,D',a1,a2,s.pp,by omega,s.p6,g,b,n,l,r.symm⟩
end
theorem AM:∀{xs ss:List Str} {z:Str},z∈eW ss xs↔z∈ss\/z∈xs
 |[],ss,z=>by simp[eW]
 |x::xs,ss,z=>by
  show z∈eW (gU ss x) xs↔_;rw[AM,bI];unfold gU;split
  ·rename_i h;exact⟨λq=>q.elim .inl λq=>.inr (.inr q),λq=>q.elim .inl λq=>q.elim (λe=>.inl (e▸h)) .inr⟩
  ·rw[dm,cQ,or_assoc]
theorem AN:∀{xs ss:List Str},ss.Nodup->(eW ss xs).Nodup
 |[],_,h=>h
 |x::xs,ss,h=>by
  show(eW (gU ss x) xs).Nodup;refine AN ?_
  unfold gU;split
  ·exact h
  ·rename_i q;refine tL.mpr ⟨h,xg _ _,λa g b hb e=>q ?_⟩;rw[cQ.mp hb]at e;exact e▸g
section
variable {A:Ab}{t:Nat}{D1 D2:Dat}
def ne_str:Nk (.str aN) (.str aN)=.ok (.bl false):=by show Rs.ok (Tr.bl (!(aN==aN)))=_;rw[bR];rfl
def UB(s:Sta A t bc bF D1 D2){G K:bY->Rs Out}
  (q:∀{i j:Nat} {D:Dat} {name:Str} {c3 c4:Cell},([("hall",7),("yard",27)]:List (Str×Nat)).lookup name=some i->([("hall",16),("yard",36)]:List (Str×Nat)).lookup name=some j->Pr A i j D t->∃a b,G [.sh (aZ 5 A (.at 0)),.sh (aZ 5 A (.at 4)),.sh (.str name),c3,c4,.no]=.ok (.nx [.sh (aZ 5 A (.at 0)),.sh (aZ 5 A (.at 4)),.sh (.str name),a,b,.no]))
  (hK:∀a b,dG (K [.sh (aZ 5 A (.at 0)),.sh (aZ 5 A (.at 4)),.sh (.str "yard"),a,b,.no])=.ok (.bl true)):
  dG (CV (Gu (gN 2) G (K2 (Kv jM (ye [.sh (aZ 5 A (.at 0)),.sh (aZ 5 A (.at 4)),.no,.no,.no,.no] 1) (Rs.ok (.str "rooms")))) [.sh (aZ 5 A (.at 0)),.sh (aZ 5 A (.at 4)),.no,.no,.no,.no]) K)=.ok (.bl true):=by
 have g:=wR (f:=λj=>aZ 3 A (.at j)) (l:=[("hall",16),("yard",36)]) (λp hp=>(by decide+kernel:∀p∈([("hall",16),("yard",36)]:List (Str×Nat)),p.1.length<=1000) p hp);have r:K2 (.ok (.bU (dP (λj=>aZ 3 A (.at j)) [("hall",16),("yard",36)])))=.ok [.str "hall",.str "yard"]:=g;obtain⟨a1,b1,I⟩:=q (name:="hall") (c3:=.no) (c4:=.no) (by decide+kernel) (by decide+kernel) s.r1;obtain⟨a2,b2,L⟩:=q (name:="yard") (c3:=a1) (c4:=b1) (by decide+kernel) (by decide+kernel) s.r2;simp only[ev,cO,s.m.Mf (n:=3),r,Pa,FD,cz,cA,I,L,hK]
def rj{l:List Str}{n:Nat}(q:l.length<=1000):fG (n+2) [.tup ((c_ l).map .str),.tup ((c_ l).map .str)]=.ok (.bl true):=lC (by rw[bt,(eL _).length_eq];exact dq (cW (by omega))) λu b=>by
 obtain⟨z,_,rfl⟩:=cI.mp b;exact Cf rfl
theorem Y9(s:Sta A t bc bF D1 D2)(ht:t<=50):AL [aZ 5 A (.at 0),aZ 5 A (.at 4)]=.ok (.bl true):=by
 show dG (vL.1 [.sh (aZ 5 A (.at 0)),.sh (aZ 5 A (.at 4)),.no,.no,.no,.no])=_;refine UB s (λ{i j D name c3 c4} hi M P=>?_) λa b=>?_
 ·have b1:=P.b.b1;have b2:=P.b.b2;have b5:=P.b.b5;have b6:=P.b.b6;have b7:=P.b.b7;have hs:=q_ (f:=Tr.str) (l:=D.aT) P.g.rk.sh (by omega);have tt:uz (.bl true)=.ok true:=rfl;simp only[ev,cO,s.m.Mf (n:=3),ee,M,dE,l8,cz,cA,P.m.yU (n:=1),hs,FD];rw[lT (AF:=[.sh (aZ 3 A (.at j))]) (λ_=>true) Tr.str (λz=>.tup [.str z,.str ((D.aT.lookup z).getD "")]) (by rfl) (by rw[(eL _).length_eq,bt];exact dq (cW (by omega))) rfl (λ_ _=>rfl) ?hF]
  case hF=>
   intro z hz _;obtain⟨q,S,rfl⟩:=cI.mp ((eL _).mem_iff.mp hz);simp only[ev,cO,P.m.yU (n:=1),ee,hX P.g.rk.nd q S,dE,l8,pw]
  rw[show∀l:List Str,l.filter (λ_=>true)=l from λl=>mD.mpr λ_ _=>rfl];have I:fG 5 [.tup [.tup D.rows,.tup ((c_ (D.aT.map (·.1))).map λz=>.tup [.str z,.str ((D.aT.lookup z).getD "")])],.tup [.tup D.rows,.tup ((c_ (D.aT.map (·.1))).map λz=>.tup [.str z,.str ((D.aT.lookup z).getD "")])]]=.ok (.bl true):=by
   refine lC (by show 2<=dU;decide) λu r=>?_
   simp only[bI,cJ,cK]at r;rcases r with rfl|rfl
   ·refine lC (dq (cW (by omega))) λu r=>?_
    obtain⟨us,rfl,hf,h10⟩:=P.g.fr u r;exact lC (dq (cW (by omega))) λw hw=>Cf (dD.mp hf w hw)
   ·refine lC (by rw[bt,(eL _).length_eq,bt];exact dq (cW (by omega))) λu r=>?_
    obtain⟨z,_,rfl⟩:=cI.mp r;refine lC (by show 2<=dU;decide) λw hw=>?_
    simp only[bI,cJ,cK]at hw;rcases hw with rfl|rfl<;>exact Cf rfl
  have L:=Jx s.h hi P (by omega) λz hz=>eY (P.g.bs z hz);have has:=MS s.h hi P (by omega) λz hz=>eY (P.g.is z hz);have so:=AG (ss:=D.bw) (by omega);have ss:qa (.lst (D.asked.map .str))=.ok (.lst ((c_ D.inv).map .str)):=by
   show(match oP (D.asked.map .str)with|some ss=>if ss.length<64 then Rs.ok (Tr.lst ((c_ (eW [] ss)).map .str))else .bad|none=>.bad)=_;rw[vF];show(if D.asked.length<64 then Rs.ok (Tr.lst ((c_ (eW [] D.asked)).map .str))else .bad)=_;rw[aX (by omega),Dt ((List.perm_ext_iff_of_nodup (AN xG) P.g.nd).mpr λz=>?_)];rw[AM,<-de (as:=D.inv),P.g.ia,de];simp
  simp only[ev,cO,Pa,cz,cA,s.h.d4 (n:=4) (m:="rows") rfl,s.h.d4 (n:=4) (m:="roles") rfl,s.h.d4 (n:=4) (m:="barred") rfl,s.h.d4 (n:=4) (m:="asked") rfl,PH s.h hi P,MQ s.h hi P,P.m.Ue (n:=1) P.g.fr.tu,I,tt,dv,L,P.m.Mc (n:=1),so,rj (l:=D.bw) (n:=3) (by omega),has,P.m.Ug (n:=1),ss,rj (l:=D.inv) (n:=3) (by omega)];rw[lT (AF:=[.sh (.str name),.sh (aZ 3 A (.at j)),.sh (aZ 5 A (.at 0))]) (λ_=>false) Tr.str (λ_=>.cu) (xs:=["door","voice","past"]) (by rfl) (by show 3<=dU;decide) rfl ?hC (λ_ _ e=>by cases e)]
  case hC=>
   intro z hz;have:z="door"\/z="voice"\/z="past":=by simpa using hz
   rcases this with rfl|rfl|rfl
   ·simp only[ev,cO,s.h.d4 (n:=4) (m:="setting") rfl,FZ (cV:="door") (w:=D.d) s.h hi P rfl,P.m.a_d (n:=2),ne_str]
   ·simp only[ev,cO,s.h.d4 (n:=4) (m:="setting") rfl,FZ (cV:="voice") (w:=D.v) s.h hi P rfl,P.m.a_v (n:=2),ne_str]
   ·simp only[ev,cO,s.h.d4 (n:=4) (m:="setting") rfl,FZ (cV:="past") (w:=D.p) s.h hi P rfl,P.m.a_p (n:=2),ne_str]
  exact⟨_,_,rfl⟩
 ·have hp:bc.length<64:=by have:=s.pl;have h2:=dh List.length s.pp;rw[bt]at h2;omega
  have sh:∀p∈bc,p.1.length<=1000:=λp hp=>eY (s.p6 p.1 (by rw[<-s.pp];exact gz hp));have s1:=q_ (f:=Tr.bl) sh hp;have s2:=AG (ss:=bF) (by have:=s.pl;omega);rw[s.pp]at s1;have s3:=q_ (f:=λj=>aZ 3 A (.at j)) (l:=[("hall",7),("yard",27)]) (λp hp=>(by decide+kernel:∀p∈([("hall",7),("yard",27)]:List (Str×Nat)),p.1.length<=1000) p hp) (by decide);have s4:nU [.bU (dP (λj=>aZ 3 A (.at j)) [("hall",16),("yard",36)])]=.ok (.lst ((c_ ["hall","yard"]).map .str)):=q_ (f:=λj=>aZ 3 A (.at j)) (l:=[("hall",16),("yard",36)]) (λp hp=>(by decide+kernel:∀p∈([("hall",16),("yard",36)]:List (Str×Nat)),p.1.length<=1000) p hp) (by decide);have e1:rX [aZ 5 A (.at 0)]=.ok (.tup ((c_ bF).map .str)):=by
   show dG (js.1 [.sh (aZ 5 A (.at 0))])=_;unfold js;simp only[ev,cO,s.h.O8,s1,Pa]
  have e2:uY [aZ 5 A (.at 0)]=.ok (.tup ((c_ ["hall","yard"]).map .str)):=by
   show dG (kz.1 [.sh (aZ 5 A (.at 0))])=_;unfold kz;simp only[ev,cO,s.h.Ud,s3,Pa]
   rfl
  have I:fG 5 [.tup [.tup ((c_ ["hall","yard"]).map .str),.tup ((c_ bF).map .str)],.tup [.tup ((c_ ["hall","yard"]).map .str),.tup ((c_ bF).map .str)]]=.ok (.bl true):=by
   refine lC (by show 2<=dU;decide) λu r=>?_
   simp only[bI,cJ,cK]at r;rcases r with rfl|rfl
   ·exact rj (n:=2) (by decide)
   ·exact rj (n:=2) (by have:=s.pl;omega)
  simp only[ev,cO,Pa,FD,cz,cA,s.m.Mf (n:=3),s.m.Uk (n:=3),s4,s2,s.h.d4 (n:=4) (m:="rooms") rfl,s.h.d4 (n:=4) (m:="people") rfl,e1,e2,I]
end
def mix(c p m:Int):Int:=(c*48271 % p)*(c*48271 % p+7) % p % m
def Cg{c p m:Int}(hm:0<m):0<=mix c p m/\mix c p m<m:=⟨xC _ (by omega),Int.emod_lt_of_pos _ hm⟩
def UC{i j:Int}(h:yi i j):Ip (.int i) (.int j)=.ok (.int (i*j)):=aX h
def UD{i j:Int}(h:0<j):Io (.int i) (.int j)=.ok (.int (i % j)):=aX h
def Y_(c p m:Int)(hp:0<p)(q:p<=1048576)(hm:0<m):Hr [.int c,.int p,.int m]=.ok (.int (mix c p m)):=by
 have r:0<=c*48271 % p:=xC _ (by omega);have I:c*48271 % p<p:=Int.emod_lt_of_pos _ hp;show dG (wY.1 [.sh (.int c),.sh (.int p),.sh (.int m),.no])=_;unfold wY;have b:Ip (.int c) (.int 48271)=.ok (.int (c*48271)):=aX (.inr ⟨by decide,by decide⟩);have g:∀a,Io (.int a) (.int p)=.ok (.int (a % p)):=λa=>aX hp;have l:Ip (.int (c*48271 % p)) (.int (c*48271 % p+7))=.ok (.int ((c*48271 % p)*(c*48271 % p+7))):=aX (.inl ⟨by omega,by omega⟩);have n:∀a,Io (.int a) (.int m)=.ok (.int (a % m)):=λa=>aX hm;simp only[ev,cO,b,g,l,n,cz,cA,mix]
def UE(ns:List Int)(k:Int)(h:0<=k):∃c,Eb [.vR ns,.int k]=.ok (.int c):=by
 show∃c,dG (CV (U3 (.ok (decide (k<(ns.length:Int)))) (KA ((l8 (L2.vi ns k)).bind λn=>.ok (.int n))) (.ok (.nx [.sh (.vR ns),.sh (.int k)]))) λY=>KA (Rs.ok (.int 0)))=_;by_cases b:k<(ns.length:Int)
 ·have g:k.toNat<ns.length:=by omega
  have e:L2.vi ns k=some (ns[k.toNat]):=by
   have q:=A6 (xs:=ns) (j:=k.toNat) (b_ g);rw[Int.toNat_of_nonneg h]at q;exact q
  rw[gB b,e];exact⟨_,rfl⟩
 ·rw[fJ b];exact⟨0,rfl⟩
def MU{l:List Tr}{k:Int}(h0:0<=k)(h1:k<l.length):∃t∈l,jM (.tup l) (.int k)=.ok t/\jM (.lst l) (.int k)=.ok t:=by
 have b:k.toNat<l.length:=by omega
 have q:=A6 (xs:=l) (j:=k.toNat) (b_ b);rw[Int.toNat_of_nonneg h0]at q;exact⟨l[k.toNat],kL _,by show l8 (L2.vi l k)=_;rw[q];rfl,by show l8 (L2.vi l k)=_;rw[q];rfl⟩
def Y'{l:List Str}{k:Int}(h0:0<=k)(q:k<l.length):∃z∈l,jM (.tup (l.map .str)) (.int k)=.ok (.str z):=by
 obtain⟨t,b,e,_⟩:=MU (l:=l.map .str) h0 (by rw[bt];exact q);obtain⟨z,hz,rfl⟩:=cI.mp b;exact⟨z,hz,e⟩
noncomputable abbrev PK:List Str:=["ann","bo","cy","dee","ed"]
noncomputable abbrev three:List Str:=["ann","bo","zed"]
noncomputable abbrev rms:List Str:=["hall","hall","hall","yard"]
noncomputable abbrev sets:List Tr:=[.tup [.str "door",.str "open"],.tup [.str "door",.str "asked"],.tup [.str "voice",.str "all"],.tup [.str "voice",.str "some"],.tup [.str "past",.str "shown"],.tup [.str "past",.str "hidden"]]
inductive oK(ws:List Str):List Tr->Prop
 |Za {aY:Str}:("come":Str)∈ws->aY∈six->oK ws [.str "come",.str aY]
 |one {c6 aY c5:Str}:(c6="found"\/c6="enter"\/c6="leave")->c6∈ws->aY∈six->(c5="hall"\/c5="yard")->oK ws [.str c6,.str aY,.str c5]
 |arr {aY c5 cV val:Str}:("arrange":Str)∈ws->aY∈six->(c5="hall"\/c5="yard")->(cV="door"\/cV="voice"\/cV="past")->oK ws [.str "arrange",.str aY,.str c5,.str cV,.str val]
 |role {aY c5 c9 r:Str}:("role":Str)∈ws->aY∈six->(c5="hall"\/c5="yard")->c9∈six->r∈oH->oK ws [.str "role",.str aY,.str c5,.str c9,.str r]
 |two {c6 aY c5 c9:Str}:(c6="ask"\/c6="out"\/c6="bar"\/c6="unbar")->c6∈ws->aY∈six->(c5="hall"\/c5="yard")->c9∈six->oK ws [.str c6,.str aY,.str c5,.str c9]
noncomputable abbrev ten:List Str:=["come","found","enter","leave","arrange","role","ask","out","bar","unbar"]
def UG{b:Bool}{x y:Rs Out}{K:bY->Rs Out}{P:Rs Tr->Prop}(h:∀r,r=x\/r=y->P (dG (CV r K))):P (dG (CV (U3 (.ok b) x y) K)):=by
 cases b
 ·exact h y (.inr rfl)
 ·exact h x (.inl rfl)
theorem UH{ws:List Str}(q:∀w∈ws,w∈ten)(hl:0<ws.length)(c:Int)(T:Tr):∃ts,Ef [.int c,T,.tup (ws.map .str)]=.ok (.tup ts)/\oK ws ts:=by
 show∃ts,dG (u9.1 [.sh (.int c),.sh T,.sh (.tup (ws.map .str)),.no,.no,.no,.no,.no,.no,.no,.no,.no])=.ok (.tup ts)/\_;unfold u9;have g:=λp m (hp:0<p) (NI:p<=1048576) (hm:0<m)=>Y_ c p m hp NI hm;simp only[ev,cO,g 9931 20 (by decide) (by decide) (by decide),cz,cA];refine UG (P:=λr=>∃ts,r=.ok (.tup ts)/\oK ws ts) λr h=>?_
 obtain⟨l,h0,S,rfl⟩:∃l:List Str,(0:Int)<l.length/\(∀z∈l,z∈six)/\r=.ok (.nx [.sh (.int c),.sh T,.sh (.tup (ws.map .str)),.sh (.tup (l.map .str)),.no,.no,.no,.no,.no,.no,.no,.no]):=by
  rcases h with rfl|rfl
  ·exact⟨three,by decide,by decide+kernel,rfl⟩
  ·exact⟨PK,by decide,by decide+kernel,rfl⟩
 have hm:(0:Int)<ws.length:=by omega
 have k4:∀l:List Str,((l.map Tr.str).length:Int)=l.length:=λl=>by rw[bt]
 have n:=λ{l:List Str} {p m:Int} (hm:0<m) (hl:m=l.length)=>Y' (l:=l) (Cg (c:=c) (p:=p) hm).1 (hl▸(Cg hm).2);obtain⟨c5,hr,er⟩:=n (l:=rms) (p:=9907) (m:=4) (by decide) rfl;obtain⟨c6,hw,ew⟩:=n (l:=ws) (p:=9901) (m:=ws.length) hm rfl;obtain⟨aY,g3,e3⟩:=n (l:=l) (p:=9929) (m:=l.length) h0 rfl;obtain⟨c9,g4,e4⟩:=n (l:=l) (p:=9923) (m:=l.length) h0 rfl;obtain⟨rl,M,e7⟩:=n (l:=oH) (p:=9883) (m:=4) (by decide) rfl;obtain⟨st,cH,_,e8⟩:=MU (l:=sets) (Cg (c:=c) (p:=9887) (m:=6) (by decide)).1 (by exact(Cg (by decide)).2);have L:c5="hall"\/c5="yard":=by simpa using hr
 have I:=S aY g3;have h4:=S c9 g4;have QZ:=q c6 hw;simp only[bI,cJ,cK]at QZ cH;simp only[bB,mO]at er e7;have ni:zo (.str "arrange") (.tup [.str "come",.str "found",.str "enter",.str "leave"])=.ok (.bl false)/\zo (.str "role") (.tup [.str "come",.str "found",.str "enter",.str "leave"])=.ok (.bl false):=⟨rfl,rfl⟩;have l3:∀a b c,CU (.ok [a,b,c])=.ok (.lst [a,b,c]):=λ_ _ _=>rfl;have a3:vk (.lst [.tup [.str "door",.str "open"],.tup [.str "door",.str "asked"],.tup [.str "voice",.str "all"]]) (.lst [.tup [.str "voice",.str "some"],.tup [.str "past",.str "shown"],.tup [.str "past",.str "hidden"]])=.ok (.lst sets):=rfl;simp only[ev,cO,k4,g 9929 l.length (by decide) (by decide) h0,g 9923 l.length (by decide) (by decide) h0,g 9907 4 (by decide) (by decide) (by decide),g 9901 ws.length (by decide) (by decide) hm,e3,e4,er,ew,cz,cA];rcases QZ with rfl|rfl|rfl|rfl|rfl|rfl|rfl|rfl|rfl|rfl
 all_goals first
  |exact⟨_,rfl,.Za hw I⟩
  |exact⟨_,rfl,.one (by simp) hw I L⟩
  |exact⟨_,rfl,.two (by simp) hw I L h4⟩
  |skip
 all_goals simp only[ev,cO,sn,String.reduceBEq,bR,ni,g 9887 6 (by decide) (by decide) (by decide),g 9883 4 (by decide) (by decide) (by decide),e7,l3,a3,e8,cz,cA]
 all_goals first
  |exact⟨_,rfl,.role hw I L h4 M⟩
  |(rcases cH with rfl|rfl|rfl|rfl|rfl|rfl<;>exact⟨_,rfl,.arr hw I L (by simp)⟩)
noncomputable abbrev F0:List (Str×Str):=[("ann","owner"),("bo","guest"),("cy","guest")]
noncomputable abbrev MV:List (Str×Int):=[("ann",1),("bo",2),("cy",3)]
noncomputable abbrev MW:List nX:=[("ann",1,1,none),("bo",1,2,none),("cy",1,3,none)]
noncomputable abbrev MX:List Tr:=[.tup [.int 1,.str "ann",.str "found"],.tup [.int 2,.str "bo",.str "enter"],.tup [.int 3,.str "cy",.str "enter"]]
abbrev F1:List (Str×Str):=[("dee","owner")]
abbrev MY:List (Str×Int):=[("dee",1)]
abbrev MZ:List nX:=[("dee",1,1,none)]
noncomputable abbrev M0:List Tr:=[.tup [.int 1,.str "dee",.str "found"]]
noncomputable abbrev En:List (Str×Bool):=[("ann",true),("bo",true),("cy",true),("dee",true),("ed",true)]
def D10:Dat:=⟨MX,F0,MV,λz=>(MV.lookup z).getD 0,MW,[],[],[],"open","all","shown",19,20,26⟩
def D20:Dat:=⟨M0,F1,MY,λz=>(MY.lookup z).getD 0,MZ,[],[],[],"open","all","shown",39,40,42⟩
noncomputable def B0:Ab:=[.ins "Hall" [("persons",.at 1),("places",.at 2),("hands",.at 3)],.bU [],.bU [],.lst []]
def B1:Ab:=B0++[.bU (dP id [("people",.at 5),("rooms",.at 6)]),.lst (PK.map .str),.bU []]
def A0:Ab:=[.ins "Hall" [("persons",.at 1),("places",.at 2),("hands",.at 3)],.bU (dP .bl En),.bU (dP .at [("hall",7),("yard",27)]),.lst [],.bU (dP id [("people",.at 5),("rooms",.at 6)]),.lst (PK.map .str),.bU (dP .at [("hall",16),("yard",36)]),
 .ins "Room" (roomF 7),.lst MX,.bU (dP .str F0),.bU (dP .int MV),.bU (dP .str (Cm "open" "all" "shown")),.bU [],.bU [],.bU [],.bU [],
 .bU (dP id (yT 16 19 20 26 "open" "all" "shown")),.lst MX,.bU (dP .str F0),.lst (MW.map wB),.lst [],.lst [],.lst [],.lst [.str "ann"],.lst [],.lst [.str "ann"],.lst [],
 .ins "Room" (roomF 27),.lst M0,.bU (dP .str F1),.bU (dP .int MY),.bU (dP .str (Cm "open" "all" "shown")),.bU [],.bU [],.bU [],.bU [],
 .bU (dP id (yT 36 39 40 42 "open" "all" "shown")),.lst M0,.bU (dP .str F1),.lst (MZ.map wB),.lst [],.lst [],.lst []]
def UI:yG "Hall" oV (.ok [] [])=.ok (.at 0) B0:=by kernel_rfl
def PL:AJ [.tup [.str "ann",.str "bo",.str "cy",.str "dee",.str "ed"]] B0=.ok (.at 4) B1:=by kernel_rfl
def UJ:Ei [.at 0,.at 4] B1=.ok .cu A0:=by kernel_rfl
def rk0(h:(aT.all λp=>oH.contains p.2&&(decide (p.1.length<=1000)&&(ents.lookup p.1==some ((ents.lookup p.1).getD 0))))=true)(n:(aT.map (·.1)).Nodup)(u:(aT.map λp=>(ents.lookup p.1).getD 0).Pairwise (· <·)):dk aT ents λz=>(ents.lookup z).getD 0:=by
 have q:=λp hp=>dD.mp h p hp;simp only[bW,j8,fo]at q;exact⟨λp hp=>de.mp (q p hp).1,n,λp hp=>(q p hp).2.1,λp hp=>(q p hp).2.2,u⟩
theorem rows0(h:(rows.all λt=>match t with|.tup us=>us.all yl&&decide (us.length<=10)|_=>false)=true):jT rows:=λt b=>by
 have q:=dD.mp h t b;cases t with
 |tup us=>
  have q:(us.all yl&&decide (us.length<=10))=true:=q;rw[bW,j8]at q;exact⟨us,rfl,q⟩
 |_=>cases q
def st0:St A0 0:=⟨En,PK,D10,D20,⟨rfl,rfl,rfl⟩,⟨rfl,rfl,rfl⟩,rfl,by decide,by decide+kernel,
 ⟨⟨rfl,rfl,rfl,rfl,rfl,rfl,rfl⟩,⟨rfl,rfl,rfl,rfl,rfl,rfl,by decide⟩,⟨rows0 rfl,rk0 (by decide+kernel) (by decide+kernel) (by decide+kernel),rfl,by decide+kernel,.inr (by decide+kernel),λ_=>rfl,by decide+kernel,by decide+kernel,by decide+kernel,by decide+kernel⟩,⟨by decide,by decide,by decide,by decide,by decide,by decide,by decide⟩,by decide,by decide⟩,
 ⟨⟨rfl,rfl,rfl,rfl,rfl,rfl,rfl⟩,⟨rfl,rfl,rfl,rfl,rfl,rfl,by decide⟩,⟨rows0 rfl,rk0 (by decide+kernel) (by decide+kernel) (by decide+kernel),rfl,by decide+kernel,.inr (by decide+kernel),λ_=>rfl,by decide+kernel,by decide+kernel,by decide+kernel,by decide+kernel⟩,⟨by decide,by decide,by decide,by decide,by decide,by decide,by decide⟩,by decide,by decide⟩,by unfold r6;decide,by unfold r6;decide,by unfold Apart;decide⟩
def Jy(h:oK bF rows):nT rows=true:=by cases h<;>rfl
theorem HE{T:o6}{G:bY->Ab->Rz Out}{n:Nat}(I:Nat->bY->Ab->Prop)(h:∀k Y A,k<n->I k Y A->∃sR,T (.int (0+(k:Nat))) Y=.ok sR/\∃q A2,G sR A=.ok (.nx q) A2/\I (k+1) q A2):∀(m k:Nat) (Y:bY) (A:Ab),k+m=n->I k Y A->∃iX A',vp T G ((List.range' k m).map λk=>Tr.int (0+(k:Nat))) Y A=.ok (.nx iX) A'/\I n iX A'
 |0,k,Y,A,e,hi=>⟨Y,A,rfl,by rw[<-e];exact hi⟩
 |m+1,k,Y,A,e,hi=>by
  obtain⟨sR,b,q,A2,g,h2⟩:=h k Y A (by omega) hi;obtain⟨iX,A',l,r⟩:=HE I h m (k+1) q A2 (by omega) h2;refine⟨iX,A',?_,r⟩;rw[List.range'_succ,bB];simp only[FD,b,eV,cO,g];exact l
def M3{n:Nat}{T:o6}{G K:bY->Ab->Rz Out}{N0:bY}{A0:Ab}(I:Nat->bY->Ab->Prop)(h0:I 0 N0 A0)(h:∀k Y A,k<n->I k Y A->∃sR,T (.int (0+(k:Nat))) Y=.ok sR/\∃jL A2,G sR A=.ok (.nx jL) A2/\I (k+1) jL A2)(hK:∀Y A,I n Y A->yr (K Y A)=.ok (.bl true)):
  yr (E4 (vp T G ((List.range' 0 n).map λk=>Tr.int (0+(k:Nat))) N0 A0) K)=.ok (.bl true):=by
 obtain⟨b,A',e,q⟩:=HE I h n 0 N0 A0 (by omega) h0;rw[show vp T G ((List.range' 0 n).map λk=>Tr.int (0+(k:Nat))) N0 A0=_ from e];exact hK b A' q
def PM(j:Int):Gv (.ok [.int j])=if-4611686018427387904<=j/\j<4611686018427387904 then .ok (CW 0 j.toNat)else .bad:=rfl
def Zb:Gv (.ok [.int 24])=.ok ((List.range' 0 24).map λk=>Tr.int (0+(k:Nat))):=by rw[PM,aX (by decide)];show Rs.ok (CW 0 24)=_;unfold CW;rw[List.range_eq_range']
noncomputable abbrev ws:List Str:=["enter","enter","leave","arrange","ask","bar","unbar"]
theorem step{A:Ab}(h:St A aM)(hd:oK ws rows)(ht:aM<=1000):∃A',jK [.at 0,.at 4,.tup rows] A=.ok (.bl true) A'/\St A' (aM+1):=by
 cases hd with
 |Za q _=>exact absurd q (by decide+kernel)
 |role q _ _ _ _=>exact absurd q (by decide+kernel)
 |@one c6 aY c5 hw q n r=>
  rcases hw with rfl|rfl|rfl
  ·exact absurd q (by decide+kernel)
  ·exact h.go (f:=λc5=>[.str "enter",.str aY,.str c5]) (λP b g hi l hp=>Px P b g hi l hp n ht) r
  ·exact h.go (f:=λc5=>[.str "leave",.str aY,.str c5]) (λP b g hi l hp=>Py P b g hi l hp n ht) r
 |@arr aY c5 cV val q n r hw=>exact h.go (f:=λc5=>[.str "arrange",.str aY,.str c5,.str cV,.str val]) (λP b g hi l hp=>Y0 P b g hi l hp n hw ht) r
 |@two c6 aY c5 c9 hw q n r I=>
  rcases hw with rfl|rfl|rfl|rfl
  ·exact h.go (f:=λc5=>[.str "ask",.str aY,.str c5,.str c9]) (λP b g hi l hp=>Y4 P b g hi l hp n I ht) r
  ·exact absurd q (by decide+kernel)
  ·exact h.go (f:=λc5=>[.str "bar",.str aY,.str c5,.str c9]) (λP b g hi l hp=>Y8 P b g hi l hp n I ht) r
  ·exact h.go (f:=λc5=>[.str "unbar",.str aY,.str c5,.str c9]) (λP b g hi l hp=>PD P b g hi l hp n I ht) r
def LI(ns:List Int)(k:Nat)(Y:bY)(A:Ab):Prop:=St A k/\∃a b,Y=[.sh (.vR ns),.sh (.at 0),.sh (.at 4),.sh (.tup (ws.map .str)),a,b]
theorem M4(ns:List Int):zd [.vR ns]=.ok (.bl true):=by
 unfold zd Dg;rw[aX ⟨rfl,rfl⟩];show yr (Hs.1 [.sh (.vR ns),.no,.no,.no,.no,.no] [])=_;unfold Hs;have L:∀A,sS (.ok (.tup [.str "ann",.str "bo",.str "cy",.str "dee",.str "ed"])) A=.ok (.tup [.str "ann",.str "bo",.str "cy",.str "dee",.str "ed"]) A:=λA=>rfl;have n:Be (.ok (ws.map .str))=.ok (.tup (ws.map .str)):=rfl;have r:∀A,sS (.ok (.tup (ws.map .str))) A=.ok (.tup (ws.map .str)) A:=λA=>rfl;simp only[bB,mO]at n r;simp only[ev,cO,eV,fj,UI,L,PL,UJ,n,r,cz,cA,Zb,FD];refine M3 (LI ns) ⟨st0,.no,.no,rfl⟩ (λk Y A hk g=>?_) λY A g=>?_
 ·obtain⟨hs,a,b,rfl⟩:=g;obtain⟨c,M⟩:=UE ns ((0+(k:Nat):Int) % 11) (xC _ (by decide));obtain⟨ts,I,hd⟩:=UH (ws:=ws) (by decide+kernel) (by decide) (c+41*(0+(k:Nat))) (aZ 5 A (.at 4));obtain⟨A',S,l⟩:=step hs hd (by omega);have m1:Io (.int (0+(k:Nat))) (.int 11)=.ok (.int ((0+(k:Nat):Int) % 11)):=UD (by decide);have q:Ip (.int 41) (.int (0+(k:Nat)))=.ok (.int (41*(0+(k:Nat)))):=UC (.inl ⟨by decide,by decide⟩);have fz:∀A,sS (.ok (.tup ts)) A=.ok (.tup ts) A:=λA=>aX (Jy hd);have nt:Tu (Ts (.ok (.bl true) A'))=.ok false A':=rfl;simp only[bB,mO]at I⊢;refine⟨_,rfl,[.sh (.vR ns),.sh (.at 0),.sh (.at 4),.sh (.tup (ws.map .str)),.sh (.int (0+(k:Nat))),.sh (.tup ts)],A',?_,l,_,_,rfl⟩;simp only[ev,cO,eV,fj,m1,M,q,I,fz,cz,cA,S,nt]
  rfl
 ·obtain⟨⟨bc,bF,D1,D2,s⟩,a,b,rfl⟩:=g;simp only[ev,cO,eV,Y9 s (by decide)]
  rfl
def O:Vf:=⟨["ValueError","all","bool","dict","int","isinstance","len","list","max","min","range","set","sorted","str","tuple","zip"],["Barred","Hall","Known","NoHand","NoLine","NoPerson","NoRight","NoRoom","NoRow","NotAsked","NotIn","Room","TalkError"],["Hall","Room"],[("Room",["banned","chosen","entries","invited","log","ranks","read_marks","said_by_key"]),("Hall",["hands","persons","places"])],[iN],["Known","NoPerson","NoRoom","NotIn","NotAsked","Barred","NoRight","NoRow","NoHand","NoLine"],[.inl "Barred",.inl "Known",.inl "NoHand",.inl "NoLine",.inl "NoPerson",.inl "NoRight",.inl "NoRoom",.inl "NoRow",.inl "NotAsked",.inl "NotIn",.inr "ValueError"],["TalkError"],["Barred","Known","NoPerson","NoRight","NoRoom","NotAsked","NotIn"]⟩
set_option maxHeartbeats 8000000 in
theorem all_mk{l:PySem.W.OpenLaw}{w:World}{K:Frag}{h:Heap}{mg:Str->Option Value}{fa:Addr}(X:K.In h)(G:h.Ns mainGlobals mg)(hfa:mg "law"=some (.ref fa))
  (c1:DS.map (Df.fd K)=DS.map (λd=>d.re (d.fd K))) (c2:DS.all (Df.QU K)=true) (c3:O.QU K=true)
  {zk:Addr} {M5:Nat} {M6:Array (Option Value)} {Jz JA JB JC:Tok} (HF:PySem.W.nsIn K mainGlobals "ROLES"=some (some (.ref zk))) (HG:K.lookup zk=some ⟨.type "tuple",none,.seq #[.str "guest" Jz,.str "speaker" JA,.str "keeper" JB,.str "owner" JC] M5,M6⟩)
  {q:Addr} {dn1:Nat} {abK abL abM:Tok} {Zc Zd Ze:Addr} (e1:PySem.W.nsIn K mainGlobals "SETTINGS"=some (some (.ref q))) (d1:K.lookup q=some ⟨.type "dict",none,.dict #[⟨PyData.keyHash w.params "door",.str "door" abK,.ref Zc⟩,⟨PyData.keyHash w.params "voice",.str "voice" abL,.ref Zd⟩,⟨PyData.keyHash w.params "past",.str "past" abM,.ref Ze⟩] dn1,#[]⟩) (s1:(q==sysModules)=false)
  {Zf:Option Addr} {Zg:Nat} {Zh:Array (Option Value)} {UK UL:Tok} (Zi:K.lookup Zc=some ⟨.type "tuple",Zf,.seq #[.str "open" UK,.str "asked" UL] Zg,Zh⟩)
  {Zj:Option Addr} {Zk:Nat} {Zl:Array (Option Value)} {UM UN:Tok} (Zm:K.lookup Zd=some ⟨.type "tuple",Zj,.seq #[.str "all" UM,.str "some" UN] Zk,Zl⟩)
  {Zn:Option Addr} {Zo:Array (Option Value)} {UO UP:Tok} (Zp:K.lookup Ze=some ⟨.type "tuple",Zn,.seq #[.str "shown" UO,.str "hidden" UP] aM,Zo⟩)
  :∃fd:FuncData,(∀(s:Shared) (v:Value),BindsTo s fd ⟨[v],[]⟩ [("_law_script",v)])/\∀base:Heap,K.In base->base.Ns mainGlobals mg->eC l.prog w K mg base mv 10 fa fd ["_law_script"] (spT K zd):=by
 have o:=O.ok X G c3;have T:QV K w mg:=⟨λi d e=>L5 X G c1 c2 d (d6 e),o.bl rfl,o.bl rfl,o.bl rfl,o.bl rfl,o.bl rfl,o.bl rfl,o.bl rfl,o.bl rfl,o.bl rfl,o.bl rfl,o.bl rfl,o.bl rfl,o.bl rfl,o.bl rfl,o.bl rfl,o.bl rfl,o.bn 0 rfl,o.mk_ rfl,o.mk_ rfl,⟨⟨.ref zk,_,W.mg_of X G HF,rfl,λH=>.tup (vs:=[.str "guest",.str "speaker",.str "keeper",.str "owner"]) (.inr ⟨_,_,_,HG,rfl,rfl,by show 4<=sizeLine;decide,(.cons ⟨_,rfl⟩ (.cons ⟨_,rfl⟩ (.cons ⟨_,rfl⟩ (.cons ⟨_,rfl⟩ .nil))))⟩) (.cons (.str _ (by decide)) (.cons (.str _ (by decide)) (.cons (.str _ (by decide)) (.cons (.str _ (by decide)) .nil))))⟩,⟨_,_,W.mg_of X G HF,HG,rfl,rfl⟩⟩,o.fl (c:="Room") rfl rfl,o.fl (c:="Room") rfl rfl,o.fl (c:="Room") rfl rfl,o.fl (c:="Hall") rfl rfl,o.fl (c:="Room") rfl rfl,o.fl (c:="Room") rfl rfl,o.fl (c:="Hall") rfl rfl,o.fl (c:="Hall") rfl rfl,o.fl (c:="Room") rfl rfl,o.fl (c:="Room") rfl rfl,o.fl (c:="Room") rfl rfl,E3.gd (bE:=[("door",.tup [.str "open",.str "asked"]),("voice",.tup [.str "all",.str "some"]),("past",.tup [.str "shown",.str "hidden"])]) (.cons (v:=.ref _) rfl (λH=>.tup (vs:=[.str "open",.str "asked"]) (.inr ⟨_,_,_,Zi,rfl,rfl,by show 2<=sizeLine;decide,(.cons ⟨_,rfl⟩ (.cons ⟨_,rfl⟩ .nil))⟩) (.cons (.str _ (by decide)) (.cons (.str _ (by decide)) .nil))) (.cons (v:=.ref _) rfl (λH=>.tup (vs:=[.str "all",.str "some"]) (.inr ⟨_,_,_,Zm,rfl,rfl,by show 2<=sizeLine;decide,(.cons ⟨_,rfl⟩ (.cons ⟨_,rfl⟩ .nil))⟩) (.cons (.str _ (by decide)) (.cons (.str _ (by decide)) .nil))) (.cons (v:=.ref _) rfl (λH=>.tup (vs:=[.str "shown",.str "hidden"]) (.inr ⟨_,_,_,Zp,rfl,rfl,by show 2<=sizeLine;decide,(.cons ⟨_,rfl⟩ (.cons ⟨_,rfl⟩ .nil))⟩) (.cons (.str _ (by decide)) (.cons (.str _ (by decide)) .nil))) .nil))) (W.mg_of X G e1) d1 s1 (show List.Nodup (["door","voice","past"]:List Str) by decide),E3.gk (bE:=[("door",.tup [.str "open",.str "asked"]),("voice",.tup [.str "all",.str "some"]),("past",.tup [.str "shown",.str "hidden"])]) (.cons (v:=.ref _) rfl (λH=>.tup (vs:=[.str "open",.str "asked"]) (.inr ⟨_,_,_,Zi,rfl,rfl,by show 2<=sizeLine;decide,(.cons ⟨_,rfl⟩ (.cons ⟨_,rfl⟩ .nil))⟩) (.cons (.str _ (by decide)) (.cons (.str _ (by decide)) .nil))) (.cons (v:=.ref _) rfl (λH=>.tup (vs:=[.str "all",.str "some"]) (.inr ⟨_,_,_,Zm,rfl,rfl,by show 2<=sizeLine;decide,(.cons ⟨_,rfl⟩ (.cons ⟨_,rfl⟩ .nil))⟩) (.cons (.str _ (by decide)) (.cons (.str _ (by decide)) .nil))) (.cons (v:=.ref _) rfl (λH=>.tup (vs:=[.str "shown",.str "hidden"]) (.inr ⟨_,_,_,Zp,rfl,rfl,by show 2<=sizeLine;decide,(.cons ⟨_,rfl⟩ (.cons ⟨_,rfl⟩ .nil))⟩) (.cons (.str _ (by decide)) (.cons (.str _ (by decide)) .nil))) .nil))) (W.mg_of X G e1) d1 s1 (show List.Nodup (["door","voice","past"]:List Str) by decide) (show∀z∈(["door","voice","past"]:List Str),z.length<=cZ by decide),o.xc 0 rfl,o.xc 1 rfl,o.xc 2 rfl,o.xc 3 rfl,o.xc 4 rfl,o.xc 5 rfl,o.xc 6 rfl,o.xc 7 rfl,o.xc 8 rfl,o.xc 9 rfl,o.xc 10 rfl,o.Hn rfl,o.Hn rfl,o.Hn rfl,o.Hn rfl,o.Hn rfl,o.Hn rfl,o.Hn rfl,o.Hn rfl,o.Hn rfl,o.Hn rfl,o.ca rfl rfl,o.er rfl rfl,o.er rfl rfl,o.er rfl rfl,o.er rfl rfl,o.er rfl rfl,o.er rfl rfl,o.er rfl rfl⟩;cases hfa.symm.trans ((T.d 60 rfl:D0.Ok K mg).m0 rfl);obtain⟨g,od,kV,doc,pm,an,gf,ct,Kd,b,_,_⟩:=(T.d 60 rfl:D0.Ok K mg).fn.ex;exact⟨_,λs v=>by rw[b];exact .of_eq rfl,λbase _ _=>(YK T).ok⟩
def UQ{K:Frag}{H:Hp}{Q:VK}{E:XK}{a:Addr}{ns:List Int}(q:l0 K H a (ns.map V.int))(hQ:∀H',Q (.bl true) H'):spT K zd [.ref a] H Q E:=
 ⟨⟨λ_=>false,λ_=>none⟩,[.vR ns],λb e=>(nomatch e),.cons (.vR q) .nil,.bl true,M4 ns,λv H' _ r=>by rw[r.yf];exact hQ H'⟩
def walk{l:PySem.W.OpenLaw}{q:Program}{XP:(Str->Option Value)->Heap->Prop}{YP:World->Heap->Prop}{d:DefRec}{K:Params->Frag}(hn:l.most=some 63)(Vm:d.params.defaults=[])
  (hY:∀(w:World) (h:Heap),YP w h->(K w.params).In h)
  (F:∀(w:World) (mg:Str->Option Value) (fa:Addr) (h:Heap),(K w.params).In h->h.Ns mainGlobals mg->mg d.name=some (.ref fa)->
   ∃fd:FuncData,(∀(s:Shared) (u:Value),BindsTo s fd ⟨[u],[]⟩ [("_law_script",u)])/\∀base:Heap,(K w.params).In base->base.Ns mainGlobals mg->eC l.prog w (K w.params) mg base mv 10 fa fd ["_law_script"] (spT (K w.params) zd)):
  PySem.W.WalkO q bF XP YP l.row.toRowW d [] (λf vs=>PySem.call f vs):=
 L2.NO (n:=63) (k:=10) (x:="_law_script") (CX:=λ_=>mv) (sp:=λw=>spT (K w.params) zd) hn (by decide) Vm ⟨rfl,by decide,by decide⟩ hY F (λ_ _ a ns g _ b=>UQ b λ_=>rfl) λ_ _ _ _ _ z=>z
end M05
structure PySem.W.Fast:Prop where(tw1955576527786154842 tw17589092474120441417 tw7193511283714543819 tw2683737900025343078 tw14336548766245070874 tw10488281444379796166 tw89498921613209239 tw17606241433991268092 tw18337841803442942854 tw12982771388693811026 tw10213282892843626839 tw11426183243088640446 tw9525578244973138799 tw8864303633496426310 tw6798265153794580359 tw9420725759609338085 tw1250535202394717743 tw4254077214762414968 tw11265534067667643190 tw12686124142641070859 tw1907188614242874855 tw8235014937256179583 tw8740539100888261509 tw6394345712693907785 tw4366372853691752329 tw3754351368311988114 tw10016841484031975711 tw9802790472144343714 tw10211184631619998710 tw5378728845116222107 tw2784692206408724795 tw2189747682605823076 tw17463469441657239038 tw9202722564000585715 tw17626596333565059637 tw16683367048688380880 tw1713733049907430698 tw3721918545797392397 tw7874797706513315850 tw2941964857711988316 tw16133514496442374438 tw9808013972030628 tw10251841561517667884 tw17162096331569180796 tw14931973296100090222 tw6801834567857776591 tw1305769922376267810 tw15136309723697210739 tw7462529198071693549 tw16087282513621351330 tw5364819239290569953 tw13894698852053546922 tw11148015939482688785 tw8091313545890608067 tw17372433534183799105 tw7260758327558880927 tw7408759652626180702 tw14426844298538222264 tw3893302119807547469 tw1750007949363672215 tw12859549587016789090 tw6799865983854268894 tw5106497299914767966 tw5702246930939882567 tw9664997710545889408 tw3767505428863885952 tw387460072297283420 tw11824656916623394407 tw12335764392514199252 tw13662233371055655099 tw12132038212476264347 tw17005211241502662513 tw242174120152787751 tw12198116357384943180 tw1847752761226653523 tw5569679522870425471 tw12590449895141786439 tw6572452002440570670 tw17083816805162997997 tw15741370007903057570 tw1260282754762473739 tw4574207606500571190 tw5918475431940845960 tw11264094036449737865 tw2163769029600713400 tw13895723051757254020 tw6337838527745483930 tw10792481725852701103 tw11410792796333810065 tw10175637314624464693 tw4735491799322903208 tw13873615993192605130 tw12331379293792325093 tw16005393592912640338 tw13644270699634131725 tw11405583977189864394 tw17510756918112405788 tw17773193079824236113 tw9059916840871556202 tw13705944253439839975 tw1638530047302012687 tw5539134925013417604 tw12121240957571397809 tw4296591138614433130 tw63672703949247762 tw14644442883556036119 tw8007321624960471861 tw7434639827455623875 tw7668276389790871895 tw14176201997472089483 tw16227019439426346752 tw5343896942884207556 tw14603247528273596086 tw14364423104992523091 tw3359377478022225067 tw14402359111460194207 tw6068398614592784907 tw13099228944396286964 tw11371926047629403128 tw6916736074700214601 tw13284012103724995510 tw4366870511746554968 tw7944402306666383739 tw9812516274823897075 tw819912786266552334 tw192077301461678690 tw18312220136770838310 tw13972259965770666791 tw14327458350626029413 tw260731330603473152 tw17975280972594808408 tw946774757590970161 tw3489875136745944629 tw2990295396124504446 tw5433899640050115008 tw10741519178031841942 tw9369837027366990948 tw497115574897925279 tw15961388257792192028 tw16979115713441938086 tw13518128970300657847 tw14387934337692769203 tw9362488143449818933 tw12222854849909027514 tw11458726676531702456 tw5869569246082017601 tw2522300253921174442 tw13757443069067956297 tw3665579313685273583 tw8844929373166342198 tw976159670793567630 tw1397002165461903096 tw5484856089997740416 tw3723419170196935685 tw12226111261825961550 tw1683923510327869079 tw4301310054934523617 tw7438603970075721784 tw16718283207021709855 tw3215135193393688091 tw15577660740357106292 tw11046842490188484554 tw11236161994396656785 tw2647989793717871318 tw832043721618807772 tw17854169442271351463 tw340220542125484867 tw16595984701115018954 tw2264597610947050149 tw9425286034486697895 tw8994172542342875286 tw7643033938474814732 tw2404717570846135081 tw8668714736874461637 tw2023154760053878386 tw1476091763991287665 tw4726557040983195065 tw14544787949861721053 tw2480870708465693426 tw3588031009476533780 tw4450700505532722785 tw18446261364974870913 tw12936200639188892484 tw8609384852907668919 tw16599689600800297205 tw14788441400704590030 tw1396523346912534152 tw9077903785880654240 tw4675586870058074754 tw17284800217019543648 tw1091273494047616870 tw7906530786351064167 tw6113933836432537933 tw1744115155266894792 tw9251869525255495332 tw6040604551730998262 tw3722264435797579094 tw17394470432367339226 tw5810290295593864693 tw16127386641511868893 tw9766642396968108558 tw1220387382061515512 tw11209210184197837465 tw9826649986976899944 tw953666778264153473 tw10314463493389492038 tw8757823401935140970 tw15108334434540458433 tw6351875261676591657 tw3307579257324397099 tw8414890882280893320 tw12324456777145898604 tw27478809612581411 tw17746875749033712762 tw6751689029588060463 tw15169938219248019558 tw8800799454342493460 tw13034749878498095588 tw6367564406756351296 tw4475522015421902165 tw10020031824383755892 tw10108254387206721336 tw14811078413973945027 tw13739498127688866922 tw9549278925283706456 tw3307220464891048300 tw9780257372161989399 tw1209367619838409504 tw14540657562399420604 tw15472586902570342776 tw7502045958215273710 tw10977346942356352066 tw6992787738312157278 tw11449884200403898148 tw17912997230099905428 tw4321459293977016895 tw14251755831697502845 tw8639708742572614614 tw11286496047397911451 tw12276409482667746463 tw486259629046382020 tw13315345040712109333 tw17089499781440425862 tw17683319411702128672 tw10293778730302458631 tw13651151224701272114 tw18121856369342249057 tw10328911151673136801 tw13376138129760462964 tw4302918112200125889 tw4754214604388920699 tw3224032197175040406 tw8757501897030319871 tw9330802524099016953 tw13113187098580277980 tw476850626870150551 tw6920612735783886665 tw7279615489004144299 tw14099445993979386572 tw2939938947523461355 tw3136363336948770155 tw2212975873824949239 tw17040782978738845767 tw12072853504591835814 tw6084847921980356607 tw4402288071691969721 tw13659476631028107368 tw16175773099778277804 tw17098827481026721603 tw7383824443087686070 tw4089068029374196557 tw11192338401528180500 tw11641997484064435543 tw1144592291917908663 tw17156558252614164043 tw9125894610232975777 tw17218523437870944571 tw17009313161023410944 tw15294167911042893612 tw1794801226063298421 tw12781060526098786734 tw14881715478760978129 tw1115997923304000637 tw8832607710179258557 tw17850112158546893521 tw2045863958798030501 tw8989543233364883494 tw11850359908348643470 tw7482124511140422099 tw186360085853539567 tw8870255455826777945 tw15818133109754917422 tw16757772054297938616 tw2035095765811102443 tw8820269955549835032 tw17407150462329293193 tw14992588710712501890 tw16207986196213827296 tw8209351085537232386 tw5874199466023397046 tw6571462018744941860 tw14595115040169863863 tw5385990354931480657 tw3285575573518609695 tw6662043019753551847 tw14808434438374463664 tw11945538708689100548 tw4422013292179486776 tw11300738268694075381 tw16719885461818131030 tw4976774991570958179 tw8699550641674114092 tw14075802161560412433 tw477610857026975117 tw5312769876843481335 tw10792284520168713261 tw10248760362996609399 tw8424265499095875375 tw3777074618130847641 tw1279703657051474693 tw14948074096453191780 tw16808919346700869792 tw369363201868087909 tw4532069254055185728 tw3060718107851751543 tw17167145879148523603 tw6858470684305003116 tw4688439606280810461 tw4256696348663730490 tw16184672265572746863 tw5526034672954945782 tw12333135409851975226 tw5639625192790204870 tw12942128849755549981 tw3919220492146741592 tw8340134961160374123 tw13182838416340150670 tw2040342095787527783 tw12398836219410946874 tw15644751412850553173:True)
open PySem PySem.W PyProof.Rows
set_option maxRecDepth 100000 in
set_option maxHeartbeats 0 in
theorem PySem.Challenge.cw_talkhall_k05_doors_holds : PySem.Challenge.rw_talkhall_k05_doors.Holds := by
 w_on;o_law;k_head;(case hw=>w_witness2)
 k_fill
 refine M05.walk (l:=PySem.Challenge.rw_talkhall_k05_doors) rfl rfl (fun w h ρ=>PySem.W.kIn_of ρ) ?F
 case F=>
  intro w mg fa h KX G Vn
  refine' M05.all_mk KX G Vn ?_ ?_ ?_ ?_ ?_ ?_ ?_ ?_ ?_ ?_ ?_
  all_goals first|k_is|kernel_rfl|skip
