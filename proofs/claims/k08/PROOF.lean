import PyProof.Rows.All
import Wide.All
import OpenK.AllK
import Wide.FinOn
import Lean
import PyProof.EqAt
import PyProof.EqKinds
import PyProof.TupleCall
import PyProof.ExcArgsOwn
import PyProof.AttrMissSeq
import KE.KMinKey
import KE.KBoundM
import KE.KSortTup
import KE.KItemsList
import PyProof.SeqI3
import PySem.Challenge.RW_talkhall_k08_asking
set_option Elab.async false
set_option linter.all false
set_option maxRecDepth 100000
set_option bootstrap.genMatcherCode false
set_option genSizeOf false
set_option genInjectivity false
set_option compiler.extract_closed false
noncomputable section
set_option maxHeartbeats 4000000
def aT:=@PySem.wpAny_bind
def bY:=@List.getElem?_eq_getElem
def bu:=@List.length_map
def bR:=@PySem.Heap.get?_push_of_some
def bf:=@PySem.wpAny_pure
def cu:=@List.mem_cons_of_mem
def bG:=@List.mem_cons
def ck:=@List.getElem?_map
def bz:=@Nat.le_refl
def bO:=@List.map_cons
def bZ:=@List.set_cons_succ
def b_:=@List.set_cons_zero
def bU:=@beq_self_eq_true
def bx:=@PySem.Heap.lt_size
def cz:=@PySem.Heap.get?_push_size
def bW:=@Bool.and_eq_true
def aW:=@if_pos
def cD:=@List.mem_cons_self
def cK:=@Bool.false_eq_true
def dg:=@List.contains_iff_mem
def cV:=@List.mem_singleton
def bc:=@if_neg
def cc:=@Nat.ne_of_lt
def cW:=@List.size_toArray
def cN:=@List.lookup_cons
def dh:=@Nat.lt_of_lt_of_le
def eN:=@List.getD_eq_getElem?_getD
def cP:=@List.not_mem_nil
def dG:=@List.mem_append_right
def cF:=@Nat.le_trans
def cH:=@List.mem_map
def d7:=@List.mem_of_getElem?
def dr:=@List.mem_append
def dt:=@Option.map_some
def cL:=@List.map_map
def dB:=@List.length_cons
def dH:=@List.all_eq_true
def gu:=@List.getElem?_eq_some_iff
def eR:=@List.length_append
def eO:=@of_decide_eq_true
def dA:=@Bool.not_true
def cg:=@if_false
def fE:=@Bool.false_ne_true
def dC:=@Nat.le_of_lt
def d8:=@Bool.not_false
def jm:=@List.getElem?_eq_none_iff
def gv:=@Array.length_toList
def gw:=@List.map_congr_left
def gx:=@List.mem_map_of_mem
def dQ:=@Nat.ne_of_gt
def g9:=@PySem.Around.under_plainId
def cw:=@if_true
def ff:=@PySem.W.kia_one
def fF:=@decide_eq_false
def eV:=@Nat.lt_irrefl
def cQ:=@or_false
def cX:=@congrArg
def ki:=@List.filter_cons_of_neg
def dX:=@PySem.sizeLine_eq
def fY:=@PySem.codeAny_builtin
def d9:=@Nat.zero_le
def gy:=@List.mem_filter
def jn:=@beq_eq_false_iff_ne
def iD:=@decide_eq_true_eq
def fG:=@PySem.wpAny_holding
def g_:=@PySem.wpAny_call_entry
def lL:=@List.filter_cons_of_pos
def kj:=@List.mem_append_left
def hJ:=@List.nodup_cons
def d_:=@PySem.wpAny_mono
def jo:=@PySem.wpAny_setField_rec
def jq:=@Option.isSome_map
def iE:=@List.map_append
def lM:=@PySem.W.hideAll_none
def nD:=@PySem.F.slot_list_append
def hU:=@PySem.wpAny_seqItems
def fg:=@beq_iff_eq
def iF:=@decide_eq_true
def nE:=@PySem.F.plain_min_loop
def lN:=@PySem.mem_of_lookup
def hV:=@PySem.plainId_quiet
def nF:=@PySem.Calls.callWith_builtin
def nG:=@PySem.Heap.get?_update_other
def nH:=@Array.getElem?_toList
def lO:=@List.mem_filterMap
def iG:=@List.all_cons
def qK:=@PySem.F.type_list_append
def qL:=@PySem.F.plainAttrs_dict
def lP:=@Nat.lt_succ_of_lt
def lQ:=@Int.toNat_natCast
def kl:=@List.append_nil
def km:=@List.find?_cons
def kn:=@beq_false_of_ne
def nJ:=@PySem.Calls.evalArgs_plain
def nK:=@List.replicate_succ
def gz:=@PySem.wpAny_field
def jr:=@List.any_cons
def qM:=@PySem.wpAny_callSpecial?_slot
def nL:=@Option.isSome_some
def qN:=@PySem.F.slot_dict_get
def oV:=@List.getElem?_append_left
def oW:=@List.drop_eq_getElem_cons
def my:=@List.getElem?_set_ne
def kL:=@PySem.Calls.spliced_cons
def mz:=@PySem.W.hideAll_get
def kM:=@PySem.wpAny_newObj_type
def kN:=@PySem.wpAny_pyIter_list
def oX:=@PySem.Str.length_append
def kO:=@PySem.wpAny_setState_of
def kP:=@List.getElem_mem
def fL:=@PySem.wpAny_rule
def mB:=@PySem.W.of_hideAll
def oY:=@List.getElem?_set_self
def oZ:=@PySem.W.funFrames_hide
def jD:=@PySem.Heap.size_push
def kQ:=@List.length_set
def jE:=@Bool.false_or
def o4:=@List.length_filter_le
def mC:=@List.flatten_cons
def mD:=@List.getElem?_set
def iH:=@PySem.codeAny_mono
def mE:=@PySem.wpAny_Call_Name_kw
def mF:=@PySem.tupleKind_room_in1
def mG:=@Nat.succ_ne_self
def mH:=@Nat.le_add_right
def o5:=@List.filterMap_cons
def o6:=@PySem.W.plainGet_of
def o7:=@List.filter_eq_self
def sP:=@Option.isSome_iff_exists
def sQ:=@PySem.F.slot_tuple_iterator_next
def kR:=@PySem.wpAny_tryCatch
def mI:=@Bool.eq_iff_iff
def jF:=@PySem.call_meetsIn
def jG:=@PySem.F.called_set
def o8:=@Option.isSome_none
def sR:=@List.getElem?_replicate
def sS:=@PySem.F.plainAttrs_list
def sT:=@PySem.F.plain_list_iadd
def o9:=@PySem.Heap.SameBut.update
def sU:=@PySem.F.entry_dict_get
def o_:=@List.ext_getElem?
def pb:=@Bool.not_eq_true'
def mJ:=@PySem.wpAny_ite_split
def sV:=@PySem.F.slot_dict_pop
def pd:=@Nat.lt_succ_self
def pf:=@List.filter_cons
def ph:=@Option.getD_some
def pj:=@List.drop_length
def mK:=@Bool.or_false
def pq:=@PySem.wpAny_truthy_bool
noncomputable def pv:=@PySem.Calls.spliced_nil
def kS:=@List.map_id
def sW:=@Array.toArray_toList
def pw:=@List.forIn_cons
def px:=@List.filter_map
def pz:=@Option.map_none
def sX:=@PySem.Heap.get?_update_self
def sY:=@List.length_pos_iff
def wR:=@PyProof.Rows.callWith_type1
def mL:=@List.map_nil
def pA:=@PySem.wpAny_isInstance
def wU:=@List.getElem?_append_right
def sZ:=@Nat.lt_of_le_of_lt
def pB:=@PySem.wpAny_passesOwn
def pC:=@PySem.PassesOwn.never
def pD:=@PySem.wpAny_updateSeq
def s_:=@PySem.W.kitx_dict
def wV:=@PyProof.Rows.slot_tuple_getitem
def tm:=@bne_self_eq_false
def tq:=@List.nodup_append
def tB:=@List.length_range
def tD:=@List.filter_congr
def wW:=@PySem.F.slot_tuple_index
def pE:=@Bool.true_and
def wX:=@PySem.Calls.Name_function_global
def kT:=@PySem.call_meets
def wY:=@decide_eq_false_iff_not
def wZ:=@List.pairwise_singleton
def pF:=@List.all_map
def w4:=@Nat.le_of_succ_le_succ
def w6:=@PySem.F.entry_min_loop
def tH:=@List.of_mem_zip
def tK:=@PySem.wpAny_Call_method
def tL:=@PySem.W.kia_tup
def mM:=@PySem.wpAny_letGo
def w8:=@List.length_replicate
def pG:=@PySem.wpAny_newList
def w_:=@PySem.F.slot_list_getattribute
def tM:=@List.mem_range
def pH:=@Nat.le_succ
def tN:=@PySem.wpAny_execs_nil
def tR:=@PySem.F.slot_zip_next
def xa:=@PySem.W.callWith_K
def xf:=@PySem.builtinLookup_eq_fast
def xg:=@PySem.F.typeOf_object_class
def xh:=@Option.isNone_some
def Cm:=@List.findIdx?_eq_some_iff_getElem
def tT:=@PySem.W.looks_findIn
def xi:=@PySem.W.kitx_list
def xj:=@List.append_assoc
def tU:=@Bool.true_or
def tV:=@Bool.or_true
def xk:=@PySem.codeAny_call_builtin
def mO:=@PySem.W.Looks.ld
def xl:=@Nat.le_of_lt_succ
def xm:=@PyProof.Rows.F.plain_set_update_loop
def xn:=@decide_eq_decide
def xo:=@List.any_eq_true
def tW:=@PySem.wpAny_attempt
def pI:=@PySem.wpAny_load
def pJ:=@PySem.wpAny_call
def xp:=@List.length_nil
def xq:=@Nat.not_lt_zero
def xr:=@List.filter_nil
def xt:=@Int.emod_nonneg
def Cn:=@PySem.F.plain_proto_collect
def xu:=@Bool.false_and
def xw:=@Bool.and_false
def xx:=@PySem.PassesOwn.leaving
def Co:=@List.length_eraseIdx_of_lt
def xy:=@PySem.fits_of_scanBound
def tX:=@PySem.wpAny_typeOf
def xA:=@List.forIn_nil
def Cp:=@PySem.F.excBase_ValueError
namespace HT
open PySem PyProof.Rows
section
open PySem.SeqAt
open PySem.AutoSeq1 (wpAny_loadPart')
open PySem.MeetsSeq PySem.MeetsSeq2 PySem.MeetsSeq3
end
section
variable {prog:Program}{w:World}{A:Around}{E:Value->Shared->Prop}{s:Shared}
theorem M_{t b:Addr}{vs ws:List Value}{Q:Value->Shared->Prop}(ht:IsTup s.heap t vs.toArray)(hb:IsTup s.heap b ws.toArray)(q:vs≠[])
  (h1:ws=[]->Q (.ref t) s) (h2:ws≠[]->Q (.ref s.heap.objs.size) {s with heap:=s.heap.push {cls:=.type "tuple",data:=.seq (vs++ws).toArray}})
  (hsz:vs.length+ws.length<=sizeLine):wpAny (model prog w) A (binaryOp .Add (.ref t) (.ref b)) Q E s:=by
 obtain⟨⟨cls,dd,data,sl⟩,l,I,n,hd⟩:=id ht;obtain⟨⟨abO,L,data2,M⟩,r,g,S,hd2⟩:=id hb;simp only at I hd g hd2;subst I hd g hd2;have e:vs.toArray++ws.toArray=(vs++ws).toArray:=by simp
 by_cases hw:ws=[]
 ·exact concat_meets ⟨_,l,rfl⟩ ⟨_,r,rfl⟩ noFill_tuple_add seq_tuple_add PySem.F.slot_tuple_add PySem.F.entry_tuple_add (PySem.F.args_tuple_add_2 _ _)
   (tuple_addW1 t b vs.toArray ws.toArray n S dd L sl M (by simpa using q) (by simp[hw])) ⟨l,r,h1 hw⟩
 ·refine concat_meets ⟨_,l,rfl⟩ ⟨_,r,rfl⟩ noFill_tuple_add seq_tuple_add PySem.F.slot_tuple_add PySem.F.entry_tuple_add (PySem.F.args_tuple_add_2 _ _)
   (tuple_addW2 t b vs.toArray ws.toArray n S dd L sl M (by simpa using q) (by simpa using hw) (by rw[List.size_toArray,List.size_toArray];exact hsz)) ⟨l,r,?_⟩
  rw[e];exact h2 hw
noncomputable def iA(n d:Nat):Option Int->Nat
 |none=>d
 |some v=>if v<0 then(v+(n:Int)).toNat else min v.toNat n
def Q4(n d:Nat)(hd:d<=n)(o:Option Int):iA n d o<=n:=by
 cases o with
 |none=>exact hd
 |some v=>
  show(if v<0 then(v+(n:Int)).toNat else min v.toNat n)<=n;by_cases b:v<0
  ·rw[if_pos b];omega
  ·rw[if_neg b];exact Nat.min_le_right _ _
def AK(v:Int)(n d:Nat):(if v<0 then max (v+(n:Int)) 0 else min v (n:Int))=((iA n d (some v):Nat):Int):=by
 show(if v<0 then max (v+(n:Int)) 0 else min v (n:Int))=(((if v<0 then(v+(n:Int)).toNat else min v.toNat n):Nat):Int);by_cases b:v<0
 ·simp only[if_pos b];omega
 ·simp only[if_neg b];omega
def Ep(lo hi:Option Int)(n:Nat):Builtin.Slice.sliceAdjust lo hi 1 (n:Int)=(((iA n 0 lo:Nat):Int),((iA n n hi:Nat):Int)):=by
 have b:¬((1:Int)<0):=by omega
 unfold Builtin.Slice.sliceAdjust;simp only[b,if_false];refine Prod.ext ?_ ?_
 ·cases lo with
  |none=>rfl
  |some v=>exact AK v n 0
 ·cases hi with
  |none=>rfl
  |some v=>exact AK v n n
def Er(i j:Nat):Builtin.Slice.slicePlaces (i:Int) (j:Int) 1=j - i:=by
 unfold Builtin.Slice.slicePlaces;have b:(1:Int)>0:=by omega
 simp only[b,if_true,Int.ediv_one];split<;>omega
def xB{v:Value}{o:Option Int}{Q:Option Int->Shared->Prop}(p:IsPart v o)(h:Q o s):wpAny (model prog w) A (Builtin.Slice.slicePartIndex v) Q E s:=by
 cases p with
 |none=>exact slicePart_none h
 |int i t=>exact slicePart_int h
theorem mP{sl:Addr}{q vu:Value}{lo hi:Option Int}{n:Nat}{Q:Int×Int×Nat->Shared->Prop}(hs:s.heap.IsSliceOf sl q vu .none)(pl:IsPart q lo)(pu:IsPart vu hi)
  (h:Q (((iA n 0 lo:Nat):Int),1,iA n n hi - iA n 0 lo) s):wpAny (model prog w) A (Builtin.Slice.sliceApplied (.ref sl) (pure (n:Int))) Q E s:=by
 obtain⟨os,b,l,g⟩:=id hs;unfold Builtin.Slice.sliceApplied Builtin.Slice.sliceFields;refine wpAny_bind (wpAny_bind (wpAny_field b g (x:=q) rfl (wpAny_bind (wpAny_field b g (x:=vu) rfl (wpAny_bind (wpAny_field b g (x:=.none) rfl (wpAny_pure ?_)))))));refine wpAny_bind (slicePart_none ?_);show wpAny _ _ (if((1:Int)==0)=true then _ else _) _ _ s;rw[if_neg (by decide)];refine wpAny_bind (xB pl (wpAny_bind (xB pu (wpAny_bind (wpAny_pure ?_)))));show wpAny _ _ (match Builtin.Slice.sliceAdjust lo hi 1 (n:Int)with|(lo,hi)=>pure (lo,(1:Int),Builtin.Slice.slicePlaces lo hi 1)) _ _ s;rw[Ep lo hi n];show wpAny _ _ (pure (((iA n 0 lo:Nat):Int),(1:Int),Builtin.Slice.slicePlaces ((iA n 0 lo:Nat):Int) ((iA n n hi:Nat):Int) 1)) _ _ s;rw[Er];exact wpAny_pure h
def JF(xs:Array Value)(i k:Nat):((List.range k).filterMap λ(m:Nat)=>xs[((i:Int)+(m:Int)*1).toNat]?).toArray=((xs.toList.drop i).take k).toArray:=by
 have e:(λ(m:Nat)=>xs[((i:Int)+(m:Int)*1).toNat]?)=λm=>xs[i+m]? :=by
  funext m;have:((i:Int)+(m:Int)*1).toNat=i+m:=by omega
  rw[this]
 rw[e];have:=pick_run xs i k;rw[List.filterMap_map]at this;have b:((λx=>xs[x]?)∘λx=>i+x)=λm=>xs[i+m]? :=rfl
 rw[b]at this;rw[this]
theorem tY{t sl:Addr}{a8:Array Value}{vl vu:Value}{lo hi:Option Int}{Q:Value->Shared->Prop}(ht:IsTup s.heap t a8)(hs:s.heap.IsSliceOf sl vl vu .none)(pl:IsPart vl lo)(pu:IsPart vu hi)
  (hw:¬(iA a8.size 0 lo=0/\iA a8.size a8.size hi=a8.size))
  (h:Q (.ref s.heap.objs.size) {s with heap:=s.heap.push {cls:=.type "tuple",data:=.seq ((a8.toList.drop (iA a8.size 0 lo)).take (iA a8.size a8.size hi - iA a8.size 0 lo)).toArray}})
  (hsz:a8.size<=sizeLine):wpAny (model prog w) A (getItem (.ref t) (.ref sl)) Q E s:=by
 have b:sizeOk (.seq ((a8.toList.drop (iA a8.size 0 lo)).take (iA a8.size a8.size hi - iA a8.size 0 lo)).toArray):=by
  show((a8.toList.drop (iA a8.size 0 lo)).take (iA a8.size a8.size hi - iA a8.size 0 lo)).toArray.size<=sizeLine;rw[List.size_toArray,List.length_take,List.length_drop,Array.length_toList];omega
 have I:iA a8.size a8.size hi<=a8.size:=Q4 _ _ (Nat.le_refl _) hi;obtain⟨os,l,n,L⟩:=id hs;have g:s.TypeIs (.ref sl) "slice":=⟨os,l,n⟩;unfold getItem
 try with_reducible refine wpAny_holding ?_
 first|refine wpAny_bind (wpAny_pure ?_)|skip
 refine wpAny_bind (wpAny_sequenceKey ht.typeIs (by decide) ?_);refine wpAny_bind (wpAny_callSpecial?_slot (name:=Str.ofString "__getitem__") ht.typeIs PyProof.Rows.slot_tuple_getitem
  (wpAny_call_entry PyProof.Rows.slot_tuple_getitem ht.typeIs entry_tuple_getitem ?_ (args_tuple_getitem _ _)))
 show wpAny _ _ (Builtin.Tuple.tupleItemsOf (.ref t)>>=_) _ _ s;refine wpAny_bind (tupleItemsOf_ ht ?_);refine wpAny_bind (wpAny_typeOf g ?_);rw[if_pos (by decide)];refine wpAny_bind (mP hs pl pu ?_);have r:¬((((iA a8.size 0 lo:Nat):Int)==0&&(1:Int)==1&&(iA a8.size a8.size hi - iA a8.size 0 lo)==a8.size)=true):=by
  intro q;rw[Bool.and_eq_true,Bool.and_eq_true]at q;have M:((iA a8.size 0 lo:Nat):Int)=0:=eq_of_beq q.1.1;have S:iA a8.size a8.size hi - iA a8.size 0 lo=a8.size:=eq_of_beq q.2;exact hw ⟨by omega,by omega⟩
 show wpAny _ _ (if(((iA a8.size 0 lo:Nat):Int)==0&&(1:Int)==1&&(iA a8.size a8.size hi - iA a8.size 0 lo)==a8.size)=true then _ else _) _ _ s;rw[if_neg r,JF]
 first
  |exact wpAny_bind (m:=Builtin.Tuple.tupleExact _) (wpAny_newObj_type (wpAny_pure ⟨_,rfl,wpAny_pure h⟩) b)
  |exact wpAny_bind (m:=Builtin.Tuple.tupleExact _) (wpAny_newObj_type (wpAny_bind (wpAny_pure (wpAny_pure ⟨_,rfl,wpAny_pure h⟩))) b)
  |exact wpAny_bind (wpAny_bind (m:=Builtin.Tuple.tupleExact _) (wpAny_newObj_type (wpAny_pure (wpAny_pure ⟨_,rfl,wpAny_pure h⟩)) b))
  |exact wpAny_bind (wpAny_bind (m:=Builtin.Tuple.tupleExact _) (wpAny_newObj_type (wpAny_pure ⟨_,rfl,wpAny_pure h⟩) b))
end
end HT
namespace Att
open PySem PySem.W PySem.Calls PyProof.Rows
def v_{P:Params}{h:Heap}:∀(ns:List Int) (vs:List Value),WellAll P h vs (ns.map WData.int)->IntsAre vs ns:=by
 intro ns
 induction ns with
 |nil=>
  intro vs w;rw[List.map_nil]at w;cases w;exact .nil
 |cons n ns g=>
  intro vs w;rw[List.map_cons]at w;cases w with
  |cons a b=>
   cases a;exact .cons _ _ (g _ b)
theorem HE{l:OpenLaw}{n:Nat}(hn:l.most=some n){P:Params}{h:Heap}{args:List WData}{vals:List Value}
  (M':l.row.toRowW.claim.pre args=true) (Vp:WellAll P h vals args):
  ∃a vs ns,vals=[Value.ref a]/\args=[WData.list (ns.map WData.int)]/\h.get? a=some {cls:=.type "list",data:=.seq vs.toArray}/\IntsAre vs ns/\ns.length<=n:=by
 have I:WShape.hasAll [] args [.list .int]=true:=(pre_splitW M').1;have L:l.pre.holds [] {args:=args}=true:=(pre_splitW M').2;obtain⟨d,r,rfl,h1,h2⟩:=hasAllW_cons I;obtain rfl:=hasAllW_nil h2;obtain⟨xs,rfl,M⟩:=hasW_list h1;obtain⟨ns,rfl⟩:=items_int M;have S:ns.length<=n:=by
  unfold OpenLaw.pre at L;have b:(WTm.not (.lt (.lit (.int (n:Int))) (.len (.arg 0)))).holds [] {args:=[.list (ns.map .int)]}=true:=by
   have b:=(holds_andW L).1;rw[hn]at b;exact b
  have g:=condW_of b (w_not (w_lt w_lit (w_len_list (w_arg rfl))));rw[List.length_map]at g;refine Nat.le_of_not_lt λq=>?_
  have q':(n:Int)<((ns.length:Nat):Int):=by omega
  first
   |(rw[decide_eq_true q']at g;exact absurd g (by decide))
   |(simp at g;omega)
 cases Vp with
 |cons w1 w2=>
  cases w2;cases w1 with
  |list ho u4=>exact⟨_,_,ns,rfl,rfl,ho,v_ ns _ u4,S⟩
theorem HF(l:OpenLaw)(args:List WData):l.row.toRowW.claim.post args (.bool true) args=true:=
 postW_of (r:=l.row.toRowW) (X:=(true==true))
  (show WShape.has [] (.bool true) .bool=true by first|rfl|decide|simp[WShape.has,WShape.arms,WShape.armsAll])
  (show(WTm.eq .res (.lit (.bool true))).value [] {args:=args,res:=some (.bool true),after:=args}=some (.bool (true==true))from w_eq_bool (w_res rfl) w_lit) rfl
def Cq{l:OpenLaw}{n:Nat}{q:Program}{loose:List Str}{XP:(Str->Option Value)->Heap->Prop}{YP:World->Heap->Prop}{d:DefRec}
  (hn:l.most=some n) (Vq:d.params.defaults=[])
  (call:∀(w:World) (gA dk:Shared) (mg mb:Str->Option Value) (fa:Addr) (o:Obj) (pm cd doc:Value) (a:Addr) (vs:List Value) (ns:List Int),
   Ground q loose [] XP w gA mg mb dk.heap->YP w dk.heap->
   dk.heap.get? fa=some o->o.data=.func (docDef d.name d.params d.body d.scope pm cd doc)->dk.heap.CodeRec cd d.name->mg d.name=some (.ref fa)->
   dk.heap.get? a=some {cls:=.type "list",data:=.seq vs.toArray}->IntsAre vs ns->ns.length<=n->dk.gens=#[]->
   codeAny (model l.prog w) callerA (.call (.ref fa) ⟨[.ref a],[]⟩) (λr s'=>r=.ok (.ret (.bool true))/\OldK dk.heap s'.heap/\s'.os=dk.os/\AllBare s'.gens) dk):
  WalkO q loose XP YP l.row.toRowW d [] (λf vs=>PySem.call f vs):=by
 intro w gA dk mg mb G g fa o pm cd doc I kV L hd M b S hg args vals as M' abP hrd Vp hlo;obtain rfl:I=.none:=Dflts.none b Vq;obtain rfl:kV=.none:=Dflts.noKw b;obtain⟨a,vs,ns,rfl,rfl,Q6,hints,b9⟩:=HE hn M' Vp;refine enter_call (codeAny_mono (call w gA dk mg mb fa o pm cd doc a vs ns G g L (fd_plain hd) M S Q6 hints b9 hg) λr s' hq=>?_);obtain⟨rfl,h2,h3,h4⟩:=hq;exact⟨.inl ⟨.bool true,.bool true,[],rfl,λ_=>rfl,.bool true,HF l _,λ_=>⟨List.Pairwise.nil,λ_ hm=>(nomatch hm)⟩⟩,h2,h3,h4⟩
end Att
namespace PySem
noncomputable abbrev Zs(h:Heap)(l1:Addr):Heap:=h.push {cls:=.type "tuple_iterator",data:=.fields #[.ref l1,.int 0 0]}
abbrev Zt(h:Heap)(l1 l2:Addr):Heap:=(Zs h l1).push {cls:=.type "tuple_iterator",data:=.fields #[.ref l2,.int 0 0]}
abbrev Zu(h:Heap)(l1 l2:Addr):Heap:=(Zt h l1 l2).push {cls:=.type "tuple",data:=.seq #[.ref h.objs.size,.ref (Zs h l1).objs.size]}
abbrev Zv(h:Heap)(l1 l2:Addr):Heap:=(Zu h l1 l2).push {cls:=.type "tuple",data:=.seq #[.none,.none]}
abbrev U0(h:Heap)(l1 l2:Addr):Heap:=(Zv h l1 l2).push {cls:=.type "zip",data:=.fields #[.none,.bool false,.bool false,.ref (Zt h l1 l2).objs.size,.ref (Zu h l1 l2).objs.size]}
theorem Et(l1 l2:Addr)(xs ys:Array Value):Meets (Builtin.«zip.__new__» ⟨[.type "zip",.ref l1,.ref l2],[]⟩)
  (λ_ R s=>s.heap.IsTuple l1 xs/\s.heap.IsTuple l2 ys/\R (.ok (.ret (.ref (Zv s.heap l1 l2).objs.size))) {s with heap:=U0 s.heap l1 l2}):=
 .of_wp λprog w A R s h=>by
  obtain⟨hp,g,d,tk,os⟩:=s;obtain⟨l,n,h⟩:=h;have I:=sub_zip;have r:Heap.IsTuple (Shared.heap ⟨hp,g,d,tk,os⟩) l1 xs:=l;have b:Heap.IsTuple (Shared.heap ⟨hp.push {cls:=.type "tuple_iterator",data:=.fields #[.ref l1,.int 0 0]},g,d,tk,os⟩) l2 ys:=n.at λo e=>Heap.get?_push_of_some _ e
  wp_walk using wpAny_pyIter_tuple r,wpAny_pyIter_tuple b
  exact⟨_,rfl,h⟩
section
variable {prog:Program}{w:World}{A:Around}{E:Value->Shared->Prop}{s:Shared}
theorem HG{l1 l2:Addr}{xs ys:Array Value}{Q:Value->Shared->Prop}(q:s.heap.IsTuple l1 xs)(Na:s.heap.IsTuple l2 ys)
  (h:∀h',IsZip h' (s.heap.objs.size+4) (s.heap.objs.size+2) (s.heap.objs.size+3) .none->IsPair h' (s.heap.objs.size+2) (.ref s.heap.objs.size) (.ref (s.heap.objs.size+1))->
   IsPair h' (s.heap.objs.size+3) .none .none->h'.IsTupleIter s.heap.objs.size l1 0->h'.IsTupleIter (s.heap.objs.size+1) l2 0->(∀c o,s.heap.get? c=some o->h'.get? c=some o)->Q (.ref (s.heap.objs.size+4)) {s with heap:=h'}):
  wpAny (model prog w) A (call (.type "zip") [.ref l1,.ref l2]) Q E s:=by
 refine callType_new F.called_zip (by decide) (F.typeCall_zip_2 _ _) (F.newCall_zip_2 _ _) (λobj=>F.args_object_init_3 obj _ _) F.entry_zip_new (Et l1 l2 xs ys) ⟨q,Na,?_⟩;have b:(Zs s.heap l1).objs.size=s.heap.objs.size+1:=Heap.size_push ..;have g:(Zt s.heap l1 l2).objs.size=s.heap.objs.size+2:=by rw[Heap.size_push,b]
 have l:(Zu s.heap l1 l2).objs.size=s.heap.objs.size+3:=by rw[Heap.size_push,g]
 have r:(Zv s.heap l1 l2).objs.size=s.heap.objs.size+4:=by rw[Heap.size_push,l]
 have up:∀{h:Heap} {c:Addr} {o o':Obj},h.get? c=some o->(h.push o').get? c=some o:=λe=>Heap.get?_push_of_some _ e;have n:(U0 s.heap l1 l2).get? (Zv s.heap l1 l2).objs.size=some _:=Heap.get?_push_size _ rfl;have I:(U0 s.heap l1 l2).get? (Zu s.heap l1 l2).objs.size=some _:=up (Heap.get?_push_size _ rfl);have g3:(U0 s.heap l1 l2).get? (Zt s.heap l1 l2).objs.size=some _:=up (up (Heap.get?_push_size _ rfl));have g2:(U0 s.heap l1 l2).get? (Zs s.heap l1).objs.size=some _:=up (up (up (Heap.get?_push_size _ rfl)));have g1:(U0 s.heap l1 l2).get? s.heap.objs.size=some _:=up (up (up (up (Heap.get?_push_size _ rfl))));show _/\_;rw[g,l,r]at n;rw[b,g]at g3;rw[l]at I;rw[b]at g2;rw[r];exact⟨⟨_,n,rfl⟩,h _ n g3 I ⟨_,g1,rfl,rfl⟩ ⟨_,g2,rfl,rfl⟩ λc o x=>up (up (up (up (up x))))⟩
end
end PySem
namespace PySem.SeqAt
open PySem PySem.Spec PySem.Calls PyProof.Rows PySem.MeetsSeq
def HH{M:Model}{A:Around}{E:Value->Shared->Prop}{s:Shared}{β:Type}(f:Nat->β->Sem (ForInStep β))(I:List Nat->β->Shared->Prop)(Q:β->Shared->Prop)
  (turn:∀x c9 b s,I (x::c9) b s->wpAny M A (f x b) (λr s'=>match r with|.yield q=>I c9 q s'|.done q=>Q q s') E s)
  (fin:∀b s,I [] b s->Q b s) (n:Nat) (b:β) (h:I (List.range' 0 n) b s):wpAny M A (forIn [:n] b f) Q E s:=by
 rw[Std.Legacy.Range.forIn_eq_forIn_range'];simp only[Std.Legacy.Range.size,Nat.sub_zero,Nat.add_sub_cancel,Nat.div_one];exact wpAny_forIn_list f I Q turn fin _ b h
theorem zh(l:Addr)(q:Array Value)(n:Nat)(dd:Option Addr)(sl:Array (Option Value))(x:Value)(e:Value->Bool)(j:Nat)(hj:j<q.size)(hit:e q[j]=true)(JG:∀m (hm:m<q.size),m<j->e q[m]=false):
  Meets (Builtin.«tuple.index» ⟨[.ref l,x],[]⟩)
   (λA R s=>s.heap.get? l=some {cls:=.type "tuple",dict:=dd,data:=.seq q n,slots:=sl}/\(∀y,y∈q->EqAt A.in1 s y x (e y))/\R (.ok (.ret (.int j s.toks))) {s with toks:=s.toks+1}):=
 .of_wp λprog w A R s h=>by
  obtain⟨hp,g,d,tk,os⟩:=s;obtain⟨L,he,h⟩:=h
  wp_walk using wpAny_loadPart' L,HH _ (λc9 (b:Option _×Unit) s'=>b.1=none/\s'=⟨hp,g,d,tk,os⟩/\∃i,c9=List.range' i (q.size - i)/\i<=j) _
  case turn=>
   rintro y c9 b s' ⟨hb,rfl,i,r,hi⟩
   have I:i<q.size:=Nat.lt_of_le_of_lt hi hj;obtain⟨rfl,M⟩:y=i/\c9=List.range' (i+1) (q.size - (i+1)):=by
    have e:q.size - i=(q.size - (i+1))+1:=by omega
    rw[e,List.range'_succ]at r;injection r with h1 h2
    exact⟨h1,h2⟩
   rw[Array.getElem?_eq_getElem I];refine wpAny_bind (he _ (Array.getElem_mem I) prog w _ _ ?_);by_cases z:y=j
   ·subst z;rw[hit]
    wp_walk
    exact⟨_,rfl,h⟩
   ·rw[JG y I (by omega)]
    wp_walk
    exact⟨rfl,rfl,y+1,M,by omega⟩
  case fin=>
   rintro b s' ⟨hb,rfl,i,r,hi⟩
   have e:q.size - i=(q.size - (i+1))+1:=by omega
   rw[e,List.range'_succ]at r;exact nomatch r
  case h=>exact⟨rfl,rfl,0,by rw[Nat.min_self,Nat.sub_zero],Nat.zero_le _⟩
end PySem.SeqAt
namespace HT
open PySem PyProof.Rows
section
variable {prog:Program}{w:World}{A:Around}{E:Value->Shared->Prop}{s:Shared}
theorem rA{t sl:Addr}{q:Array Value}{vl vu:Value}{lo hi:Option Int}{Q:Value->Shared->Prop}(ht:IsTup s.heap t q)(hs:s.heap.IsSliceOf sl vl vu .none)(pl:IsPart vl lo)(pu:IsPart vu hi)
  (hw:iA q.size 0 lo=0/\iA q.size q.size hi=q.size) (h:Q (.ref t) s):wpAny (model prog w) A (getItem (.ref t) (.ref sl)) Q E s:=by
 obtain⟨os,l,n,r⟩:=id hs;have b:s.TypeIs (.ref sl) "slice":=⟨os,l,n⟩;unfold getItem
 try with_reducible refine wpAny_holding ?_
 first|refine wpAny_bind (wpAny_pure ?_)|skip
 refine wpAny_bind (wpAny_sequenceKey ht.typeIs (by decide) ?_);refine wpAny_bind (wpAny_callSpecial?_slot (name:=Str.ofString "__getitem__") ht.typeIs PyProof.Rows.slot_tuple_getitem
  (wpAny_call_entry PyProof.Rows.slot_tuple_getitem ht.typeIs entry_tuple_getitem ?_ (args_tuple_getitem _ _)))
 show wpAny _ _ (Builtin.Tuple.tupleItemsOf (.ref t)>>=_) _ _ s;refine wpAny_bind (tupleItemsOf_ ht ?_);refine wpAny_bind (wpAny_typeOf b ?_);rw[if_pos (by decide)];refine wpAny_bind (mP hs pl pu ?_);have g:((((iA q.size 0 lo:Nat):Int)==0&&(1:Int)==1&&(iA q.size q.size hi - iA q.size 0 lo)==q.size)=true):=by
  rw[hw.1,hw.2];simp
 show wpAny _ _ (if(((iA q.size 0 lo:Nat):Int)==0&&(1:Int)==1&&(iA q.size q.size hi - iA q.size 0 lo)==q.size)=true then _ else _) _ _ s;rw[if_pos g];refine wpAny_bind (m:=Builtin.Tuple.tupleIsExact (.ref t)) ?_
 show wpAny _ _ (typeOf (.ref t)>>=_) _ _ s;refine wpAny_bind (wpAny_typeOf ht.typeIs (wpAny_pure ?_));rw[if_pos (by decide)];exact wpAny_bind (wpAny_rule (wpAny_pure ⟨_,rfl,wpAny_pure h⟩))
end
end HT
namespace L2
open PySem.W (Frag)
open PySem PySem.Spec PyProof.Rows
variable {aa:Heap}{ae:Unit->Shared->Prop}{af:Value}{ag:Type}{ah aj:List Stmt}{ai:Stmt}{ak:Array Value}{am:Expr}{aq:List Value}{au:Addr}{av:Str}{aw:Result->Shared->Prop}{ax:Scope}{ay:String}{az:Nat}{aA:List Expr}{aM:Option Value->Shared->Prop}
variable {K:Frag}{U:List (Addr×Obj)}{pos p b8:Pos}{E Q:Value->Shared->Prop}{es:List Expr}{e tg o:Expr}{s:Shared}{a:Addr}{x:Str}{w:World}{A:Around}{mg:Str->Option Value}{i:Nat}{P:Program}{ps:List Str}
def fe{p:Prop}(h:False):p:=h.elim
abbrev Db(x:Str):Prop:=(x==("__debug__":Str))=false
abbrev t7(pos b8:Pos)(o:Expr)(m:Str)(es:List Expr)(env:Env)(pl:Sem Bool):Sem Value:=do
 let ov<-eval o env
 standAt b8.atName
 let(f,first)<-holding [ov] (getMethod ov m pl)
 callWith pos f first (backTo pos (starEach es env)) (backToKw pos (keywordEach [] env))
abbrev Key:=Sum Int Str
noncomputable def mQ:Key->Value->Bool
 |.inl k,v=>Value.isInt k v
 |.inr x,v=>Value.isStrOf x v
def aac(w:World):Key->Int
 |.inl k=>hashInt k
 |.inr x=>hashStr w x
theorem dS:∀{k:Key} {v:Value},mQ k v=true->(∃i t,k=Sum.inl i/\v=Value.int i t)\/(∃x t,k=Sum.inr x/\v=Value.str x t)
 |.inl i,v,h=>by
  obtain⟨t,e⟩:=Value.isInt_shape (k:=i) (v:=v) h;exact .inl ⟨i,t,rfl,e⟩
 |.inr x,v,h=>by
  obtain⟨t,e⟩:=Value.isStrOf_shape (x:=x) (v:=v) h;exact .inr ⟨x,t,rfl,e⟩
theorem HI(i:Int)(t:Tok):mQ (.inl i) (.int i t)=true:=by simp[mQ,Value.isInt]
theorem HJ(x:Str)(t:Tok):mQ (.inr x) (.str x t)=true:=by simp[mQ,Value.isStrOf]
def Q8(a b:Int):decide ((Sum.inl a:Key)=Sum.inl b)=(a==b):=by
 by_cases e:a=b
 ·subst e;simp
 ·have h:¬(Sum.inl a:Key)=Sum.inl b:=λq=>e (Sum.inl.inj q);rw[fF h];exact(jn.mpr e).symm
def Q9(a b:Str):decide ((Sum.inr a:Key)=Sum.inr b)=decide (a=b):=by
 by_cases e:a=b
 ·subst e;simp
 ·have h:¬(Sum.inr a:Key)=Sum.inr b:=λq=>e (Sum.inr.inj q);rw[fF h,fF e]
def Q_(a:Int)(b:Str):decide ((Sum.inl a:Key)=Sum.inr b)=false:=fF (λq=>nomatch q)
def Ra(a:Str)(b:Int):decide ((Sum.inr a:Key)=Sum.inl b)=false:=fF (λq=>nomatch q)
def cp(prog:Program)(w:World):PySem.KeyKind prog w Key where
 is:=mQ
 hash:=aac w
 inj:=λv a b n hb=>by
  rcases dS n with⟨i,t,rfl,rfl⟩|⟨x,t,rfl,rfl⟩
  ·rcases dS hb with⟨j,u,rfl,e⟩|⟨y,u,rfl,e⟩
   ·injection e with g _;rw[g]
   ·exact nomatch e
  ·rcases dS hb with⟨j,u,rfl,e⟩|⟨y,u,rfl,e⟩
   ·exact nomatch e
   ·injection e with g _;rw[g]
 byValue:=λk v h=>by
  rcases dS h with⟨i,t,rfl,rfl⟩|⟨x,t,rfl,rfl⟩<;>rfl
 pyHash:=λl h=>by
  rcases dS l with⟨i,t,rfl,rfl⟩|⟨x,t,rfl,rfl⟩
  ·exact wpAny_pyHash_int h
  ·exact wpAny_pyHash_str h
 eqBool:=λr l h=>by
  rcases dS r with⟨i,t,rfl,rfl⟩|⟨x,t,rfl,rfl⟩
  ·rcases dS l with⟨j,u,rfl,rfl⟩|⟨y,u,rfl,rfl⟩
   ·rw[Q8]at h;exact wpAny_eqBool_int h
   ·rw[Q_]at h;exact SeqAt.EqAt.int_str i t y u _ _ _ _ h
  ·rcases dS l with⟨j,u,rfl,rfl⟩|⟨y,u,rfl,rfl⟩
   ·rw[Ra]at h;exact SeqAt.EqAt.str_int x t j u _ _ _ _ h
   ·rw[Q9]at h;exact wpAny_eqBool_str h
 «strs»:=λk x t v h=>by
  rcases dS h with⟨i,u,rfl,e⟩|⟨y,u,rfl,e⟩
  ·exact nomatch e
  ·injection e with g _
   subst g;cases v<;>rfl
def Cr(prog:Program)(w:World)(i:Int)(t:Tok):(cp prog w).is (.inl i) (.int i t)=true:=HI i t
def Cs(prog:Program)(w:World)(x:Str)(t:Tok):(cp prog w).is (.inr x) (.str x t)=true:=HJ x t
set_option genInjectivity true in
inductive V where
 |cA|bl (b:Bool)|int (i:Int)|str (x:Str)|PR (b:Array UInt8)|AL (b:UInt64)|ref (a:Addr)|ty (n:String)
 deriving DecidableEq
variable {ar:List V}
variable {kvs:List (Key×V)}
def RelV:V->Value->Prop
 |.cA,u=>u=Value.none
 |.bl b,u=>u=Value.bool b
 |.int i,u=>∃t,u=Value.int i t
 |.str x,u=>∃t,u=Value.str x t
 |.PR b,u=>∃t,u=Value.bytes b t
 |.AL b,u=>∃t,u=Value.float b t
 |.ref a,u=>u=Value.ref a
 |.ty n,u=>u=Value.type n
abbrev Vals:List V->List Value->Prop:=Paired RelV
theorem Vals.length {xs:List V}{us:List Value}(r:Vals xs us):xs.length=us.length:=Paired.length r
theorem Vals.get:∀{xs:List V} {us:List Value} {i:Nat} {x:V},Vals xs us->xs[i]?=some x->∃u,us[i]?=some u/\RelV x u
 |_,_,_,_,.nil,e=>by simp at e
 |_,_,0,_,.cons r _,e=>by simp at e;subst e;exact⟨_,rfl,r⟩
 |_,_,i+1,x,.cons _ t,e=>by
  obtain⟨u,h1,h2⟩:=Vals.get (i:=i) (x:=x) t (by simpa using e);exact⟨u,by simpa using h1,h2⟩
theorem Vals.set {x:V}{u:Value}(r:RelV x u):∀{xs:List V} {us:List Value} (i:Nat),Vals xs us->Vals (xs.set i x) (us.set i u)
 |_,_,_,.nil=>.nil
 |_,_,0,.cons _ t=>.cons r t
 |_,_,i+1,.cons q t=>.cons q (Vals.set r i t)
theorem Vals.append:∀{xs ys:List V} {us ws:List Value},Vals xs us->Vals ys ws->Vals (xs++ys) (us++ws)
 |_,_,_,_,.nil,s=>s
 |_,_,_,_,.cons r t,s=>.cons r (Vals.append t s)
theorem Vals.take:∀{xs:List V} {us:List Value} (n:Nat),Vals xs us->Vals (xs.take n) (us.take n)
 |_,_,0,_=>.nil
 |_,_,_+1,.nil=>.nil
 |_,_,n+1,.cons r t=>.cons r (Vals.take n t)
theorem Vals.drop:∀{xs:List V} {us:List Value} (n:Nat),Vals xs us->Vals (xs.drop n) (us.drop n)
 |_,_,0,r=>r
 |_,_,_+1,.nil=>.nil
 |_,_,n+1,.cons _ t=>Vals.drop n t
def l8:Option V->Option Value->Prop
 |some v,some u=>RelV v u
 |none,none=>True
 |_,_=>False
def KV{κ:Type}:List (κ×V)->List (κ×Value)->Prop:=Paired λ(p:κ×V) (q:κ×Value)=>p.1=q.1/\RelV p.2 q.2
noncomputable def kV:Key->V
 |.inl i=>.int i
 |.inr x=>.str x
inductive HO where
 |lst (xs:List V)
 |tup (xs:List V)
 |dK (kvs:List (Key×V))|dT (kvs:List (List Key×V))
 |set (S:Int->Bool) (n:Nat)
 |ins (C dx:Addr) (fs:List (Str×V))
 |own (x:Addr)
 |xd (fs:List (Str×V))
 |met (f x:Addr)
 |Zw (lo hi:Int)
 |lH (o:Obj) (u:HO)
 |PU (ps:Array Value)
 |ext (φ:Heap->Prop)
abbrev Hp:=Addr->Option HO
variable {ac:Hp}
variable {H:Hp}
noncomputable def upd(H:Hp)(a:Addr)(o:HO):Hp:=λb=>if b=a then some o else H b
def bM{o:HO}:upd H a o a=some o:=by unfold upd;rw[aW rfl]
def bp{b:Addr}{o:HO}(h:b≠a):upd H a o b=H b:=by unfold upd;rw[bc h]
theorem Vu{b:Addr}{o u:HO}(h:H a=some o)(h':H b=some u)(d:o≠u):a≠b:=by
 intro e;subst e;rw[h]at h';exact d (Option.some.inj h')
def bS{b:Addr}{o:HO}(h:H a=some o)(h':H b=none):a≠b:=by
 intro e;subst e;rw[h]at h';cases h'
section
variable (P:Program)(w:World)
def cZ(H:Hp)(h:Heap)(a:Addr):HO->Prop
 |.lst xs=>xs.length<=sizeLine/\∃(cy:List Value) (n:Nat),Vals xs cy/\h.get? a=some {cls:=.type "list",data:=.seq cy.toArray n}
 |.tup xs=>xs.length<=sizeLine/\∃cy:List Value,Vals xs cy/\IsTup h a cy.toArray
 |.dK kvs=>kvs.length<=sizeLine/\(a==sysModules)=false/\∃vs,KV kvs vs/\h.DictOf (cp P w) a vs
 |.dT kvs=>kvs.length<=sizeLine/\(a==sysModules)=false/\∃xs:List (List Key×Addr×Value),
   Paired (λ(p:List Key×V) (q:List Key×Addr×Value)=>p.1=q.1/\H q.2.1=some (.tup (p.1.map kV))/\RelV p.2 q.2.2) kvs xs/\
   ∃o es ep,h.get? a=some o/\o.ExactDict/\o.data=.dict es ep/\es.toList=xs.map (entryOfKey (tupleKind (cp P w)))/\(xs.map (·.1)).Nodup
 |.set S n=>h.SetOf (intKind P w) a S n
 |.ins C dx fs=>H dx=some (.own a)/\fs.length<=1000/\dx≠a/\h.get? a=some (PySem.W.instObj C dx)/\
   ∃mA,h.Ns1 dx mA/\(∀f,l8 (fs.lookup f) (mA f))/\PySem.Within mA (fs.map (·.1))
 |.own _=>∃o,h.get? a=some o
 |.xd fs=>∃mA,h.Ns1 a mA/\∀f,l8 (fs.lookup f) (mA f)
 |.Zw lo hi=>∃t u v,h.get? a=some {cls:=.type "range",data:=.fields #[.int lo t,.int hi u,.int 1 v]}
 |.lH o u=>h.get? a=some o/\cZ H h a u
 |.PU ps=>h.get? a=some {cls:=.none,data:=.fields ps}
 |.met f x=>h.get? a=some (PySem.W.methodObj (.ref f) (.ref x))
 |.ext φ=>φ h/\(∃o,h.get? a=some o)/\∀h1 h2:Heap,φ h1->(∀o,h1.get? a=some o->h2.get? a=some o)->φ h2
def r9(H:Hp)(h:Heap):Prop:=∀a o,H a=some o->cZ P w H h a o
end
section
variable {h':Heap}{o:HO}
theorem cZ.lt (x:cZ P w H aa a o):a<aa.objs.size:=by
 cases o with
 |lst xs=>obtain⟨_,_,_,_,e⟩:=x;exact bx e
 |tup xs=>obtain⟨_,_,_,p⟩:=x;exact p.lt
 |dK kvs=>obtain⟨_,_,_,_,o,_,_,e,_⟩:=x;exact bx e
 |dT kvs=>obtain⟨_,_,_,_,o,_,_,e,_⟩:=x;exact bx e
 |set S n=>obtain⟨o,_,_,_,e,_⟩:=x;exact bx e
 |ins C dx fs=>obtain⟨_,_,_,e,_⟩:=x;exact bx e
 |own y=>obtain⟨_,e⟩:=x;exact bx e
 |xd fs=>obtain⟨_,⟨_,_,_,e,_⟩,_⟩:=x;exact bx e
 |Zw lo hi=>obtain⟨_,_,_,e⟩:=x;exact bx e
 |lH b u=>obtain⟨e,_⟩:=x;exact bx e
 |PU ps=>exact bx (show aa.get? a=some _ from x)
 |met f y=>exact bx (show aa.get? a=some _ from x)
 |ext g=>obtain⟨_,⟨_,e⟩,_⟩:=x;exact bx e
theorem Paired.Rb {α β:Type}{F G:α->β->Prop}:∀{q:List α} {AM:List β},Paired F q AM->(∀a b,F a b->G a b)->Paired G q AM
 |_,_,.nil,_=>.nil
 |_,_,.cons r t,f=>.cons (f _ _ r) (Paired.Rb t f)
theorem cZ.pK (x:cZ P w H aa a o)(k:∀b u,(b=a\/H b=some (.own a))->aa.get? b=some u->h'.get? b=some u)
  (ho:∀b,H b=some (.own a)->ac b=some (.own a)) (ht:∀b xs,H b=some (.tup xs)->ac b=some (.tup xs)):cZ P w ac h' a o:=by
 induction o with
 |lst xs=>obtain⟨z,cy,n,r,e⟩:=x;exact⟨z,cy,n,r,k _ _ (.inl rfl) e⟩
 |tup xs=>obtain⟨z,cy,r,ob,e,c⟩:=x;exact⟨z,cy,r,ob,k _ _ (.inl rfl) e,c⟩
 |dK kvs=>obtain⟨z,y,vs,r,ob,es,ep,e,c⟩:=x;exact⟨z,y,vs,r,ob,es,ep,k _ _ (.inl rfl) e,c⟩
 |dT kvs=>
  obtain⟨z,y,xs,r,ob,es,ep,e,c⟩:=x;exact⟨z,y,xs,Paired.Rb r λp q z=>⟨z.1,ht _ _ z.2.1,z.2.2⟩,ob,es,ep,k _ _ (.inl rfl) e,c⟩
 |set S n=>obtain⟨ob,es,ep,t,e,c⟩:=x;exact⟨ob,es,ep,t,k _ _ (.inl rfl) e,c⟩
 |ins C dx fs=>
  obtain⟨d,z,ne,e,mA,⟨g,es,ep,l,c⟩,r⟩:=x;exact⟨ho _ d,z,ne,k _ _ (.inl rfl) e,mA,⟨g,es,ep,k _ _ (.inr d) l,c⟩,r⟩
 |own y=>obtain⟨ob,e⟩:=x;exact⟨ob,k _ _ (.inl rfl) e⟩
 |xd fs=>obtain⟨mA,⟨g,es,ep,e,c⟩,r⟩:=x;exact⟨mA,⟨g,es,ep,k _ _ (.inl rfl) e,c⟩,r⟩
 |Zw lo hi=>obtain⟨t,u,v,e⟩:=x;exact⟨t,u,v,k _ _ (.inl rfl) e⟩
 |lH ob u I=>obtain⟨e,q⟩:=x;exact⟨k _ _ (.inl rfl) e,I q⟩
 |PU ps=>
  have e:aa.get? a=some {cls:=.none,data:=.fields ps}:=x;show h'.get? a=some {cls:=.none,data:=.fields ps};exact k a _ (.inl rfl) e
 |met f y=>
  have e:aa.get? a=some (PySem.W.methodObj (.ref f) (.ref y)):=x;show h'.get? a=some (PySem.W.methodObj (.ref f) (.ref y));exact k a _ (.inl rfl) e
 |ext L=>obtain⟨p,⟨o,e⟩,st⟩:=x;exact⟨st _ _ p λo q=>k _ _ (.inl rfl) q,⟨o,k _ _ (.inl rfl) e⟩,st⟩
theorem r9.lt (x:r9 P w H aa)(e:H a=some o):a<aa.objs.size:=(x a o e).lt
def r9.fresh (x:r9 P w H aa)(e:aa.objs.size<=a):H a=none:=by
 cases q:H a with
 |none=>rfl
 |some u=>exact absurd (dh (x.lt q) e) (eV _)
def r9.kept (x:r9 P w H aa)(k:∀b u,aa.get? b=some u->h'.get? b=some u):r9 P w H h':=λa o e=>
 (x a o e).pK (λb u _ q=>k b u q) (λ_ q=>q) λ_ _ q=>q
def r9.laid (x:r9 P w H aa)(k:∀b u,aa.get? b=some u->h'.get? b=some u)(hp:aa.objs.size<=a)(new:cZ P w (upd H a o) h' a o):r9 P w (upd H a o) h':=λb u e=>by
 have g:=x.fresh hp;by_cases hb:b=a
 ·subst hb;rw[bM]at e;cases e;exact new
 ·rw[bp hb]at e;exact(x b u e).pK (λc v _ q=>k c v q) (λc q=>by rw[bp (bS q g)];exact q) λc xs q=>by rw[bp (bS q g)];exact q
end
def Rd(H:Hp)(a:Addr)(u:HO):Prop:=H a=some u\/∃o,H a=some (.lH o u)
def Rd.ok {h:Heap}{a:Addr}{u:HO}(r:Rd H a u)(x:r9 P w H h):cZ P w H h a u:=by
 rcases r with r|⟨o,r⟩
 ·exact x a u r
 ·obtain⟨_,q⟩:=x a _ r;exact q
def Vx:Option HO->Prop
 |some (.lst _)=>True
 |some (.dK _)=>True
 |some (.dT _)=>True
 |some (.set _ _)=>True
 |some (.ins _ _ _)=>True
 |some (.ext _)=>True
 |_=>False
section
variable {h':Heap}{x e:Addr}{o':HO}
def r9.write (ok:r9 P w H aa)(mu:Vx (H x))(he:e=x\/H e=some (.own x))(k:∀b u,b≠e->aa.get? b=some u->h'.get? b=some u)(U1:∃u,h'.get? e=some u)
  (new:cZ P w (upd H x o') h' x o'):r9 P w (upd H x o') h':=λb u q=>by
 have I:∀c y,H c=some (.own y)->c≠x:=λc y r z=>by subst z;rw[r]at mu;exact mu
 have n:∀c xs,H c=some (.tup xs)->c≠x:=λc xs r z=>by subst z;rw[r]at mu;exact mu
 by_cases hb:b=x
 ·subst hb;rw[bM]at q;cases q;exact new
 ·rw[bp hb]at q;by_cases g:b=e
  ·have L:H b=some (.own x):=by
    rcases he with z|z
    ·exact absurd (g.trans z) hb
    ·rw[g];exact z
   rw[q]at L;cases L;obtain⟨v,M⟩:=U1;exact⟨v,by rw[g];exact M⟩
  ·refine(ok b u q).pK (λc v l r=>k c v ?_ r) (λc r=>by rw[bp (I c b r)];exact r) λc xs r=>by rw[bp (n c xs r)];exact r
   rcases l with rfl|l
   ·exact g
   ·rintro rfl
    rcases he with z|z
    ·exact I c b l z
    ·rw[l]at z;cases z;exact hb rfl
end
structure Un(fs ex:List Addr)(H H':Hp)(h h':Heap):Prop where
 keep:∀b o,h.get? b=some o->H b=none->b∉fs->b∉ex->h'.get? b=some o
 slot:∀b o,h.get? b=some o->H b=none->b∈fs->b∉ex->∃sl,h'.get? b=some {o with slots:=sl}
 free:∀b o,h.get? b=some o->H b=none->b∉ex->H' b=none
 there:∀b o,h.get? b=some o->b∉ex->∃o',h'.get? b=some o'
 mR:∀b xs,H b=some (.tup xs)->H' b=some (.tup xs)
 lI:∀b o u,H b=some (.lH o u)->H' b=some (.lH o u)
 nM:∀b ps,H b=some (.PU ps)->∃more,H' b=some (.PU (ps++more))
section
variable {fs fs' ex ex':List Addr}{H2:Hp}{h h2 h':Heap}{x e:Addr}{o:HO}
def Un.any (u:Un fs ex H ac h aa){b:Addr}{ob:Obj}(q:h.get? b=some ob)(n:H b=none)(hx:b∉ex):∃sl,aa.get? b=some {ob with slots:=sl}:=by
 by_cases hb:b∈fs
 ·exact u.slot b ob q n hb hx
 ·exact⟨ob.slots,u.keep b ob q n hb hx⟩
theorem Un.trans (a:Un fs ex H ac h aa)(b:Un fs ex ac H2 aa h2):Un fs ex H H2 h h2 where
 keep:=λc g q n I l=>b.keep c g (a.keep c g q n I l) (a.free c g q n l) I l
 slot:=λc g q n I l=>by
  obtain⟨sl,r⟩:=a.slot c g q n I l;obtain⟨M,L⟩:=b.slot c _ r (a.free c g q n l) I l;exact⟨M,L⟩
 free:=λc g q n l=>by
  obtain⟨o',r⟩:=a.there c g q l;exact b.free c o' r (a.free c g q n l) l
 there:=λc g q l=>by
  obtain⟨o',r⟩:=a.there c g q l;exact b.there c o' r l
 mR:=λc xs q=>b.mR c xs (a.mR c xs q)
 lI:=λc g xs q=>b.lI c g xs (a.lI c g xs q)
 nM:=λc ps q=>by
  obtain⟨S,r⟩:=a.nM c ps q;obtain⟨m2,L⟩:=b.nM c _ r;exact⟨S++m2,by rw[L,Array.append_assoc]⟩
def Un.kept (k:∀b u,h.get? b=some u->h'.get? b=some u):Un fs ex H H h h':=
 ⟨λb g q _ _ _=>k b g q,λb g q _ _ _=>⟨g.slots,k b g q⟩,λ_ _ _ n _=>n,λb g q _=>⟨g,k b g q⟩,λ_ _ q=>q,λ_ _ _ q=>q,λ_ ps q=>⟨#[],by rw[q];simp⟩⟩
def Un.refl:Un fs ex H H h h:=Un.kept λ_ _ q=>q
def Un.laid (k:∀b u,h.get? b=some u->h'.get? b=some u)(hp:h.objs.size<=a)(hn:H a=none):Un fs ex H (upd H a o) h h' where
 keep:=λb u q _ _ _=>k b u q
 slot:=λb u q _ _ _=>⟨u.slots,k b u q⟩
 free:=λb u q n _=>by rw[bp (cc (dh (bx q) hp))];exact n
 there:=λb u q _=>⟨u,k b u q⟩
 mR:=λb xs q=>by rw[bp (bS q hn)];exact q
 lI:=λb u xs q=>by rw[bp (bS q hn)];exact q
 nM:=λb ps q=>⟨#[],by rw[bp (bS q hn),q];simp⟩
def Un.write (mu:Vx (H x))(he:e=x\/H e=some (.own x))(k:∀b u,b≠e->h.get? b=some u->h'.get? b=some u)(U1:∃u,h'.get? e=some u):Un fs ex H (upd H x o) h h':=by
 have g:∀b,H b=none->b≠x:=λb n z=>by subst z;rw[n]at mu;exact mu
 have hb:∀b,H b=none->b≠e:=λb n z=>by
  subst z;rcases he with r|r
  ·exact g b n r
  ·rw[n]at r;cases r
 have hm:∀b u,H b=some u->¬Vx (some u)->b≠x:=λb u q nm z=>by subst z;rw[q]at mu;exact nm mu
 refine⟨λb u q n _ _=>k b u (hb b n) q,λb u q n _ _=>⟨u.slots,k b u (hb b n) q⟩,λb u q n _=>by rw[bp (g b n)];exact n,λb u q _=>?_,
  λb xs q=>by rw[bp (hm b _ q λz=>z)];exact q,λb u xs q=>by rw[bp (hm b _ q λz=>z)];exact q,λb ps q=>⟨#[],by rw[bp (hm b _ q λz=>z),q];simp⟩⟩
 by_cases l:b=e
 ·subst l;exact U1
 ·exact⟨u,k b u l q⟩
end
noncomputable def Zx(h:Heap)(H:Hp):List Addr:=(List.range h.objs.size).filter λa=>(H a).isSome
def AN(h:Heap)(H:Hp):Heap:=PySem.W.hideAll h (Zx h H)
def HK(h:Heap)(H:Hp):(AN h H).objs.size=h.objs.size:=PySem.W.hideAll_size _ _
def JH{o:Obj}(e:aa.get? a=some o)(n:H a=none):(AN aa H).get? a=some o:=
 mz _ e λhm=>by
  have q:(H a).isSome=true:=(gy.mp hm).2;rw[n]at q;simp at q
def Nb{h:Heap}{o:Obj}(e:(AN h H).get? a=some o):h.get? a=some o/\H a=none:=by
 have b:h.get? a=some o:=mB (Zx h H) e;refine⟨b,?_⟩;cases q:H a with
 |none=>rfl
 |some x=>
  have hm:a∈Zx h H:=gy.mpr ⟨tM.mpr (bx b),by simp[q]⟩;have z:(AN h H).get? a=none:=lM (Zx h H) hm;rw[z]at e;cases e
structure Mod(K:Frag)(mg:Str->Option Value)(base:Heap):Prop where
 PV:K.In base
 glob:base.Ns mainGlobals mg
 blt:∃mb,base.Ns builtinsNs mb/\∀x:Str,x≠"__name__"->mb x=bootBuiltins x
 nolimit:base.NoLimit
structure Cx where
 prog:Program
 w:World
 K:Frag
 mg:Str->Option Value
 base:Heap
 A:Around
 N:List Str
 gA:Shared
 Ct:Hp
 env:Env
 outer:List Env
 stack:List Env
 ex:List Addr
 fn:Str->Bool
 calm:Bool
 pn:List (Addr×Obj)
 xe:Value->Shared->Prop
variable {X:Cx}
abbrev zf(X:Cx)(x:Str):Prop:=X.fn x=true\/X.env.scope.names.lookup x=some .local
noncomputable def kc(l:List Env):List Addr:=l.filterMap (·.frame)
abbrev Cx.fs (X:Cx):List Addr:=kc X.outer
def Zy(sc:Scope)(x:Str):Prop:=sc.names.lookup x=some .local\/sc.names.lookup x=some .cell\/sc.names.lookup x=some .free
def Loc(sc:Scope)(x:Str):Prop:=sc.names.lookup x=some .local\/sc.names.lookup x=some .cell
def Look(env:Env)(h:Heap)(m:Str->Option Value)(x:Str)(u:Value):Prop:=
 (env.kindOf x=some .local/\m x=some u)\/((env.kindOf x=some .cell\/env.kindOf x=some .free)/\∃c,env.cells.lookup x=some c/\h.IsCell c (some u))
structure Cx.Ok (X:Cx):Prop where
 mod:Mod X.K X.mg X.base
 kind:X.env.scope.kind=.function
 glob:X.env.globals=mainGlobals
 blt:X.env.builtins=builtinsNs
 above:X.gA.heap.objs.size<=X.env.locals
 inj:∀x y c,X.env.cells.lookup x=some c->X.env.cells.lookup y=some c->x=y
 has:∀x,(X.env.kindOf x=some .cell\/X.env.kindOf x=some .free)->∃c,X.env.cells.lookup x=some c
 PX:∀x c,X.fn x=true->X.env.cells.lookup x=some c->X.gA.heap.objs.size<=c
 hd:X.calm=true->X.A.handled=none
 frames:X.A.frames=some X.stack
 M0:X.stack=X.outer\/(X.stack=X.env::X.outer/\X.env.frame=some X.env.locals)
 U2:∀b∈X.ex,b≠X.env.locals/\∀x c,X.env.cells.lookup x=some c->c≠b
 bs:∀b o,X.base.get? b=some o->X.gA.heap.get? b=some o/\X.Ct b=none
 HL:X.base.objs.size<=X.gA.heap.objs.size
 AO:∀b o,X.base.get? b=some o->b∉X.ex
 Cu:∀b∈X.ex,b∉X.fs
 rB:X.gA.heap.FunFrames X.base X.outer
 JI:∀b∈X.fs,X.Ct b=none
structure Inv(X:Cx)(U:List (Addr×Obj))(Z:List (Option V))(H:Hp)(s:Shared):Prop where
 ok:X.Ok
 os:s.os=X.gA.os
 bare:AllBare s.gens
 base:Un X.fs X.ex X.Ct H X.gA.heap s.heap
 loc:∃m,s.heap.Ns X.env.locals m/\∀(i:Nat) (x:Str) (v:V),X.N[i]?=some x->Z[i]?=some (some v)->Zy X.env.scope x->∃u,RelV v u/\Look X.env s.heap m x u
 cell:∀x c,X.env.cells.lookup x=some c->∃v,s.heap.IsCell c v
 free:H X.env.locals=none
 f':∀x c,X.env.cells.lookup x=some c->H c=none
 pin:∀p∈X.pn++U,s.heap.get? p.1=some p.2/\H p.1=none/\p.1≠X.env.locals/\p.1∉X.fs/\∀v,p.2.data≠ .cell v
 cY:r9 X.prog X.w H s.heap
 len:Z.length=X.N.length
section
variable {Z:List (Option V)}{H':Hp}{h':Heap}
def Cx.Ok.aae (ok:X.Ok){b:Addr}{o:Obj}(e:X.base.get? b=some o):b∉X.fs:=λhb=>by
 have:=(ok.rB.mem hb).1;rw[e]at this;cases this
theorem Inv.bs (I:Inv X U Z H s):∀b o,X.base.get? b=some o->s.heap.get? b=some o/\H b=none:=λb o e=>
 ⟨I.base.keep b o (I.ok.bs b o e).1 (I.ok.bs b o e).2 (I.ok.aae e) (I.ok.AO b o e),I.base.free b o (I.ok.bs b o e).1 (I.ok.bs b o e).2 (I.ok.AO b o e)⟩
def Inv.bk (I:Inv X U Z H s):∀b o,X.base.get? b=some o->s.heap.get? b=some o:=λb o e=>(I.bs b o e).1
theorem Inv.mod (I:Inv X U Z H s):Mod X.K X.mg X.base:=I.ok.mod
def Inv.l9 (I:Inv X U Z H s):X.K.In s.heap:=I.ok.mod.PV.keeps I.bk
def Inv.fr (I:Inv X U Z H s):∃m,Fr X.base X.env.locals s.heap m:=
 let⟨m,hn,_⟩:=I.loc
 ⟨m,hn,I.bk,cF I.ok.HL I.ok.above⟩
theorem Inv.lt (I:Inv X U Z H s):X.env.locals<s.heap.objs.size:=let⟨_,hn,_⟩:=I.loc;hn.lt
def Inv.sz (I:Inv X U Z H s):X.gA.heap.objs.size<=s.heap.objs.size:=cF I.ok.above (dC I.lt)
def Inv.VA (I:Inv X U Z H s)(h:s.heap.objs.size<=a):a∉X.fs:=λhb=>by
 obtain⟨_,o,b,_⟩:=I.ok.rB.mem hb;exact absurd (dh (bx b) (cF I.sz h)) (eV _)
def Inv.HM (I:Inv X U Z H s):∀x c,X.env.cells.lookup x=some c->c≠X.env.locals:=λx c e z=>by
 obtain⟨v,o,b,hd⟩:=I.cell x c e;obtain⟨m,⟨o',es,ep,g,l,_⟩,_⟩:=I.loc;rw[z,g]at b;cases b;rw[l]at hd;cases hd
theorem Inv.rB (I:Inv X U Z H s):s.heap.FunFrames X.base X.outer:=by
 have all:∀(l:List Env),(∀b∈kc l,b∈X.fs)->X.gA.heap.FunFrames X.base l->s.heap.FunFrames X.base l:=by
  intro l
  induction l with
  |nil=>intro _ _;trivial
  |cons env r n=>
   intro hs M;obtain⟨S,⟨L,o,hf,hn,q,hd⟩,hr⟩:=M;have g:L∈X.fs:=hs L (by unfold kc;rw[o5,hf];exact cD);obtain⟨sl,e⟩:=I.base.slot L o q (I.ok.JI L g) g λz=>I.ok.Cu L z g;exact⟨S,⟨L,_,hf,hn,e,hd⟩,n (λb hb=>hs b (by unfold kc;rw[o5,hf];exact cu _ hb)) hr⟩
 exact all X.outer (λ_ hb=>hb) I.ok.rB
theorem Inv.stack (I:Inv X U Z H s):s.heap.FunFrames X.base X.stack:=by
 rcases I.ok.M0 with e|⟨e,hf⟩
 ·rw[e];exact I.rB
 ·rw[e];obtain⟨m,hn,_⟩:=I.loc;refine .cons (by rw[I.ok.kind];decide) hf hn ?_ I.rB
  exact Heap.get?_none_of_le (cF I.ok.HL I.ok.above)
def Inv.xC (I:Inv X U Z H s):∀b∈kc X.stack,b∈X.env.locals::X.fs:=λb hb=>by
 rcases I.ok.M0 with e|⟨e,hf⟩
 ·rw[e]at hb;exact cu _ hb
 ·rw[e]at hb;unfold kc at hb;rw[o5,hf]at hb;exact hb
def Inv.wx (I:Inv X U Z H s):∀b∈kc X.stack,H b=none:=λb hb=>by
 rcases bG.mp (I.xC b hb)with e|hb
 ·rw[e];exact I.free
 ·obtain⟨_,o,g,_⟩:=I.ok.rB.mem hb;exact I.base.free b o g (I.ok.JI b hb) λz=>I.ok.Cu b z hb
def Inv.step {g':Array GenState}{t':Nat}{d':Drawn}{ch:List Addr}(I:Inv X U Z H s)
  (zF:∀b∈ch,(b∈X.ex\/X.gA.heap.objs.size<=b)/\b≠X.env.locals/\(∀x c,X.env.cells.lookup x=some c->c≠b)/\∀p∈X.pn++U,p.1≠b)
  (keep:∀b o,b≠X.env.locals->b∉X.fs->b∉ch->s.heap.get? b=some o->H b=none->h'.get? b=some o)
  (slot:∀b o,b≠X.env.locals->b∈X.fs->b∉ch->s.heap.get? b=some o->H b=none->∃sl,h'.get? b=some {o with slots:=sl}) (free:∀b o,b∉ch->s.heap.get? b=some o->H b=none->H' b=none)
  (there:∀b o,b∉ch->s.heap.get? b=some o->∃o',h'.get? b=some o')
  (mR:∀b xs,H b=some (.tup xs)->H' b=some (.tup xs)) (lI:∀b o u,H b=some (.lH o u)->H' b=some (.lH o u)) (nM:∀b ps,H b=some (.PU ps)->∃more,H' b=some (.PU (ps++more)))
  (ns:∀m,s.heap.Ns X.env.locals m->h'.Ns X.env.locals m) (cY:r9 X.prog X.w H' h') (hg:AllBare g'):
  Inv X U Z H' {s with heap:=h',gens:=g',drawn:=d',toks:=t'}:=by
 have S:∀b o,X.gA.heap.get? b=some o->b≠X.env.locals:=λb o e=>cc (dh (bx e) I.ok.above);have Nf:∀b o,X.gA.heap.get? b=some o->b∉X.ex->b∉ch:=λb o e g hb=>by
  rcases(zF b hb).1 with z|z
  ·exact g z
  ·exact absurd (dh (bx e) z) (eV _)
 have cellK:∀x c,X.env.cells.lookup x=some c->∀v,s.heap.IsCell c v->h'.IsCell c v:=λx c e v ⟨o,M,hd⟩=>by
  have JJ:c∉ch:=λz=>(zF c z).2.2.1 x c e rfl;by_cases hc:c∈X.fs
  ·obtain⟨sl,q⟩:=slot c o (I.HM x c e) hc JJ M (I.f' x c e);exact⟨_,q,hd⟩
  ·exact⟨o,keep c o (I.HM x c e) hc JJ M (I.f' x c e),hd⟩
 refine⟨I.ok,I.os,hg,⟨λb o e n hb g=>?_,λb o e n hb g=>?_,λb o e n g=>?_,λb o e g=>?_,λb xs e=>mR b xs (I.base.mR b xs e),λb o xs e=>lI b o xs (I.base.lI b o xs e),λb ps e=>?_⟩,?_,λx c e=>?_,?_,λx c e=>?_,λp hp=>?_,cY,I.len⟩
 ·exact keep b o (S b o e) hb (Nf b o e g) (I.base.keep b o e n hb g) (I.base.free b o e n g)
 ·obtain⟨sl,L⟩:=I.base.slot b o e n hb g;obtain⟨Vz,e2⟩:=slot b _ (S b o e) hb (Nf b o e g) L (I.base.free b o e n g);exact⟨Vz,e2⟩
 ·obtain⟨o',L⟩:=I.base.there b o e g;exact free b o' (Nf b o e g) L (I.base.free b o e n g)
 ·obtain⟨o',L⟩:=I.base.there b o e g;exact there b o' (Nf b o e g) L
 ·obtain⟨m1,L⟩:=I.base.nM b ps e;obtain⟨m2,e2⟩:=nM b _ L;exact⟨m1++m2,by rw[e2,Array.append_assoc]⟩
 ·obtain⟨m,hn,hl⟩:=I.loc;refine⟨m,ns m hn,λi x v L e2 e3=>?_⟩;obtain⟨u,r,l⟩:=hl i x v L e2 e3;refine⟨u,r,?_⟩;rcases l with l|⟨k,c,e,z⟩
  ·exact .inl l
  ·exact .inr ⟨k,c,e,cellK x c e _ z⟩
 ·obtain⟨v,z⟩:=I.cell x c e;exact⟨v,cellK x c e v z⟩
 ·obtain⟨m,⟨o,_,_,M,_⟩,_⟩:=I.loc;exact free _ o (λz=>(zF _ z).2.1 rfl) M I.free
 ·obtain⟨v,o,M,hd⟩:=I.cell x c e;exact free c o (λz=>(zF c z).2.2.1 x c e rfl) M (I.f' x c e)
 ·obtain⟨e,n,ne,nf,d⟩:=I.pin p hp;have JJ:p.1∉ch:=λz=>(zF p.1 z).2.2.2 p hp rfl;exact⟨keep p.1 p.2 ne nf JJ e n,free p.1 p.2 JJ e n,ne,nf,d⟩
theorem Inv.un {t':Nat}(I:Inv X U Z H s)(u:Un X.fs [] H H' s.heap h')(q:r9 X.prog X.w H' h'):Inv X U Z H' {s with heap:=h',toks:=t'}:=by
 obtain⟨m,⟨o,es,ep,g,r⟩,_⟩:=id I.loc;obtain⟨sl,L⟩:=u.any g I.free (by simp);exact I.step (g':=s.gens) (d':=s.drawn) (ch:=[]) (λ_ z=>nomatch z) (λb o _ hb _ e n=>u.keep b o e n hb (by simp)) (λb o _ hb _ e n=>u.slot b o e n hb (by simp)) (λb o _ e n=>u.free b o e n (by simp)) (λb o _ e=>u.there b o e (by simp)) u.mR u.lI u.nM (λm' hm=>by
  obtain⟨o',M,S,l,r'⟩:=hm;rw[g]at l;cases l;exact⟨_,M,S,L,r'⟩) q I.bare
theorem Inv.call {g':Array GenState}{t':Nat}{d':Drawn}{ch:List Addr}(I:Inv X U Z H s)(u:Un (kc X.stack) ch H H' s.heap h')(cY:r9 X.prog X.w H' h')(hg:AllBare g')
  (q:∀b∈ch,(b∈X.ex\/X.gA.heap.objs.size<=b)/\b≠X.env.locals/\(∀x c,X.env.cells.lookup x=some c->c≠b)/\∀p∈X.pn++U,p.1≠b):
  Inv X U Z H' {s with heap:=h',gens:=g',drawn:=d',toks:=t'}:=by
 obtain⟨m,⟨o,es,ep,L,r⟩,_⟩:=id I.loc;obtain⟨sl,l⟩:=u.any L I.free λz=>(q _ z).2.1 rfl;exact I.step (ch:=ch) q (λb o l hb g e n=>u.keep b o e n (λz=>(bG.mp (I.xC b z)).elim l hb) g) (λb o _ _ g e n=>u.any e n g) (λb o g e n=>u.free b o e n g) (λb o g e=>u.there b o e g) u.mR u.lI u.nM (λm' hm=>by
  obtain⟨o',S,JK,M,r'⟩:=hm;rw[L]at M;cases M;exact⟨_,S,JK,l,r'⟩) cY hg
def Inv.turned {t':Nat}{it:Addr}(I:Inv X U Z H s)(k:∀b o,b≠it->s.heap.get? b=some o->h'.get? b=some o)(hn:H it=none)(hL:it≠X.env.locals)
  (h1:it∈X.ex\/X.gA.heap.objs.size<=it) (h2:∀x c,X.env.cells.lookup x=some c->c≠it) (h3:∀p∈X.pn++U,p.1≠it):Inv X U Z H {s with heap:=h',toks:=t'}:=by
 have l:∀b u,H b=some u->b≠it:=λb u e z=>by rw[z,hn]at e;cases e
 refine I.step (g':=s.gens) (d':=s.drawn) (ch:=[it]) (λb hb=>?_) (λb o _ _ g e _=>k b o (λz=>g (by simp[z])) e) (λb o _ _ g e _=>⟨o.slots,k b o (λz=>g (by simp[z])) e⟩) (λ_ _ _ _ n=>n)
  (λb o g e=>⟨o,k b o (λz=>g (by simp[z])) e⟩) (λ_ _ e=>e) (λ_ _ _ e=>e) (λb ps e=>⟨#[],by rw[e];simp⟩) (λm hm=>?_) (λb u e=>?_) I.bare
 ·have e:b=it:=by simpa using hb
  subst e;exact⟨h1,hL,h2,h3⟩
 ·obtain⟨o,es,ep,L,r⟩:=hm;exact⟨o,es,ep,k _ o (Ne.symm hL) L,r⟩
 ·refine(I.cY b u e).pK (λc v g q=>k c v ?_ q) (λ_ q=>q) λ_ _ q=>q;rcases g with z|z
  ·rw[z];exact l b u e
  ·exact l c _ z
def Inv.tok (I:Inv X U Z H s)(t:Nat):Inv X U Z H {s with toks:=t}:=I.un (h':=s.heap) (t':=t) Un.refl I.cY
theorem Inv.kept {t':Nat}(I:Inv X U Z H s)(k:∀b u,s.heap.get? b=some u->h'.get? b=some u):Inv X U Z H {s with heap:=h',toks:=t'}:=I.un (Un.kept k) (I.cY.kept k)
theorem Inv.laid {a:Addr}{o:HO}{t':Nat}(I:Inv X U Z H s)(k:∀b u,s.heap.get? b=some u->h'.get? b=some u)(hp:s.heap.objs.size<=a)(new:cZ X.prog X.w (upd H a o) h' a o):
  Inv X U Z (upd H a o) {s with heap:=h',toks:=t'}:=I.un (Un.laid k hp (I.cY.fresh hp)) (I.cY.laid k hp new)
theorem Inv.write {x e:Addr}{o:HO}{t':Nat}(I:Inv X U Z H s)(q:Vx (H x))(he:e=x\/H e=some (.own x))(k:∀b u,b≠e->s.heap.get? b=some u->h'.get? b=some u)(U1:∃u,h'.get? e=some u)
  (new:cZ X.prog X.w (upd H x o) h' x o):Inv X U Z (upd H x o) {s with heap:=h',toks:=t'}:=I.un (Un.write q he k U1) (I.cY.write q he k U1 new)
def Inv.ko {JL:List (Addr×Obj)}(I:Inv X U Z H s)(h:∀p∈JL,s.heap.get? p.1=some p.2/\H p.1=none/\p.1≠X.env.locals/\p.1∉X.fs/\∀v,p.2.data≠ .cell v):Inv X JL Z H s:=
 ⟨I.ok,I.os,I.bare,I.base,I.loc,I.cell,I.free,I.f',λp hp=>(dr.mp hp).elim (λz=>I.pin p (kj _ z)) (h p),I.cY,I.len⟩
theorem t8(q:ps.Nodup){j:Nat}(a:ps[i]?=some x)(b:ps[j]?=some x):i=j:=by
 obtain⟨n,g⟩:=gu.mp a;obtain⟨h2,l⟩:=gu.mp b;exact(List.getElem_inj q).mp (g.trans l.symm)
theorem zG{M:Model}{v:V}(I:Inv X U Z H s)(hN:X.N.Nodup)(hi:X.N[i]?=some x)(hx:Loc X.env.scope x)(r:RelV v af)
  (h:∀s',Inv X U (Z.set i (some v)) H s'->(∃a,Heap.SameBut a s.heap s'.heap/\(a=X.env.locals\/X.env.cells.lookup x=some a))->ae () s') (hf:zf X x:=by first|exact .inl rfl|exact .inr rfl|assumption):wpAny M A (storeName X.env x af) ae E s:=by
 obtain⟨m,hn,hl⟩:=id I.loc;have AR:(X.env.scope.kind== .class||(X.env.scope.kind== .module&&X.env.locals !=X.env.globals))=false:=by rw[I.ok.kind];rfl
 have VB:i<Z.length:=by rw[I.len];exact(gu.mp hi).1
 have HM:=I.HM;have tracked:∀{a:Addr} {h':Heap},(∃o,s.heap.get? a=some o/\H a=none)->Heap.SameBut a s.heap h'->r9 X.prog X.w H h':=λ{a h'} ha hs b ob e=>by
  obtain⟨_,_,F2⟩:=ha;refine(I.cY b ob e).pK (λc w' l q=>(hs.2 c ?_).trans q) (λ_ q=>q) λ_ _ q=>q
  rintro rfl
  rcases l with rfl|l
  ·rw[F2]at e;cases e
  ·rw[F2]at l;cases l
 rcases hx with S|S
 ·refine wpAny_storeName_local S hn (λh' PY hs=>?_) AR;obtain⟨oL,_,_,F3,_⟩:=id hn;refine h _ ⟨I.ok,I.os,I.bare,⟨λb o e n hb hx=>?_,λb o e n hb hx=>?_,I.base.free,λb o e hx=>?_,I.base.mR,I.base.lI,I.base.nM⟩,⟨_,PY,λj y v' g L e3=>?_⟩,λy c e=>?_,I.free,I.f',λp hp=>?_,tracked ⟨oL,F3,I.free⟩ hs,by simpa using I.len⟩ ⟨_,hs,.inl rfl⟩
  ·exact(hs.2 b (cc (dh (bx e) I.ok.above))).trans (I.base.keep b o e n hb hx)
  ·obtain⟨sl,g⟩:=I.base.slot b o e n hb hx;exact⟨sl,(hs.2 b (cc (dh (bx e) I.ok.above))).trans g⟩
  ·obtain⟨o',g⟩:=I.base.there b o e hx;exact⟨o',(hs.2 b (cc (dh (bx e) I.ok.above))).trans g⟩
  ·by_cases hj:j=i
   ·subst hj;rw[hi]at g;cases g;rw[oY VB]at L;cases L;exact⟨af,r,.inl ⟨S,by simp⟩⟩
   ·rw[my (Ne.symm hj)]at L;obtain⟨u',r',q⟩:=hl j y v' g L e3;refine⟨u',r',?_⟩;rcases q with⟨k,e⟩|⟨k,c,e,z⟩
    ·refine .inl ⟨k,?_⟩;have:y≠x:=λe=>hj (t8 hN g (e▸hi));simp[this,e]
    ·exact .inr ⟨k,c,e,z.sameBut hs (HM y c e)⟩
  ·obtain⟨w',z⟩:=I.cell y c e;exact⟨w',z.sameBut hs (HM y c e)⟩
  ·obtain⟨e,n,ne,nf,d⟩:=I.pin p hp;exact⟨(hs.2 p.1 ne).trans e,n,ne,nf,d⟩
 ·have Ng:X.fn x=true:=by
   rcases hf with z|z
   ·exact z
   ·rw[z]at S;cases S
  obtain⟨c,l⟩:=I.ok.has x (.inl S);obtain⟨w',z⟩:=I.cell x c l;refine wpAny_storeName_cell I.ok.kind S l z (λh' VC hs=>?_);obtain⟨oc,Rf,aaf⟩:=id z;refine h {s with heap:=h'} ⟨I.ok,I.os,I.bare,⟨λb o e n hb hx=>?_,λb o e n hb hx=>?_,I.base.free,λb o e hx=>?_,I.base.mR,I.base.lI,I.base.nM⟩,⟨m,hn.sameBut hs (Ne.symm (HM x c l)),λj y v' g L e3=>?_⟩,λy c' e=>?_,I.free,I.f',λp hp=>?_,tracked ⟨oc,Rf,I.f' x c l⟩ hs,by simpa using I.len⟩ ⟨c,hs,.inr l⟩
  ·exact(hs.2 b (cc (dh (bx e) (I.ok.PX x c Ng l)))).trans (I.base.keep b o e n hb hx)
  ·obtain⟨sl,g⟩:=I.base.slot b o e n hb hx;exact⟨sl,(hs.2 b (cc (dh (bx e) (I.ok.PX x c Ng l)))).trans g⟩
  ·obtain⟨o',g⟩:=I.base.there b o e hx;exact⟨o',(hs.2 b (cc (dh (bx e) (I.ok.PX x c Ng l)))).trans g⟩
  ·by_cases hj:j=i
   ·subst hj;rw[hi]at g;cases g;rw[oY VB]at L;cases L;exact⟨af,r,.inr ⟨.inl S,c,l,VC⟩⟩
   ·rw[my (Ne.symm hj)]at L;obtain⟨u',r',q⟩:=hl j y v' g L e3;refine⟨u',r',?_⟩;rcases q with q|⟨k,c',e,z'⟩
    ·exact .inl q
    ·refine .inr ⟨k,c',e,z'.sameBut hs ?_⟩
     rintro rfl
     exact hj (t8 hN g (I.ok.inj _ _ _ e l▸hi))
  ·by_cases hcc:c'=c
   ·subst hcc;exact⟨_,VC⟩
   ·obtain⟨w2,z2⟩:=I.cell y c' e;exact⟨w2,z2.sameBut hs hcc⟩
  ·obtain⟨e,n,ne,nf,d⟩:=I.pin p hp;refine⟨(hs.2 p.1 ?_).trans e,n,ne,nf,d⟩;intro q;rw[q,Rf]at e;have q':oc=p.2:=Option.some.inj e;exact d w' (by rw[<-q'];exact aaf)
def xD{M:Model}{v:V}(I:Inv X U Z H s)(q:X.N.Nodup)(hi:X.N[i]?=some x)(hx:Loc X.env.scope x)(r:RelV v af)
  (h:∀s',Inv X U (Z.set i (some v)) H s'->ae () s') (hf:zf X x:=by first|exact .inl rfl|exact .inr rfl|assumption):wpAny M A (storeName X.env x af) ae E s:=
 zG I q hi hx r (λs' b _=>h s' b) hf
def Inv.VD {s':Shared}{ch:List Addr}(I:Inv X U Z H s)(q:s'.os=s.os)(u:Un (kc X.stack) ch H H' s.heap s'.heap)(cY:r9 X.prog X.w H' s'.heap)(hg:AllBare s'.gens)
  (zF:∀b∈ch,(b∈X.ex\/X.gA.heap.objs.size<=b)/\b≠X.env.locals/\(∀x c,X.env.cells.lookup x=some c->c≠b)/\∀p∈X.pn++U,p.1≠b):Inv X U Z H' s':=by
 obtain⟨h',g',d',t',o'⟩:=s';have e:o'=s.os:=q;subst e;exact I.call (g':=g') (t':=t') (d':=d') u cY hg zF
end
abbrev XK:=Value->Option Addr->Hp->Prop
abbrev St:=List (Option V)
variable {Z:St}
abbrev VK:=V->Hp->Prop
abbrev TE:=St->Hp->VK->Prop
abbrev TT:=St->Hp->(Bool->Hp->Prop)->Prop
abbrev TA:=St->Hp->(List V->Hp->Prop)->Prop
structure Ends where
 nx:St->Hp->Prop
 rt:VK
 bk:St->Hp->Prop:=fun _ _=>False
 ct:St->Hp->Prop:=fun _ _=>False
abbrev TS:=Ends->St->Hp->Prop
def EP(X:Cx)(U:List (Addr×Obj))(Z:St)(Q:VK)(u:Value)(s':Shared):Prop:=∃v H',Inv X U Z H' s'/\RelV v u/\Q v H'
def TP(X:Cx)(U:List (Addr×Obj))(Z:St)(Q:Bool->Hp->Prop)(b:Bool)(s':Shared):Prop:=∃H',Inv X U Z H' s'/\Q b H'
def AP(X:Cx)(U:List (Addr×Obj))(Z:St)(Q:List V->Hp->Prop)(us:List Value)(s':Shared):Prop:=∃vs H',Inv X U Z H' s'/\Vals vs us/\Q vs H'
def SP(X:Cx)(U:List (Addr×Obj))(D:Ends)(f:Flow)(s':Shared):Prop:=
 match f with
 |.next=>∃b H',Inv X U b H' s'/\D.nx b H'
 |.brk=>∃b H',Inv X U b H' s'/\D.bk b H'
 |.cont=>∃b H',Inv X U b H' s'/\D.ct b H'
 |.ret u=>∃v b H',Inv X U b H' s'/\RelV v u/\D.rt v H'
def PE(X:Cx)(e:Expr)(t:TE):Prop:=
 ∀(U:List (Addr×Obj)) (s:Shared) (Z:St) (H:Hp) (Q:VK),Inv X U Z H s->t Z H Q->wpAny (model X.prog X.w) X.A (eval e X.env) (EP X U Z Q) X.xe s
def PT(X:Cx)(e:Expr)(t:TT):Prop:=
 ∀(U:List (Addr×Obj)) (s:Shared) (Z:St) (H:Hp) (Q:Bool->Hp->Prop),Inv X U Z H s->t Z H Q->wpAny (model X.prog X.w) X.A (isTrue e X.env (eval e X.env)) (TP X U Z Q) X.xe s
def PW(X:Cx)(e:Expr)(t:TT):Prop:=
 ∀(whole:Sem Value) (U:List (Addr×Obj)) (s:Shared) (Z:St) (H:Hp) (Q:Bool->Hp->Prop),Inv X U Z H s->t Z H Q->wpAny (model X.prog X.w) X.A (isTrue e X.env whole) (TP X U Z Q) X.xe s
def PW.pt {t:TT}(h:PW X e t):PT X e t:=h _
def PA(X:Cx)(es:List Expr)(t:TA):Prop:=
 ∀(pos:Pos) (U:List (Addr×Obj)) (s:Shared) (Z:St) (H:Hp) (Q:List V->Hp->Prop),Inv X U Z H s->t Z H Q->wpAny (model X.prog X.w) X.A (spliced (backTo pos (starEach es X.env))) (AP X U Z Q) X.xe s
def PS(X:Cx)(st:Stmt)(t:TS):Prop:=
 ∀(U:List (Addr×Obj)) (s:Shared) (Z:St) (H:Hp) (D:Ends),Inv X U Z H s->t D Z H->wpAny (model X.prog X.w) X.A (exec st X.env) (SP X U D) X.xe s
def oU(X:Cx)(st:List Stmt)(t:TS):Prop:=
 ∀(U:List (Addr×Obj)) (s:Shared) (Z:St) (H:Hp) (D:Ends),Inv X U Z H s->t D Z H->wpAny (model X.prog X.w) X.A (execs st X.env) (SP X U D) X.xe s
def eK{t:Sem ag}{Q q:ag->Shared->Prop}{M:Model}(h:wpAny M A t Q E s)(hQ:∀a s,Q a s->q a s):wpAny M A t q E s:=d_ h hQ λ_ _ x=>x
section
def aag(i:Nat):TE:=λZ H Q=>∃v,Z[i]?=some (some v)/\Q v H
def tC(v:V):TE:=λ_ H Q=>Q v H
theorem Rg(q:X.N[i]?=some x)(hv:Zy X.env.scope x)(hd:Db x:=by decide) (Es:(x==("__classdict__":Str))=false:=by decide):PE X (.Name x pos) (aag i):=by
 intro U s Z H Q I h;obtain⟨v,e,h⟩:=h;obtain⟨m,hn,L⟩:=I.loc;obtain⟨u,r,l⟩:=L i x v q e hv;have fin:EP X U Z Q u s:=⟨v,H,I,r,h⟩;rcases l with⟨b,hm⟩|⟨b,c,g,n⟩
 ·exact wpAny_Name (wpAny_loadName_local I.ok.kind b hn hm fin) hd
 ·rcases b with b|b
  ·exact wpAny_Name (wpAny_loadName_cell I.ok.kind b g n fin) hd
  ·exact wpAny_Name (wpAny_loadName_free I.ok.kind b g n fin Es) hd
def Rh{i j pos}:PE X (.Constant (.int i) j pos) (tC (.int i)):=λ_ _ _ H _ I h=>wpAny_Constant_int ⟨.int i,H,I.tok _,⟨_,rfl⟩,h⟩
def VE{b j pos}:PE X (.Constant (.bool b) j pos) (tC (.bl b)):=λ_ _ _ H _ I h=>Constant_bool ⟨.bl b,H,I,rfl,h⟩
def Ri{j pos}:PE X (.Constant .none j pos) (tC .cA):=λ_ _ _ H _ I h=>Constant_none ⟨.cA,H,I,rfl,h⟩
def Rj{x j pos}:PE X (.Constant (.str x) j pos) (tC (.str x)):=λ_ _ _ H _ I h=>Calls.Constant_str ⟨.str x,H,I.tok _,⟨_,rfl⟩,h⟩
def Gl(X:Cx)(x:Str):Prop:=X.env.kindOf x=some .globalImplicit
def qO(I:Inv X U Z H s)(q:Gl X x)(hm:X.mg x=some af)(h:Q af s)
  (hd:Db x:=by decide):wpAny (model X.prog X.w) X.A (eval (.Name x pos) X.env) Q E s:=
 wX I.ok.kind q (Calls.loadGlobal_global (by rw[I.ok.glob];exact I.mod.glob.keeps I.bk) hm h) hd
def u5{u:Value}(I:Inv X U Z H s)(q:Gl X x)(hm:X.mg x=none)(hv:bootBuiltins x=some u)(h:Q u s)
  (hn:x≠"__name__":=by decide) (hd:Db x:=by decide):wpAny (model X.prog X.w) X.A (eval (.Name x pos) X.env) Q E s:=by
 obtain⟨b,h1,h2⟩:=I.mod.blt;exact wX I.ok.kind q (Calls.loadGlobal_builtin (by rw[I.ok.glob];exact I.mod.glob.keeps I.bk) hm (by rw[I.ok.blt];exact h1.keeps I.bk) ((h2 x hn).trans hv) h) hd
def AS{v:V}(q:Gl X x)(hm:X.mg x=some af)(r:RelV v af)(hd:Db x:=by decide):PE X (.Name x pos) (tC v):=
 λ_ _ _ H _ I h=>qO I q hm ⟨v,H,I,r,h⟩ hd
def F4{v:V}(q:Gl X x)(hm:X.mg x=none)(hv:bootBuiltins x=some af)(r:RelV v af)(hn:x≠"__name__":=by decide) (hd:Db x:=by decide):PE X (.Name x pos) (tC v):=
 λ_ _ _ H _ I h=>u5 I q hm hv ⟨v,H,I,r,h⟩ hn hd
variable {a b:Expr}{ta tb:TE}
variable {tA Zz:TT}{c9:List Expr}
def aah(t u:TT):TT:=λZ H Q=>t Z H λc H1=>if c=true then u Z H1 Q else Q false H1
def tOr(t u:TT):TT:=λZ H Q=>t Z H λc H1=>if c=true then Q true H1 else u Z H1 Q
def aai(t:TT):TT:=λZ H Q=>t Z H λc H1=>Q (!c) H1
theorem pw_and1(q:PT X a tA):PW X (.BoolOp .And [a] pos) tA:=by
 intro wh U s Z H Q I h;refine isTrue_and (eK (q U s Z H Q I h) λc s1 e=>?_);cases c with
 |true=>exact isTrue_and_nil e
 |false=>exact e
theorem pw_or1(q:PT X a tA):PW X (.BoolOp .Or [a] pos) tA:=by
 intro wh U s Z H Q I h;refine isTrue_or (eK (q U s Z H Q I h) λc s1 e=>?_);cases c with
 |false=>exact isTrue_or_nil e
 |true=>exact e
theorem pw_and(q:PT X a tA)(hb:PW X (.BoolOp .And (b::c9) pos) Zz):PW X (.BoolOp .And (a::b::c9) pos) (aah tA Zz):=by
 intro wh U s Z H Q I h;refine isTrue_and (eK (q U s Z H _ I h) λc s1 ⟨H1,g,l⟩=>?_);cases c with
 |true=>exact hb wh U s1 Z H1 Q g l
 |false=>exact⟨H1,g,l⟩
theorem pw_or(q:PT X a tA)(hb:PW X (.BoolOp .Or (b::c9) pos) Zz):PW X (.BoolOp .Or (a::b::c9) pos) (tOr tA Zz):=by
 intro wh U s Z H Q I h;refine isTrue_or (eK (q U s Z H _ I h) λc s1 ⟨H1,g,l⟩=>?_);cases c with
 |true=>exact⟨H1,g,l⟩
 |false=>exact hb wh U s1 Z H1 Q g l
theorem JM(q:PT X a tA):PT X (.UnaryOp .Not a pos) (aai tA):=by
 intro U s Z H Q I h;exact isTrue_not (q U s Z H (λc H1=>Q (!c) H1) I h)
theorem Rk{op}{t:TE}(h:PE X a t):PE X (.BoolOp op [a] pos) t:=λU s Z H Q I hw=>BoolOp_one (h U s Z H Q I hw)
def tIf(t:TT)(ta tb:TE):TE:=λZ H Q=>t Z H λc H1=>if c=true then ta Z H1 Q else tb Z H1 Q
theorem JN(q:PT X e tA)(ha:PE X a ta)(hb:PE X b tb):PE X (.IfExp e a b pos) (tIf tA ta tb):=by
 intro U s Z H Q I h;refine wpAny_IfExp (eK (q U s Z H _ I h) λd s1 ⟨H1,g,l⟩=>?_);cases d with
 |true=>exact ha U s1 Z H1 Q g l
 |false=>exact hb U s1 Z H1 Q g l
end
def lR(K:Frag)(H:Hp)(a:Addr)(xs:List V):Prop:=
 Rd H a (.lst xs)\/
  ∃(o:Obj) (cy:Array Value) (n:Nat),K.lookup a=some o/\o.cls=.type "list"/\o.dict=none/\o.data=.seq cy n/\cy.size<=sizeLine/\Vals xs cy.toList
def js(K:Frag)(H:Hp)(a:Addr)(xs:List V):Prop:=
 Rd H a (.tup xs)\/
  ∃(o:Obj) (cy:Array Value) (n:Nat),K.lookup a=some o/\o.cls=.type "tuple"/\o.data=.seq cy n/\cy.size<=sizeLine/\Vals xs cy.toList
noncomputable def aaj:Value->Option V
 |.none=>some .cA
 |.bool b=>some (.bl b)
 |.int i _=>some (.int i)
 |.str x _=>some (.str x)
 |.bytes b _=>some (.PR b)
 |.float b _=>some (.AL b)
 |.ref a=>some (.ref a)
 |.type n=>some (.ty n)
 |_=>none
def RelV.abs {x:V}{u:Value}(r:RelV x u):aaj u=some x:=by
 cases x with
 |cA=>cases r;rfl
 |bl _=>cases r;rfl
 |int _=>obtain⟨t,rfl⟩:=r;rfl
 |str _=>obtain⟨t,rfl⟩:=r;rfl
 |PR _=>obtain⟨t,rfl⟩:=r;rfl
 |AL _=>obtain⟨t,rfl⟩:=r;rfl
 |_=>cases r;rfl
theorem RelV.inj {x y:V}{u:Value}(r:RelV x u)(q:RelV y u):x=y:=Option.some.inj (r.abs.symm.trans q.abs)
theorem Vals.inj:∀{xs ys:List V} {us:List Value},Vals xs us->Vals ys us->xs=ys
 |_,_,_,.nil,.nil=>rfl
 |_,_,_,.cons r t,.cons b t'=>by rw[r.inj b,Vals.inj t t']
section
variable {xs ys:List V}
def lR.of (h:H a=some (.lst xs)):lR K H a xs:=.inl (.inl h)
def js.of (h:H a=some (.tup xs)):js K H a xs:=.inl (.inl h)
def Inv.list (I:Inv X U Z H s)(h:lR X.K H a xs):∃cy:List Value,Vals xs cy/\PlainL s.heap a cy.toArray/\xs.length<=sizeLine:=by
 rcases h with h|⟨o,cy,n,b,g,hd,hs,hz,r⟩
 ·obtain⟨z,cy,n,r,e⟩:=h.ok I.cY;exact⟨cy,r,⟨_,n,e,rfl,rfl,rfl⟩,z⟩
 ·refine⟨cy.toList,r,⟨o,n,I.l9 a o b,g,hd,by simpa using hs⟩,?_⟩;have e:=r.length;simp only[gv]at e;omega
def Inv.tuple (I:Inv X U Z H s)(h:js X.K H a xs):∃cy:List Value,Vals xs cy/\IsTup s.heap a cy.toArray/\xs.length<=sizeLine:=by
 rcases h with h|⟨o,cy,n,b,g,hs,hz,r⟩
 ·obtain⟨z,cy,r,p⟩:=h.ok I.cY;exact⟨cy,r,p,z⟩
 ·refine⟨cy.toList,r,⟨o,I.l9 a o b,g,n,by simpa using hs⟩,?_⟩;have e:=r.length;simp only[gv]at e;omega
theorem Inv.JO (I:Inv X U Z H s)(h:lR X.K H a xs)(h':lR X.K H a ys):xs=ys:=by
 obtain⟨cy,r,⟨o,n,e,_,_,d⟩,_⟩:=I.list h;obtain⟨t9,g,⟨o',L,b,_,_,d'⟩,_⟩:=I.list h';rw[e]at b;cases b;rw[d]at d';injection d' with l _
 have:cy=t9:=by simpa using cX Array.toList l
 subst this;exact r.inj g
theorem Inv.qP (I:Inv X U Z H s)(h:js X.K H a xs)(h':js X.K H a ys):xs=ys:=by
 obtain⟨cy,r,⟨o,e,_,n,d⟩,_⟩:=I.tuple h;obtain⟨t9,g,⟨o',b,_,L,d'⟩,_⟩:=I.tuple h';rw[e]at b;cases b;rw[d]at d';injection d' with l _
 have:cy=t9:=by simpa using cX Array.toList l
 subst this;exact r.inj g
end
noncomputable abbrev Cx.zk (X:Cx)(E:Value->Shared->Prop):Cx:={X with xe:=E}
abbrev Cx.Jz (X:Cx):Cx:=X.zk fun _ _=>False
theorem Cx.Ok.zk (ok:X.Ok)(E:Value->Shared->Prop):(X.zk E).Ok:=
 ⟨ok.mod,ok.kind,ok.glob,ok.blt,ok.above,ok.inj,ok.has,ok.PX,ok.hd,ok.frames,ok.M0,ok.U2,ok.bs,ok.HL,ok.AO,ok.Cu,ok.rB,ok.JI⟩
def Cx.Ok.pL (ok:(X.zk E).Ok):X.Ok:=
 ⟨ok.mod,ok.kind,ok.glob,ok.blt,ok.above,ok.inj,ok.has,ok.PX,ok.hd,ok.frames,ok.M0,ok.U2,ok.bs,ok.HL,ok.AO,ok.Cu,ok.rB,ok.JI⟩
theorem Inv.zk (I:Inv X U Z H s)(E:Value->Shared->Prop):Inv (X.zk E) U Z H s:=⟨I.ok.zk E,I.os,I.bare,I.base,I.loc,I.cell,I.free,I.f',I.pin,I.cY,I.len⟩
theorem Inv.pL (I:Inv (X.zk E) U Z H s):Inv X U Z H s:=⟨I.ok.pL,I.os,I.bare,I.base,I.loc,I.cell,I.free,I.f',I.pin,I.cY,I.len⟩
theorem SP.pL {D:Ends}{f:Flow}{s':Shared}(h:SP (X.zk E) U D f s'):SP X U D f s':=by
 cases f with
 |next=>obtain⟨dF,H',I,q⟩:=h;exact⟨dF,H',I.pL,q⟩
 |brk=>obtain⟨dF,H',I,q⟩:=h;exact⟨dF,H',I.pL,q⟩
 |cont=>obtain⟨dF,H',I,q⟩:=h;exact⟨dF,H',I.pL,q⟩
 |ret u=>obtain⟨v,dF,H',I,r,q⟩:=h;exact⟨v,dF,H',I.pL,r,q⟩
theorem oU.Jz {st:List Stmt}{t:TS}(h:oU X.Jz st t):oU X st t:=λU s Z H D I hw=>
 d_ (h U s Z H D (I.zk _) hw) (λ_ _ q=>q.pL) λ_ _ z=>False.elim z
section
variable {t u:TS}{te:TE}
def VF:TS:=λD Z H=>D.nx Z H
def aak(t u:TS):TS:=λD Z H=>t {D with nx:=u D} Z H
theorem F5:oU X [] VF:=λ_ _ Z H _ I h=>tN ⟨Z,H,I,h⟩
theorem Cv(h1:PS X ai t)(h2:oU X ah u):oU X (ai::ah) (aak t u):=by
 intro U s Z H D I h;refine wpAny_execs_cons (eK (h1 U s Z H {D with nx:=u D} I h) λf s1 q=>?_);cases f with
 |next=>
  obtain⟨b,H',g,q⟩:=q;exact h2 U s1 b H' D g q
 |_=>exact q
theorem F6(h1:PS X ai t):oU X [ai] t:=by
 intro U s Z H D I h;refine wpAny_execs_cons (eK (h1 U s Z H D I h) λf s1 q=>?_);cases f with
 |next=>exact tN q
 |_=>exact q
def Inv.quiet (I:Inv X U Z H s):interactive X.env=false:=by simp[interactive,I.ok.kind]
def VG(te:TE):TS:=λD Z H=>te Z H λ_ H1=>D.nx Z H1
theorem Nh(he:PE X e te)(hs:swapsWith e none pos.line X.env=pure false:=by rfl):PS X (.Expr e pos) (VG te):=by
 intro U s Z H D I h;exact wpAny_Expr_any (eK (he U s Z H _ I h) λv s1 ⟨x,H1,b,r1,g⟩=>⟨Z,H1,b,g⟩) I.quiet hs
def aal(te:TE):TS:=λD Z H=>te Z H D.rt
theorem JP(he:PE X e te):PS X (.Return (some e) pos) (aal te):=by
 intro U s Z H D I h;exact wpAny_Return_some (eK (he U s Z H _ I h) λv s1 ⟨x,H1,b,r1,g⟩=>⟨x,Z,H1,b,r1,g⟩)
def VH:TS:=λD _ H=>D.rt .cA H
theorem Ni:PS X (.Return none pos) VH:=λ_ _ Z H _ I h=>wpAny_Return_none ⟨.cA,Z,H,I,rfl,h⟩
def aam(c:TT)(t u:TS):TS:=λD Z H=>c Z H λb H1=>if b=true then t D Z H1 else u D Z H1
theorem P0{tc:TT}(q:PT X e tc)(ha:oU X ah t)(hb:oU X aj u):PS X (.If e ah aj pos) (aam tc t u):=by
 intro U s Z H D I h;refine wpAny_If (eK (q U s Z H _ I h) λd s1 ⟨H1,b,g⟩=>?_);cases d with
 |true=>exact ha U s1 Z H1 D b g
 |false=>exact hb U s1 Z H1 D b g
end
abbrev TG:=V->St->Hp->(St->Hp->Prop)->Prop
abbrev Rm:=List V->St->Hp->(St->Hp->Prop)->Prop
def PG(X:Cx)(target:Expr)(t:TG):Prop:=
 ∀(U:List (Addr×Obj)) (s:Shared) (Z:St) (H:Hp) (v:V) (u:Value) (Q:St->Hp->Prop),Inv X U Z H s->RelV v u->t v Z H Q->
  wpAny (model X.prog X.w) X.A (assign target X.env u) (λ_ s'=>∃b H',Inv X U b H' s'/\Q b H') X.xe s
def Nj(X:Cx)(ts:List Expr)(t:Rm):Prop:=
 ∀(U:List (Addr×Obj)) (s:Shared) (Z:St) (H:Hp) (vs:List V) (us:List Value) (Q:St->Hp->Prop),Inv X U Z H s->Vals vs us->t vs Z H Q->
  wpAny (model X.prog X.w) X.A (assignInOrder ((assignEach ts X.env).map (·.2)) us) (λ_ s'=>∃b H',Inv X U b H' s'/\Q b H') X.xe s
def P4(i:Nat):TG:=λv Z H Q=>Q (Z.set i (some v)) H
theorem F7(q:X.N.Nodup)(hi:X.N[i]?=some x)(hx:Loc X.env.scope x)(hf:zf X x:=by first|exact .inl rfl|exact .inr rfl|assumption):PG X (.Name x pos) (P4 i):=by
 intro U s Z H v u Q I r h;exact wpAny_assign_Name (xD I q hi hx r (λs' b=>⟨_,H,b,h⟩) hf)
def aan:Rm:=λvs Z H Q=>vs=[]/\Q Z H
def VI(t:TG)(u:Rm):Rm:=λvs Z H Q=>∃v r,vs=v::r/\t v Z H λb H'=>u r b H' Q
theorem Nk:Nj X [] aan:=by
 intro U s Z H vs us Q I r h;obtain⟨e,h⟩:=h;subst e;cases r;exact assignInOrder_nil ⟨Z,H,I,h⟩
theorem JR{t:TG}{u:Rm}(q:PG X e t)(h2:Nj X es u)
  (hs:(assignEach (e::es) X.env).map (·.2)=assign e X.env::(assignEach es X.env).map (·.2):=by rfl):Nj X (e::es) (VI t u):=by
 intro U s Z H vs us Q I r h;obtain⟨v,M,b,h⟩:=h;subst b;cases r with
 |cons r g=>
  rw[hs];refine assignInOrder_cons (eK (q U s Z H _ _ _ I r h) λ_ s1 ⟨l,H1,n,L⟩=>?_);exact h2 U s1 l H1 _ _ Q n g L
def aao(K:Frag)(n:Nat)(t:Rm):TG:=λv Z H Q=>∃a xs,v=.ref a/\js K H a xs/\xs.length=n/\t xs Z H Q
theorem Rn{t:Rm}{n:Nat}(q:X.calm=true)(h:Nj X es t)
  (hn:(assignEach es X.env).length=n:=by rfl) (cG:(assignEach es X.env).findIdx? (·.1)=none:=by rfl):PG X (.Tuple es i pos) (aao X.K n t):=by
 intro U s Z H v u Q I r hw;obtain⟨a,xs,g,l,L,hw⟩:=hw;subst g;cases r;obtain⟨cy,rv,M,hz⟩:=I.tuple l;refine assign_Tuple_tuple (I.ok.hd q) M (by simp[hn,<-L,rv.length]) cG λh' S=>?_
 have I1:Inv X U Z H {s with heap:=h'}:=I.kept (t':=s.toks) λb o e=>S b o (cc (bx e)) e;exact h U _ Z H xs _ Q I1 (by simpa using rv) hw
def VJ(te:TE)(g:TG):TS:=λD Z H=>te Z H λx H1=>g x Z H1 D.nx
theorem JS{te:TE}{g:TG}(he:PE X e te)(hg:PG X tg g)(hs:swapsWithSole [tg] e pos.line X.env=pure false:=by rfl) (hw:swappedStores [tg] e X.env=pure none:=by rfl)
  (h1:(assignEach [tg] X.env).map (·.2)=[assign tg X.env]:=by rfl):PS X (.Assign [tg] e pos) (VJ te g):=by
 intro U s Z H D I h;refine wpAny_Assign_stores (eK (he U s Z H _ I h) λv s1 ⟨x,H1,b,r1,l⟩=>?_) hs hw;rw[h1];exact eK (hg U s1 Z H1 x v _ b r1 l) λ_ s2 q=>q
theorem JT{te:TE}(q:X.N.Nodup)(hi:X.N[i]?=some x)(hx:Loc X.env.scope x)(he:PE X e te)(hs:swapsWith e (some (.Name x p)) pos.line X.env=pure false:=by rfl) (hf:zf X x:=by first|exact .inl rfl|exact .inr rfl|assumption):
  PS X (.Assign [.Name x p] e pos) (VJ te (P4 i)):=by
 intro U s Z H D I h;refine wpAny_Assign_Name (eK (he U s Z H _ I h) λv s1 ⟨y,H1,b,r1,g⟩=>?_) hs;exact xD b q hi hx r1 (λs2 l=>⟨_,H1,l,g⟩) hf
structure It where
 go:Nat->Hp->Prop
 F8:Nat->Hp->V->Hp->Prop
 stop:Nat->Hp->Prop
def kU(X:Cx)(U:List (Addr×Obj))(H:Hp)(b:Addr):Prop:=
 H b=none/\b≠X.env.locals/\b∉X.fs/\(b∈X.ex\/X.gA.heap.objs.size<=b)/\(∀x c,X.env.cells.lookup x=some c->c≠b)/\∀p∈X.pn++U,p.1≠b
def Inv.xE {H':Hp}{b:Addr}(I:Inv X U Z H s)(hb:s.heap.objs.size<=b)(hn:H' b=none):kU X U H' b:=by
 refine⟨hn,dQ (dh I.lt hb),I.VA hb,.inr (cF I.sz hb),λx c e z=>?_,λp hp z=>?_⟩
 ·obtain⟨v,q⟩:=I.cell x c e;exact absurd (dh q.lt (by rw[z];exact hb)) (eV _)
 ·exact absurd (dh (bx (I.pin p hp).1) (by rw[z];exact hb)) (eV _)
structure Turn(P:Program)(w:World)(K:Frag)(tg:Expr)(J:It)(fp:List Addr)(it:Addr)(tn:Nat->Heap->Prop):Prop where
 mem:it∈fp
 obj:∀i h,tn i h->∀b∈fp,∃o,h.get? b=some o/\∀v,o.data≠ .cell v
 keep:∀i h h',tn i h->(∀b∈fp,∀o,h.get? b=some o->h'.get? b=some o)->tn i h'
 item:∀(X:Cx),X.prog=P->X.w=w->X.K=K->X.calm=true->∀(i:Nat) (U:List (Addr×Obj)) (s:Shared) (Z:St) (H:Hp) (E:Value->Shared->Prop),Inv X U Z H s->(∀b∈fp,kU X U H b)->tn i s.heap->J.go i H->
  wpAny (model P w) X.A (pyNext (.ref it)) (fun r s1=>∃u,r=some u/\
   wpAny (model P w) X.A (letOwnedTupleGo tg (.ref it) u) (fun _ s2=>∃x H',Inv X U Z H' s2/\RelV x u/\J.F8 i H x H'/\tn (i+1) s2.heap/\∀b∈fp,H' b=none) E s1) E s
 done:∀(X:Cx),X.prog=P->X.w=w->X.K=K->X.calm=true->∀(i:Nat) (U:List (Addr×Obj)) (s:Shared) (Z:St) (H:Hp) (E:Value->Shared->Prop),Inv X U Z H s->(∀b∈fp,kU X U H b)->tn i s.heap->J.stop i H->
  wpAny (model P w) X.A (pyNext (.ref it)) (fun r s1=>r=none/\Inv X U Z H s1) E s
 self:∀(A:Around) (i:Nat) (s:Shared) (Q:Value->Shared->Prop) (E:Value->Shared->Prop),tn i s.heap->Q (.ref it) s->wpAny (model P w) A (pyIter (.ref it)) Q E s
abbrev TI:=St->Hp->(It->Hp->Prop)->Prop
def ZD(X:Cx)(U:List (Addr×Obj))(Z:St)(tg:Expr)(R:It->Hp->Prop)(q:Value)(s2:Shared):Prop:=
 ∃(it:Addr) (fp:List Addr) (tn:Nat->Heap->Prop) (J:It) (H':Hp),q=.ref it/\Inv X U Z H' s2/\Turn X.prog X.w X.K tg J fp it tn/\tn 0 s2.heap/\(∀b∈fp,kU X U H' b)/\R J H'
def PI(X:Cx)(tg c5:Expr)(q:TI):Prop:=
 ∀(U:List (Addr×Obj)) (s:Shared) (Z:St) (H:Hp) (R:It->Hp->Prop),Inv X U Z H s->q Z H R->
  wpAny (model X.prog X.w) X.A (eval c5 X.env) (λv s1=>wpAny (model X.prog X.w) X.A (pyIter v) (ZD X U Z tg R) X.xe s1) X.xe s
def zH{M:Model}{s:Shared}{o:Obj}{n:String}(ho:s.heap.get? a=some o)(hc:o.cls=.type n)(hd:o.data=.fields ak)
  (hn:["enumerate","zip","dict_itemiterator","dict_reverseitemiterator","odict_iterator","itertools.zip_longest","itertools.pairwise"].contains n=false) (q:ae () s):wpAny M A (letOwnedTupleGo tg (.ref a) af) ae E s:=by
 unfold letOwnedTupleGo;cases tg<;>first
  |exact bf q
  |(cases af<;>first
    |exact bf q
    |(refine aT (pI ho ?_)
      rw[hc,hd];show wpAny M A (if(["enumerate","zip","dict_itemiterator","dict_reverseitemiterator","odict_iterator","itertools.zip_longest","itertools.pairwise"].contains n&&ak[0]?==some (rawInt _))=true then _ else _) ae E s;rw[bc (by intro h;rw[hn,xu]at h;cases h)];exact bf q))
def Itl(K:Frag)(a:Addr):It:=
 ⟨λi H=>∃xs x,lR K H a xs/\xs[i]?=some x,λi H x H'=>H'=H/\∀xs,lR K H a xs->xs[i]?=some x,λi H=>∃xs,lR K H a xs/\xs.length<=i⟩
def Itt(K:Frag)(a:Addr):It:=
 ⟨λi H=>∃xs x,js K H a xs/\xs[i]?=some x,λi H x H'=>H'=H/\∀xs,js K H a xs->xs[i]?=some x,λi H=>∃xs,js K H a xs/\xs.length<=i⟩
def ZG(lo:Int)(n:Nat):It:=⟨λi _=>i<n,λi H x H'=>H'=H/\x=.int (lo+i),λi _=>n<=i⟩
theorem zI(a it:Addr):Turn P w K tg (Itl K a) [it] it (λi h=>h.IsListIter it a i) where
 mem:=by simp
 obj:=λi h st b hb=>by
  have e:b=it:=by simpa using hb
  subst e;obtain⟨o,e,c,d⟩:=st;exact⟨o,e,λv z=>by rw[d]at z;cases z⟩
 keep:=λi h h' st k=>st.at λo e=>k it (by simp) o e
 item:=by
  intro X l hw n q i U s Z H E I hf st r;subst l hw n;obtain⟨xs,x,g,L⟩:=r;obtain⟨cy,rv,p,hz⟩:=I.list g;obtain⟨u,hu,ru⟩:=rv.get L;obtain⟨f0,f1,f2,M,f4,S⟩:=hf it (by simp);refine wpAny_pyNext_list_item st p.isList (x:=u) (by simpa using hu) λh' xF sb=>?_
  have I1:Inv X U Z H {s with heap:=h'}:=I.turned (t':=s.toks) (λb o hb e=>(sb.2 b hb).trans e) f0 f1 M f4 S;obtain⟨o,e,c,d⟩:=id xF;exact⟨u,rfl,zH (s:={s with heap:=h'}) e c d (by decide) ⟨x,H,I1,ru,⟨rfl,λys hy=>by rw[I.JO hy g];exact L⟩,xF,λb hb=>(hf b hb).1⟩⟩
 done:=by
  intro X l hw n q i U s Z H E I hf st r;subst l hw n;obtain⟨xs,g,L⟩:=r;obtain⟨cy,rv,p,hz⟩:=I.list g;obtain⟨f0,f1,f2,M,f4,S⟩:=hf it (by simp);have hl:=rv.length;exact wpAny_pyNext_list_end (I.ok.hd q) st p.isList (by simp;omega) λh' eb=>⟨rfl,I.turned (t':=s.toks) (λb o hb e=>eb b o hb e) f0 f1 M f4 S⟩
 self:=λ_ _ _ _ _ st h=>wpAny_pyIter_listiter st h
theorem Eu(a it:Addr):Turn P w K tg (Itt K a) [it] it (λi h=>h.IsTupleIter it a i) where
 mem:=by simp
 obj:=λi h st b hb=>by
  have e:b=it:=by simpa using hb
  subst e;obtain⟨o,e,c,d⟩:=st;exact⟨o,e,λv z=>by rw[d]at z;cases z⟩
 keep:=λi h h' st k=>st.at λo e=>k it (by simp) o e
 item:=by
  intro X l hw n q i U s Z H E I hf st r;subst l hw n;obtain⟨xs,x,g,L⟩:=r;obtain⟨cy,rv,p,hz⟩:=I.tuple g;obtain⟨u,hu,ru⟩:=rv.get L;obtain⟨f0,f1,f2,M,f4,S⟩:=hf it (by simp);refine wpAny_pyNext_tuple_item st (show s.heap.IsTuple a cy.toArray from p) (x:=u) (by simpa using hu) λh' xF sb=>?_
  have I1:Inv X U Z H {s with heap:=h'}:=I.turned (t':=s.toks) (λb o hb e=>(sb.2 b hb).trans e) f0 f1 M f4 S;obtain⟨o,e,c,d⟩:=id xF;exact⟨u,rfl,zH (s:={s with heap:=h'}) e c d (by decide) ⟨x,H,I1,ru,⟨rfl,λys hy=>by rw[I.qP hy g];exact L⟩,xF,λb hb=>(hf b hb).1⟩⟩
 done:=by
  intro X l hw n q i U s Z H E I hf st r;subst l hw n;obtain⟨xs,g,L⟩:=r;obtain⟨cy,rv,p,hz⟩:=I.tuple g;obtain⟨f0,f1,f2,M,f4,S⟩:=hf it (by simp);have hl:=rv.length;exact wpAny_pyNext_tuple_end (I.ok.hd q) st (show s.heap.IsTuple a cy.toArray from p) (by simp;omega) λh' eb=>⟨rfl,I.turned (t':=s.toks) (λb o hb e=>eb b o hb e) f0 f1 M f4 S⟩
 self:=λ_ _ _ _ _ st h=>wpAny_pyIter_tupleiter st h
theorem Ew(it:Addr)(lo:Int)(n:Nat):Turn P w K tg (ZG lo n) [it] it (λi h=>IsRangeIter h it (lo+(i:Nat)*1) ((n:Int) - (i:Nat)) 1) where
 mem:=by simp
 obj:=λi h st b hb=>by
  have e:b=it:=by simpa using hb
  subst e;exact⟨_,st,λv z=>by
   have z':Data.fields _=Data.cell v:=z;cases z'⟩
 keep:=λi h h' st k=>k it (by simp) _ st
 item:=by
  intro X g hw l r i U s Z H E I hf st L;subst g hw l;obtain⟨f0,f1,f2,M,f4,S⟩:=hf it (by simp);have W:=Walks.range (prog:=X.prog) (w:=X.w) (I.ok.hd r) it lo 1 n;refine W.item i s _ _ L st λv h' q hv xF kk=>?_
  obtain⟨t,rfl⟩:=hv;have I1:Inv X U Z H {s with heap:=h',toks:=q}:=I.turned (λb o hb e=>kk b o (by simpa using hb) e) f0 f1 M f4 S;refine⟨_,rfl,zH (s:={s with heap:=h',toks:=q}) (n:="range_iterator") xF rfl rfl (by decide) ⟨.int (lo+i),H,I1,⟨t,?_⟩,⟨rfl,rfl⟩,xF,λb hb=>(hf b hb).1⟩⟩;rw[Int.mul_one]
 done:=by
  intro X g hw l r i U s Z H E I hf st L;subst g hw l;obtain⟨f0,f1,f2,M,f4,S⟩:=hf it (by simp);exact wpAny_pyNext_range_end (I.ok.hd r) st (by have:n<=i:=L;omega) λh' eb=>⟨rfl,I.turned (t':=s.toks) (λb o hb e=>eb b o hb e) f0 f1 M f4 S⟩
 self:=λ_ _ _ _ _ st h=>wpAny_pyIter_rangeiter st h
theorem JU{R:It->Hp->Prop}{lo hi:Int}{t u v:Tok}(I:Inv X U Z H s)(h1:-(2 ^62)<=lo)(h2:lo<2 ^62)(h3:-(2 ^62)<=hi)(h4:hi<2 ^62)
  (q:R (ZG lo (hi - lo).toNat) H):wpAny (model X.prog X.w) X.A (pyIter (.ref s.heap.objs.size)) (ZD X U Z tg R) E {s with heap:=s.heap.push {cls:=.type "range",data:=.fields #[.int lo t,.int hi u,.int 1 v]},toks:=i}:=by
 refine wpAny_pyIter_range (IsRange.new ..) (small_one h1 h2 h3 h4) ?_
 have g:Inv X U Z H {s with heap:=s.heap.push {cls:=.type "range",data:=.fields #[.int lo t,.int hi u,.int 1 v]},toks:=i}:=I.kept λb o e=>bR _ e;refine⟨(s.heap.push {cls:=.type "range",data:=.fields #[.int lo t,.int hi u,.int 1 v]}).objs.size,[(s.heap.push {cls:=.type "range",data:=.fields #[.int lo t,.int hi u,.int 1 v]}).objs.size],_,_,H,rfl,
  g.kept (t':=i) λb o e=>bR _ e,Ew _ lo (hi - lo).toNat,?_,λb hb=>?_,q⟩
 ·have l:lo+((0:Nat):Int)*1=lo:=by simp
  have n:(((hi - lo).toNat:Nat):Int) - ((0:Nat):Int)=Builtin.Range.rangeSize lo hi 1:=by rw[rangeSize_one];split<;>omega
  show IsRangeIter _ _ (lo+((0:Nat):Int)*1) ((((hi - lo).toNat:Nat):Int) - ((0:Nat):Int)) 1;rw[l,n];exact cz _ rfl
 ·have e:b=(s.heap.push {cls:=.type "range",data:=.fields #[.int lo t,.int hi u,.int 1 v]}).objs.size:=by simpa using hb
  subst e;exact g.xE (bz _) (g.cY.fresh (bz _))
def VL(ta:TA):TI:=λZ H R=>ta Z H λvs H1=>∃j:Int,vs=[.int j]/\-(2 ^62)<=j/\j<2 ^62/\R (ZG 0 j.toNat) H1
theorem HN{ta:TA}(hg:Gl X "range")(hm:X.mg "range"=none)(ha:PA X [o] ta)(hs:starEach [o] X.env=[(false,eval o X.env)]:=by rfl):PI X tg (.Call (.Name "range" p) [o] [] pos) (VL ta):=by
 intro U s Z H R I h;refine Call_ (u5 I hg hm boot_range (wR (eK (ha pos U s Z H _ I h) λus s1 ⟨vs,H1,g,r1,b⟩=>?_) hs rfl));obtain⟨j,e,b,l,q⟩:=b;subst e;cases r1 with
 |cons r n=>
  cases n;obtain⟨t,rfl⟩:=r;exact call_range_1 (JU g (by omega) (by omega) b l (by simpa using q))
def aap(q:TI)(g:TG)(tb:TS):TS:=λD Z H=>q Z H λJ H1=>∃W:Nat->Nat->St->Hp->Prop,(∃m,W 0 m Z H1)/\∀i m Z H,W i m Z H->
 (J.stop i H/\D.nx Z H)\/(J.go i H/\∃N:St->Hp->Prop,(∀b H',N b H'->∃l,l<m/\W (i+1) l b H')/\∀x H',J.F8 i H x H'->g x Z H' λn H2=>tb {D with nx:=N,ct:=N,bk:=D.nx} n H2)
def xG(fp:List Addr)(h:Heap):List (Addr×Obj):=fp.filterMap λb=>(h.get? b).map λo=>(b,o)
def nN{fp:List Addr}{h:Heap}{o:Obj}(hb:a∈fp)(e:h.get? a=some o):(a,o)∈xG fp h:=lO.mpr ⟨a,hb,by rw[e];rfl⟩
theorem HP{fp:List Addr}{p:Addr×Obj}(hp:p∈xG fp aa):p.1∈fp/\aa.get? p.1=some p.2:=by
 obtain⟨b,hb,e⟩:=lO.mp hp;cases q:aa.get? b with
 |none=>rw[q]at e;cases e
 |some o=>
  rw[q]at e;have g:(b,o)=p:=Option.some.inj e;subst g;exact⟨hb,q⟩
def Inv.pinned {fp:List Addr}(I:Inv X U Z H s)(hf:∀b∈fp,kU X U H b)(q:∀b∈fp,∃o,s.heap.get? b=some o/\∀v,o.data≠ .cell v):Inv X (U++xG fp s.heap) Z H s:=
 I.ko λp hp=>(dr.mp hp).elim (λz=>I.pin p (dG _ z)) λz=>by
   obtain⟨hb,e⟩:=HP z;obtain⟨f0,f1,f2,_⟩:=hf p.1 hb;obtain⟨o,g,d⟩:=q p.1 hb;rw[e]at g;cases g;exact⟨e,f0,f1,f2,d⟩
def Inv.t_ {pl:List (Addr×Obj)}(I:Inv X (U++pl) Z H s):Inv X U Z H s:=I.ko λp hp=>I.pin p (dG _ (kj _ hp))
theorem Ex{wi:TI}{g:TG}{tb:TS}(hp:PassesOwn (model X.prog X.w) X.A X.env X.xe)(hc:X.calm=true)(hi:PI X tg am wi)(hg:PG X tg g)(hb:oU X ah tb)
  (hs:∀x,foldedSetIterable am X.env x=pure x:=by intro _;rfl):PS X (.For tg am ah [] pos) (aap wi g tb):=by
 intro U s Z H D I h;refine wpAny_For (eK (hi U s Z H _ I h) λv s1 h1=>eK h1 λZF s2 h2=>?_) hs;obtain⟨it,fp,tn,J,H2,e,I2,T,Nl,f2,W,⟨m0,w0⟩,turn⟩:=h2;subst e;have Ey:∀{H':Hp},(∀b∈fp,H' b=none)->∀b∈fp,kU X U H' b:=λhn b hb=>⟨hn b hb,(f2 b hb).2⟩;refine codeAny_forLoop_any (λn s'=>∃i q H',Inv X U q H' s'/\tn i s'.heap/\(∀b∈fp,H' b=none)/\W i n q H') ?_ m0 ⟨0,Z,H2,I2,Nl,λb hb=>(f2 b hb).1,w0⟩
 rintro n s3 ⟨i,Nm,H3,I3,st3,fr3,w3⟩
 rcases turn i n Nm H3 w3 with⟨stop,qn⟩|⟨go,N,hN,step⟩
 ·refine pB hp (eK (T.done X rfl rfl rfl hc i U s3 Nm H3 X.xe I3 (Ey fr3) st3 stop) λr s4 ⟨hr,I4⟩=>?_);subst hr;exact tN ⟨Nm,H3,I4,qn⟩
 ·refine pB hp (eK (T.item X rfl rfl rfl hc i U s3 Nm H3 X.xe I3 (Ey fr3) st3 go) λr s4 ⟨u,hr,h4⟩=>?_);subst hr;refine pB hp (eK h4 λ_ s5 ⟨x,H5,I5,r5,y5,U3,ZH⟩=>?_);have I5':=I5.pinned (Ey ZH) (T.obj _ _ U3);refine pB hp (eK (hg _ s5 Nm H5 x u _ I5' r5 (step x H5 y5)) λ_ s6 ⟨σ6,H6,I6,q6⟩=>?_);refine pB hp (eK (hb _ s6 σ6 H6 _ I6 q6) λf s7 S=>?_);have again:∀{l:St} {L:Hp},Inv X (U++xG fp s5.heap) l L s7->N l L->∃m,m<n/\∃i q H',Inv X U q H' s7/\tn i s7.heap/\(∀b∈fp,H' b=none)/\W i m q H':=λ{l L} M n7=>by
   obtain⟨m',hm,w7⟩:=hN l L n7;refine⟨m',hm,i+1,l,L,M.t_,T.keep _ _ _ U3 λb hb o e=>(M.pin (b,o) (dG _ (dG _ (nN hb e)))).1,λb hb=>?_,w7⟩;obtain⟨o,e,d⟩:=T.obj _ _ U3 b hb;exact(M.pin (b,o) (dG _ (dG _ (nN hb e)))).2.1
  cases f with
  |next=>obtain⟨l,L,M,n7⟩:=S;exact again M n7
  |cont=>obtain⟨l,L,M,n7⟩:=S;exact again M n7
  |brk=>obtain⟨l,L,M,S⟩:=S;exact⟨l,L,M.t_,S⟩
  |ret v=>obtain⟨x7,l,L,M,r7,S⟩:=S;exact⟨x7,l,L,M.t_,r7,S⟩
abbrev R2:=V->V->Hp->VK->Prop
def u6(X:Cx)(f:Value->Value->Sem Value)(r:R2):Prop:=
 ∀(U:List (Addr×Obj)) (s:Shared) (Z:St) (H:Hp) (x y:V) (v u:Value) (Q:VK),Inv X U Z H s->RelV x v->RelV y u->r x y H Q->
  wpAny (model X.prog X.w) X.A (f v u) (EP X U Z Q) X.xe s
def UnR(X:Cx)(f:Value->Sem Value)(r:V->Hp->VK->Prop):Prop:=
 ∀(U:List (Addr×Obj)) (s:Shared) (Z:St) (H:Hp) (x:V) (v:Value) (Q:VK),Inv X U Z H s->RelV x v->r x H Q->
  wpAny (model X.prog X.w) X.A (f v) (EP X U Z Q) X.xe s
def gL(X:Cx)(f:Value)(r:List V->Hp->VK->Prop):Prop:=
 ∀(U:List (Addr×Obj)) (s:Shared) (Z:St) (H:Hp) (xs:List V) (us:List Value) (Q:VK),Inv X U Z H s->Vals xs us->r xs H Q->
  wpAny (model X.prog X.w) X.A (call f us) (EP X U Z Q) X.xe s
def aaq(X:Cx)(r:V->Hp->(Bool->Hp->Prop)->Prop):Prop:=
 ∀(U:List (Addr×Obj)) (s:Shared) (Z:St) (H:Hp) (x:V) (v:Value) (Q:Bool->Hp->Prop),Inv X U Z H s->RelV x v->r x H Q->
  wpAny (model X.prog X.w) X.A (truthy v) (TP X U Z Q) X.xe s
def Ro(r:R2)(ta tb:TE):TE:=λZ H Q=>ta Z H λx H1=>tb Z H1 λy H2=>r x y H2 Q
def tUn(r:V->Hp->VK->Prop)(ta:TE):TE:=λZ H Q=>ta Z H λx H1=>r x H1 Q
def rI(C:Int->Int->Prop)(g:Int->Int->V):R2:=λx y H Q=>∃i j,x=.int i/\y=.int j/\C i j/\Q (g i j) H
def Rp(g:Int->Int->V):R2:=λx y H Q=>∃i j,x=.int i/\y=.int j/\Q (g i j) H
def rU(g:Int->V):V->Hp->VK->Prop:=λx H Q=>∃i,x=.int i/\Q (g i) H
section
variable {a b c:Expr}{ta tb tc:TE}
def Rq(q:PE X a ta)(hb:PE X b tb){R:V->V->Hp->Prop}(I:Inv X U Z H s)
  (h:ta Z H λx H1=>tb Z H1 λy H2=>R x y H2) {f:Value->Value->Sem Value}
  (hf:∀v u s2 x y H2,Inv X U Z H2 s2->RelV x v->RelV y u->R x y H2->wpAny (model X.prog X.w) X.A (f v u) Q X.xe s2):
  wpAny (model X.prog X.w) X.A (eval a X.env) (λv dk=>wpAny (model X.prog X.w) X.A (eval b X.env) (λu ua=>wpAny (model X.prog X.w) X.A (f v u) Q X.xe ua) X.xe dk) X.xe s:=by
 refine eK (q U s Z H _ I h) λv s1 ⟨x,H1,g,r1,l⟩=>?_
 refine eK (hb U s1 Z H1 _ g l) λu s2 ⟨y,H2,n,r2,r⟩=>?_
 exact hf v u s2 x y H2 n r1 r2 r
theorem P5{op:Operator}{r:R2}(ho:u6 X (binaryOp op) r)(ha:PE X a ta)(hb:PE X b tb):PE X (.BinOp a op b pos) (Ro r ta tb):=by
 intro U s Z H Q I h;exact wpAny_BinOp (Rq ha hb I h λv u s2 x y H2 g l n q=>ho U s2 Z H2 x y v u Q g l n q)
theorem VM{op:UnaryOp}{r:V->Hp->VK->Prop}(q:UnR X (unaryOp op) r)(ha:PE X a ta):PE X (.UnaryOp op a pos) (tUn r ta):=by
 intro U s Z H Q I h;exact UnaryOp_ (eK (ha U s Z H _ I h) λv s1 ⟨x,H1,b,r1,g⟩=>q U s1 Z H1 x v Q b r1 g)
theorem opI{f:Value->Value->Sem Value}{C:Int->Int->Prop}{g:Int->Int->Int}
  (rule:∀(i j:Int) (t u:Tok) (s:Shared) (Q:Value->Shared->Prop) (E:Value->Shared->Prop),C i j->Q (.int (g i j) s.toks) {s with toks:=s.toks+1}->wpAny (model X.prog X.w) X.A (f (.int i t) (.int j u)) Q E s):
  u6 X f (rI C λi j=>.int (g i j)):=by
 intro U s Z H x y v u Q I b l h;obtain⟨i,j,rfl,rfl,n,q⟩:=h;obtain⟨t,rfl⟩:=b;obtain⟨t',rfl⟩:=l;exact rule i j t t' s _ _ n ⟨.int (g i j),H,I.tok _,⟨_,rfl⟩,q⟩
theorem aar{f:Value->Value->Sem Value}{g:Int->Int->Int}
  (rule:∀(i j:Int) (t u:Tok) (s:Shared) (Q:Value->Shared->Prop) (E:Value->Shared->Prop),Q (.int (g i j) s.toks) {s with toks:=s.toks+1}->wpAny (model X.prog X.w) X.A (f (.int i t) (.int j u)) Q E s):
  u6 X f (Rp λi j=>.int (g i j)):=by
 intro U s Z H x y v u Q I b l h;obtain⟨i,j,rfl,rfl,q⟩:=h;obtain⟨t,rfl⟩:=b;obtain⟨t',rfl⟩:=l;exact rule i j t t' s _ _ ⟨.int (g i j),H,I.tok _,⟨_,rfl⟩,q⟩
theorem Nn{f:Value->Value->Sem Value}{g:Int->Int->Bool}
  (rule:∀(i j:Int) (t u:Tok) (s:Shared) (Q:Value->Shared->Prop) (E:Value->Shared->Prop),Q (.bool (g i j)) s->wpAny (model X.prog X.w) X.A (f (.int i t) (.int j u)) Q E s):
  u6 X f (Rp λi j=>.bl (g i j)):=by
 intro U s Z H x y v u Q I b l h;obtain⟨i,j,rfl,rfl,q⟩:=h;obtain⟨t,rfl⟩:=b;obtain⟨t',rfl⟩:=l;exact rule i j t t' s _ _ ⟨.bl (g i j),H,I,rfl,q⟩
def JW(i j:Int):Prop:=(-(2 ^64)<i/\i<2 ^64)\/(-(2 ^64)<j/\j<2 ^64)
def JW.ok {i j:Int}(h:JW i j):IntMulOk i j:=by
 rcases h with⟨b,h2⟩|⟨b,h2⟩
 ·exact .of_left (intBits_le_64 b h2)
 ·exact .of_right (intBits_le_64 b h2)
def Rr:u6 X (binaryOp .Add) (Rp λi j=>.int (i+j)):=aar λ_ _ _ _ _ _ _ q=>add_int q
def Rt:u6 X (binaryOp .Mult) (rI JW λi j=>.int (i*j)):=opI λ_ _ _ _ _ _ _ b q=>mul_int q b.ok
theorem Ru:u6 X (binaryOp .Mod) (rI (λ_ j=>0<j) λi j=>.int (i % j)):=opI λi j _ _ _ _ _ b q=>by
 have g:(0:Int)<j:=b;exact mod_int' (by omega) (by rw[Int.fmod_eq_emod_of_nonneg i (by omega)];exact q)
theorem unI{f:Value->Sem Value}{g:Int->Int}
  (rule:∀(i:Int) (t:Tok) (s:Shared) (Q:Value->Shared->Prop) (E:Value->Shared->Prop),Q (.int (g i) s.toks) {s with toks:=s.toks+1}->wpAny (model X.prog X.w) X.A (f (.int i t)) Q E s):
  UnR X f (rU λi=>.int (g i)):=by
 intro U s Z H x v Q I b h;obtain⟨i,rfl,q⟩:=h;obtain⟨t,rfl⟩:=b;exact rule i t s _ _ ⟨.int (g i),H,I.tok _,⟨_,rfl⟩,q⟩
def Rv:UnR X (unaryOp .USub) (rU λi=>.int (-i)):=unI λ_ _ _ _ _ q=>neg_int q
end
section
variable {b c:Expr}{ta tb tc:TE}
def u7{Q:VK}{k k':Bool}(I:Inv X U Z H s)(q:Q (.bl k) H)(e:k=k'):EP X U Z Q (.bool k') s:=by
 subst e;exact⟨.bl k,H,I,rfl,q⟩
def VN:u6 X (compareOp .Lt) (Rp λi j=>.bl (decide (i<j))):=Nn λ_ _ _ _ _ _ _ q=>lt_int q
def VO:u6 X (compareOp .LtE) (Rp λi j=>.bl (decide (i<=j))):=Nn λ_ _ _ _ _ _ _ q=>le_int q
def VP:u6 X (compareOp .Gt) (Rp λi j=>.bl (decide (j<i))):=Nn λ_ _ _ _ _ _ _ q=>gt_int q
def VQ:u6 X (compareOp .GtE) (Rp λi j=>.bl (decide (j<=i))):=Nn λ_ _ _ _ _ _ _ q=>ge_int q
theorem HQ:u6 X (compareOp .Lt) (λx y H Q=>∃i j,x=.str i/\y=.str j/\Q (.bl (decide (i.cps.toList<j.cps.toList))) H):=by
 intro U s Z H x y v u Q I b g h;obtain⟨i,j,rfl,rfl,q⟩:=h;obtain⟨t,rfl⟩:=b;obtain⟨t',rfl⟩:=g;exact lt_str (u7 I q rfl)
theorem HR:u6 X (compareOp .In) (λx y H Q=>∃i j,x=.str i/\y=.str j/\Q (.bl (!(Builtin.Str.occurrences j i 0 j.length 1).isEmpty)) H):=by
 intro U s Z H x y v u Q I b g h;obtain⟨i,j,rfl,rfl,q⟩:=h;obtain⟨t,rfl⟩:=b;obtain⟨t',rfl⟩:=g;exact in_str (u7 I q rfl)
theorem Rw:u6 X (compareOp .Is) (λx y H Q=>y=.cA/\Q (.bl (decide (x=.cA))) H):=by
 intro U s Z H x y v u Q I b g h;obtain⟨rfl,q⟩:=h;cases g;refine is_none_gen (u7 I q ?_);cases x<;>first
  |(cases b;rfl)
  |(obtain⟨t,rfl⟩:=b;rfl)
theorem AU:u6 X (compareOp .NotIn) (λx y H Q=>∃i j,x=.str i/\y=.str j/\Q (.bl (!(!(Builtin.Str.occurrences j i 0 j.length 1).isEmpty))) H):=by
 intro U s Z H x y v u Q I b g h;obtain⟨i,j,rfl,rfl,q⟩:=h;obtain⟨t,rfl⟩:=b;obtain⟨t',rfl⟩:=g;exact notIn_str (u7 I q rfl)
def AV(b:Expr){op:CmpOp}(h:op≠ .In:=by decide) (h2:op≠ .NotIn:=by decide):behindInMarks op b=false:=by
 have g:(op==CmpOp.In)=false:=by cases op<;>first|rfl|exact absurd rfl h
 have l:(op==CmpOp.NotIn)=false:=by cases op<;>first|rfl|exact absurd rfl h2
 cases b<;>simp[behindInMarks,g,l]
theorem Np{op:CmpOp}{r:R2}(ho:u6 X (compareOp op) r)(ha:PE X o ta)(hb:PE X b tb)(hm:behindInMarks op b=false):PE X (.Compare o [op] [b] pos) (Ro r ta tb):=by
 intro U s Z H Q I h;exact wpAny_Compare1 (Rq ha hb I h λv u s2 x y H2 g l n q=>ho U s2 Z H2 x y v u Q g l n q) hm
def VR(t:TE):TT:=λZ H Q=>t Z H λx H'=>∃k,x=.bl k/\Q k H'
theorem Nq{op:CmpOp}{r:R2}(q:u6 X (compareOp op) r)(ha:PE X o ta)(hb:PE X b tb)(hm:behindInMarks op b=false):PT X (.Compare o [op] [b] pos) (VR (Ro r ta tb)):=by
 intro U s Z H Q I h;refine wpAny_isTrue_Compare1 (eK (ha U s Z H _ I h) λv s1 ⟨x,H1,g,r1,l⟩=>eK (hb U s1 Z H1 _ g l) λu s2 ⟨y,H2,n,r2,L⟩=>
  eK (q U s2 Z H2 x y v u _ n r1 r2 L) λc s3 ⟨z,M,S,r3,k,e,q3⟩=>?_) hm
 subst e;cases r3;exact pq ⟨M,S,q3⟩
def Nr(K:Frag)(x:V)(H:Hp)(k:Bool):Prop:=
 match x with
 |.cA=>k=false
 |.bl b=>k=b
 |.int i=>k=(i !=0)
 |.str y=>y.length<=sizeLine/\k=((y.length:Int) !=0)
 |.PR y=>y.size<=sizeLine/\k=((y.size:Int) !=0)
 |.ref p=>(∃xs,lR K H p xs/\k=!xs.isEmpty)\/(∃xs,js K H p xs/\k=!xs.isEmpty)\/∃kvs,Rd H p (.dK kvs)/\k=!kvs.isEmpty
 |_=>False
def Ez{kvs:List (ag×V)}{vs:List (ag×Value)}(r:KV kvs vs):(!vs.isEmpty)=!kvs.isEmpty:=by
 cases r<;>rfl
def xH(r:Vals ar aq):(!aq.toArray.isEmpty)=!ar.isEmpty:=by
 cases r<;>simp
def xI:(sizeLine:Nat)<2 ^63:=by rw[dX];decide
theorem JX:aaq X (λx H Q=>∃k,Nr X.K x H k/\Q k H):=by
 intro U s Z H x v Q I l h;obtain⟨k,e,q⟩:=h;have hl:=xI;have hs:sizeLine=16777216:=dX;cases x with
 |cA=>
  cases l;have g:k=false:=e;subst g;exact truthy_none ⟨H,I,q⟩
 |bl b=>
  cases l;have g:k=b:=e;subst g;exact pq ⟨H,I,q⟩
 |int i=>
  obtain⟨t,rfl⟩:=l;have g:k=(i !=0):=e;subst g;exact PySem.P.truthy_int ⟨H,I,q⟩
 |str y=>
  obtain⟨t,rfl⟩:=l;obtain⟨M,g⟩:y.length<=sizeLine/\k=((y.length:Int) !=0):=e;subst g;exact PySem.P.truthy_str (by omega) ⟨H,I.tok _,q⟩
 |PR y=>
  obtain⟨t,rfl⟩:=l;obtain⟨M,g⟩:y.size<=sizeLine/\k=((y.size:Int) !=0):=e;subst g;exact PySem.W.truthy_bytes (by omega) ⟨H,I.tok _,q⟩
 |ref p=>
  cases l;have g:(∃xs,lR X.K H p xs/\k=!xs.isEmpty)\/(∃xs,js X.K H p xs/\k=!xs.isEmpty)\/∃kvs,Rd H p (.dK kvs)/\k=!kvs.isEmpty:=e;rcases g with⟨xs,n,g⟩|⟨xs,n,g⟩|⟨kvs,n,g⟩
  ·subst g;obtain⟨cy,r,pl,hz⟩:=I.list n;have L:=r.length;exact wpAny_truthy_list pl.isList (by simp only[cW];omega) ⟨H,I.tok _,by rw[xH r];exact q⟩
  ·subst g;obtain⟨cy,r,pl,hz⟩:=I.tuple n;have L:=r.length;exact truthy_tuple pl (by simp only[cW];omega) ⟨H,I.tok _,by rw[xH r];exact q⟩
  ·subst g;obtain⟨hz,S,vs,r,m⟩:kvs.length<=sizeLine/\(p==sysModules)=false/\∃vs,KV kvs vs/\s.heap.DictOf (cp X.prog X.w) p vs:=n.ok I.cY;have L:kvs.length=vs.length:=Paired.length r;exact wpAny_truthy_dict S m (by omega) ⟨H,I.tok _,by rw[Ez r];exact q⟩
 |_=>exact fe e
def Cw(q:PE X o ta)(he:∀whole,isTrue o X.env whole=(do let v<-whole;standAt o.pos;holding [v] (truthy v))):
  PT X o (λZ H Q=>ta Z H λx H'=>∃k,Nr X.K x H' k/\Q k H'):=by
 intro U s Z H Q I h;exact isTrue_plain (eK (q U s Z H _ I h) λv s1 ⟨x,H1,b,r1,g⟩=>JX U s1 Z H1 x v Q b r1 g) (he _)
theorem EA:u6 X (binaryOp .Add) (λx y H Q=>∃i j,x=.str i/\y=.str j/\i.length+j.length<=sizeLine/\Q (.str (i++j)) H):=by
 intro U s Z H x y v u Q I b g h;obtain⟨i,j,rfl,rfl,hz,q⟩:=h;obtain⟨t,rfl⟩:=b;obtain⟨t',rfl⟩:=g;exact add_str (λt' l=>⟨.str (i++j),H,I.tok _,⟨_,rfl⟩,q⟩) hz
def vals1{x:V}(r:Vals [x] aq):∃u,aq=[u]/\RelV x u:=by
 cases r with
 |cons r1 b=>cases b;exact⟨_,rfl,r1⟩
def vals2{x y:V}(r:Vals [x,y] aq):∃u w',aq=[u,w']/\RelV x u/\RelV y w':=by
 cases r with
 |cons r1 b=>
  cases b with
  |cons g l=>cases l;exact⟨_,_,rfl,r1,g⟩
theorem HS(hc:X.calm=true):gL X (.builtin "max") (λxs H Q=>∃i j,xs=[.int i,.int j]/\Q (.int (if j>i then j else i)) H):=by
 intro U s Z H xs us Q I r h;obtain⟨i,j,rfl,q⟩:=h;obtain⟨u,g,rfl,⟨t,rfl⟩,⟨t',rfl⟩⟩:=vals2 r;refine max_two_ints (I.ok.hd hc) λh' l k=>⟨_,H,I.kept k,?_,q⟩;by_cases b:j>i
 ·rw[aW b,aW b];exact⟨_,rfl⟩
 ·rw[bc b,bc b];exact⟨_,rfl⟩
theorem zJ:gL X (.type "int") (λxs H Q=>(∃i,xs=[.int i]/\Q (.int i) H)\/∃k,xs=[.bl k]/\Q (.int (if k then 1 else 0)) H):=by
 intro U s Z H xs us Q I r h;rcases h with⟨i,rfl,q⟩|⟨k,rfl,q⟩
 ·obtain⟨u,rfl,t,rfl⟩:=vals1 r;exact call_int_int ⟨.int i,H,I,⟨_,rfl⟩,q⟩
 ·obtain⟨u,rfl,r1⟩:=vals1 r;cases r1;exact call_int_bool ⟨.int (if k then 1 else 0),H,I.tok _,⟨_,rfl⟩,q⟩
def aas(K:Frag)(x:V)(H:Hp)(n:Nat):Prop:=
 match x with
 |.str y=>y.length<=sizeLine/\n=y.length
 |.PR y=>y.size<=sizeLine/\n=y.size
 |.ref p=>(∃xs,lR K H p xs/\n=xs.length)\/∃xs,js K H p xs/\n=xs.length
 |_=>False
theorem ub:gL X (.builtin "len") (λxs H Q=>∃x n,xs=[x]/\aas X.K x H n/\Q (.int n) H):=by
 intro U s Z H xs us Q I r h;obtain⟨x,n,rfl,e,q⟩:=h;obtain⟨u,rfl,g⟩:=vals1 r;have hl:=xI;have hs:sizeLine=16777216:=dX;cases x with
 |str y=>
  obtain⟨t,rfl⟩:=g;obtain⟨S,b⟩:y.length<=sizeLine/\n=y.length:=e;subst b;exact len_str (by omega) ⟨.int _,H,I.tok _,⟨_,rfl⟩,q⟩
 |PR y=>
  obtain⟨t,rfl⟩:=g;obtain⟨S,b⟩:y.size<=sizeLine/\n=y.size:=e;subst b;exact PySem.W.len_bytes (by omega) ⟨.int _,H,I.tok _,⟨_,rfl⟩,q⟩
 |ref p=>
  cases g;have b:(∃xs,lR X.K H p xs/\n=xs.length)\/∃xs,js X.K H p xs/\n=xs.length:=e;rcases b with⟨xs,l,b⟩|⟨xs,l,b⟩
  ·subst b;obtain⟨cy,L,pl,hz⟩:=I.list l;have M:=L.length;exact Calls.call_len_list pl.isList (by simp only[cW];omega) ⟨.int xs.length,H,I.tok _,⟨_,by simp only[cW];rw[M]⟩,q⟩
  ·subst b;obtain⟨cy,L,pl,hz⟩:=I.tuple l;have M:=L.length;exact len_tuple pl (by simp only[cW];omega) ⟨.int xs.length,H,I.tok _,⟨_,by simp only[cW];rw[M]⟩,q⟩
 |_=>exact fe e
end
structure EB(h:Heap)(x dx C:Addr)(mA:Str->Option Value):Prop where
 obj:h.get? x=some (PySem.W.instObj C dx)
 ns:h.Ns1 dx mA
 ne:dx≠x
theorem HU(n:aa.Ns1 au mg):∃od,aa.get? au=some od/\∀name,PySem.W.lookIn name od=some (mg name):=by
 obtain⟨o,es,ep,b,hd,g,_,hm⟩:=n;refine⟨o,b,λname=>?_⟩;have e:=hm name;unfold nsFind findBy at e;rw[<-Array.find?_toList]at e;unfold PySem.W.lookIn;rw[hd];dsimp only;split
 ·rename_i y q;rw[q]at e;exact cX some e
 ·rename_i q;rw[q]at e;have a:es.toList.any (·.refKey)=false:=by
   rw[List.any_eq_false];intro y l;obtain⟨z,t,r⟩:=g y (Array.mem_toList_iff.mp l);simp[DictEntry.refKey,r]
  have I:¬es.toList.any (·.refKey)=true:=by rw[a];exact fE
  rw[bc I];exact cX some e
def EB.look {h:Heap}{x dx C:Addr}{mA:Str->Option Value}(I:EB h x dx C mA):∃q,PySem.W.InstAt h x (PySem.W.instObj C dx) C (some q)/\∀name,PySem.W.lookIn name q=some (mA name):=
 let⟨q,b,g⟩:=HU I.ns
 ⟨q,⟨I.obj,rfl,rfl,b⟩,g⟩
section
variable {x C f:Addr}
def get_map{expr:Bool}(X:K.In s.heap)(I:EB s.heap x au C mg)(q:PySem.W.plainGet K C av=true)(hh:PySem.W.hasDictIn K C=true)
  (ha:PySem.W.findIn K (.ref C) av=some none) (hv:mg av=some af) (JZ:PySem.W.handedIn af=true) (h:Q af {s with toks:=s.toks+1}):
  wpAny (model P w) A (getAttr (.ref x) av expr) Q E s:=by
 obtain⟨g,J,b⟩:=I.look;exact PySem.W.get_value X J (o6 q).1 (PySem.W.findObj_own hh ha rfl (by rw[b,hv])) JZ h
def J0{pl:Sem Bool}{Q:Value×List Value->Shared->Prop}(X:K.In s.heap)(I:EB s.heap x au C mg)(q:PySem.W.plainGet K C av=true)
  (hf:PySem.W.findIn K (.ref C) av=some (some (.ref f))) (ht:PySem.W.isFn K (.ref f)=true) (hv:mg av=none) (h:Q (.ref f,[.ref x]) s):
  wpAny (model P w) A (getMethod (.ref x) av pl) Q E s:=by
 obtain⟨b,J,g⟩:=I.look;exact PySem.W.method_fn X J (o6 q).1 (o6 q).2 hf (fg.mp ht) (by show(PySem.W.lookIn av b).map (·.isSome)=some false;rw[g,hv];rfl) h
def Nt(X:K.In s.heap)(I:EB s.heap x au C mg)
  (hs:PySem.W.findIn K (.ref C) "__setattr__"=some (some (.builtin "object.__setattr__"))) (hp:PySem.W.plainOver K C=true) (q:PySem.W.takerIn K C av=some none) (hh:PySem.W.hasDictIn K C=true)
  (hw:PySem.Within mg ps) (hsz:ps.length<=sizeLine)
  (h:∀h',EB h' x au C (λy=>if y=av then some af else mg y)->Heap.SameBut au s.heap h'->ae () {s with heap:=h',toks:=s.toks+2}):
  wpAny (model P w) A (setAttr (.ref x) av af) ae E s:=by
 obtain⟨od,J,hl⟩:=I.look;refine PySem.W.set_plain X J hs (PySem.W.osa_open (s:={s with toks:=s.toks+1}) (r:=none) X J hp q λb=>?_);obtain⟨cd,S,Nd⟩:=PySem.W.any_some hh;have hx:s.heap.get? x=some ⟨.ref C,some au,.plain,#[]⟩:=I.obj;refine aT (bf (aT (aT (wpAny_loadPart hx (aT (PySem.W.Looks.here (s:={s with toks:=s.toks+1}) (PySem.W.looks_clsIn X S) ?_))))));rw[Nd];refine bf (a:=some au) (aT (bf (aT ?_)));refine wpAny_nsSet1 (s:={s with toks:=s.toks+1}) I.ns λh' L M=>?_
 obtain⟨oD,esD,epD,g,l,n⟩:=L.count (PySem.Within.cons av af hw);refine aT (wpAny_lookBehind g (by rw[l];exact pastItsLine_dict (cF n (by rw[dB];omega))) ?_);exact bf (h _ ⟨(M.2 _ (Ne.symm I.ne)).trans I.obj,L,I.ne⟩ M)
theorem J4{kw:List (Str×Value)}(X:K.In s.heap)(hm:PySem.W.makesIn K C=true)
  (hi:PySem.W.findIn K (.ref C) "__init__"=some (some (.ref f))) (hf:PySem.W.typeIn K (.ref f)=some (.type "function"))
  (h:codeAny (model P w) (A.under (.builtin "type.__call__" ⟨.ref C::aq,kw⟩)) (.call (.ref f) ⟨.ref (s.heap.objs.size+1)::aq,kw⟩) (PySem.W.InitBack (s.heap.objs.size+1) aw)
   {s with heap:=(s.heap.push PySem.W.emptyDict).push (PySem.W.instObj C s.heap.objs.size)}):
  codeAny (model P w) A (.call (.ref C) ⟨aq,kw⟩) aw s:=by
 obtain⟨b,g,d,t,os⟩:=s;exact PySem.W.make_core (PySem.W.makes_of X hm) (tT X hi) (λself=>PySem.W.bind_fn X self hf) (.inl rfl) h
end
def mS(f:Str)(v:V):List (Str×V)->List (Str×V)
 |[]=>[(f,v)]
 |(g,x)::r=>if g=f then(g,v)::r else(g,x)::mS f v r
theorem vB(f g:Str)(v:V):∀fs:List (Str×V),(mS f v fs).lookup g=if g=f then some v else fs.lookup g
 |[]=>by
  show List.lookup g [(f,v)]=_;by_cases h:g=f
  ·have hb:(g==f)=true:=fg.mpr h;simp only[List.lookup,hb,aW h]
  ·have hb:(g==f)=false:=jn.mpr h;simp only[List.lookup,hb,bc h]
 |(k,x)::r=>by
  have l:=vB f g v r;rw[show mS f v ((k,x)::r)=(if k=f then(k,v)::r else(k,x)::mS f v r)from rfl];by_cases b:k=f
  ·rw[aW b];by_cases h:g=k
   ·have hb:(g==k)=true:=fg.mpr h;simp only[List.lookup,hb,aW (h.trans b)]
   ·have hb:(g==k)=false:=jn.mpr h;simp only[List.lookup,hb,bc (λe:g=f=>h (e.trans b.symm))]
  ·rw[bc b];by_cases h:g=k
   ·have hb:(g==k)=true:=fg.mpr h;simp only[List.lookup,hb,bc (λe:g=f=>b (h.symm.trans e))]
   ·have hb:(g==k)=false:=jn.mpr h;simp only[List.lookup,hb];exact l
theorem u9(f:Str)(v:V):∀fs:List (Str×V),f∈(mS f v fs).map (·.1)/\∀g,g∈fs.map (·.1)->g∈(mS f v fs).map (·.1)
 |[]=>⟨by simp[mS],λg h=>by simp at h⟩
 |(k,x)::r=>by
  obtain⟨i1,i2⟩:=u9 f v r;rw[show mS f v ((k,x)::r)=(if k=f then(k,v)::r else(k,x)::mS f v r)from rfl];by_cases b:k=f
  ·rw[aW b];subst b;exact⟨by simp,λg h=>by simpa using h⟩
  ·rw[bc b];refine⟨?_,λg h=>?_⟩
   ·rw[bO];exact cu _ i1
   ·rw[bO]at h⊢;rcases bG.mp h with e|e
    ·exact bG.mpr (.inl e)
    ·exact cu _ (i2 g e)
theorem vC(f:Str)(v:V):∀fs:List (Str×V),(mS f v fs).length<=fs.length+1
 |[]=>by simp[mS]
 |(k,x)::r=>by
  have g:=vC f v r;rw[show mS f v ((k,x)::r)=(if k=f then(k,v)::r else(k,x)::mS f v r)from rfl];by_cases b:k=f
  ·rw[aW b,dB,dB];omega
  ·rw[bc b,dB,dB];omega
def l8.some_of {v:V}{o:Option Value}(r:l8 (some v) o):∃u,o=some u/\RelV v u:=by
 cases o with
 |none=>exact fe r
 |some u=>exact⟨u,rfl,r⟩
def l8.none_of {o:Option Value}(r:l8 none o):o=none:=by
 cases o with
 |none=>rfl
 |some u=>exact fe r
def HV{v:V}{u:Value}(r:RelV v u):PySem.W.handedIn u=true:=by
 cases v with
 |cA=>cases(show u=Value.none from r);rfl
 |bl b=>cases(show u=Value.bool b from r);rfl
 |int i=>obtain⟨t,e⟩:=(show∃t,u=Value.int i t from r);cases e;rfl
 |str x=>obtain⟨t,e⟩:=(show∃t,u=Value.str x t from r);cases e;rfl
 |PR b=>obtain⟨t,e⟩:=(show∃t,u=Value.bytes b t from r);cases e;rfl
 |AL b=>obtain⟨t,e⟩:=(show∃t,u=Value.float b t from r);cases e;rfl
 |ref a=>cases(show u=Value.ref a from r);rfl
 |ty n=>cases(show u=Value.type n from r);rfl
section
variable {h':Heap}{dx:Addr}{fs fs':List (Str×V)}
def uc(cY:r9 P w H aa)(e:H a=some (.ins au dx fs)):∃mA,EB aa a dx au mA/\(∀f,l8 (fs.lookup f) (mA f))/\PySem.Within mA (fs.map (·.1))/\fs.length<=1000/\H dx=some (.own a):=by
 obtain⟨d,z,ne,ob,mA,n,r,q⟩:=(show cZ P w H aa a (.ins au dx fs)from cY a _ e);exact⟨mA,⟨ob,n,ne⟩,r,q,z,d⟩
end
structure EC(K:Frag)(C:Addr):Prop where
 pg:PySem.W.plainGet K C Str.empty=true
 hd:PySem.W.hasDictIn K C=true
 po:PySem.W.plainOver K C=true
 sa:PySem.W.findIn K (.ref C) "__setattr__"=some (some (.builtin "object.__setattr__"))
def EC.get {C:Addr}(c:EC K C)(f:Str):PySem.W.plainGet K C f=true:=c.pg
def r_(K:Frag)(C:Addr)(f:Str):Prop:=PySem.W.findIn K (.ref C) f=some none
def r_.VT {C:Addr}{f:Str}(n:r_ K C f):PySem.W.takerIn K C f=some none:=by
 unfold PySem.W.takerIn;rw[show PySem.W.findIn K (.ref C) f=some none from n]
 rfl
structure Meth(K:Frag)(C:Addr)(m:Str)(f:Addr):Prop where
 at_:PySem.W.findIn K (.ref C) m=some (some (.ref f))
 fn:PySem.W.isFn K (.ref f)=true
 kp:PySem.W.keepIn K (.ref f)=true
section
variable {C:Addr}{fs:List (Str×V)}{f:Str}{v:V}
def ED{b:Bool}(I:Inv X U Z H s)(e:H a=some (.ins C au fs))(c:EC X.K C)(n:r_ X.K C f)(l:fs.lookup f=some v)
  (h:∀u s',Inv X U Z H s'->RelV v u->Q u s'):wpAny (model X.prog X.w) A (getAttr (.ref a) f b) Q E s:=by
 obtain⟨mA,O,r,_,_,_⟩:=uc I.cY e;obtain⟨u,L,g⟩:=l8.some_of (v:=v) (o:=mA f) (by rw[<-l];exact r f);exact get_map I.l9 O (c.get f) c.hd n L (HV g) (h u _ (I.tok _) g)
def xJ{g:Addr}{pl:Sem Bool}{Q:Value×List Value->Shared->Prop}(I:Inv X U Z H s)(e:H a=some (.ins C au fs))(c:EC X.K C)(k:Meth X.K C x g)(l:fs.lookup x=none)
  (h:Q (.ref g,[.ref a]) s):wpAny (model X.prog X.w) A (getMethod (.ref a) x pl) Q E s:=by
 obtain⟨mA,O,r,_,_,_⟩:=uc I.cY e;have b:mA x=none:=l8.none_of (by rw[<-l];exact r x);exact J0 I.l9 O (c.get x) k.at_ k.fn b h
def EE{y:V}(I:Inv X U Z H s)(e:H a=some (.ins C au fs))(c:EC X.K C)(n:r_ X.K C f)(hl:fs.length<1000)(ry:RelV y af)
  (h:∀s',Inv X U Z (upd H a (.ins C au (mS f y fs))) s'->ae () s'):wpAny (model X.prog X.w) A (setAttr (.ref a) f af) ae E s:=by
 obtain⟨mA,O,r,L,_,M⟩:=uc I.cY e;have hz:(fs.map (·.1)).length<=sizeLine:=by rw[bu,dX];omega
 refine Nt I.l9 O c.sa c.po n.VT c.hd L hz λh' l S=>h _ ?_
 have hd:∃o,h'.get? au=some o:=let⟨o,_,_,e',_⟩:=l.ns;⟨o,e'⟩
 refine I.write (x:=a) (e:=au) (by rw[e];exact True.intro) (.inr M) (λb q hb z=>(S.2 b hb).trans z) hd ?_
 refine⟨by rw[bp O.ne];exact M,?_,O.ne,l.obj,_,l.ns,λg=>?_,λg hg=>?_⟩
 ·have:=vC f y fs;omega
 ·show l8 ((mS f y fs).lookup g) (if g=f then some af else mA g);rw[vB];by_cases q:g=f
  ·rw[aW q,aW q];exact ry
  ·rw[bc q,bc q];exact r g
 ·by_cases q:g=f
  ·rw[q];exact(u9 f y fs).1
  ·refine(u9 f y fs).2 g (L g λz=>hg ?_);show(if g=f then some af else mA g)=none;rw[bc q];exact z
theorem Inv.made (I:Inv X U Z H s):Inv X U Z (upd (upd H s.heap.objs.size (.own (s.heap.objs.size+1))) (s.heap.objs.size+1) (.ins C s.heap.objs.size []))
  {s with heap:=(s.heap.push PySem.W.emptyDict).push (PySem.W.instObj C s.heap.objs.size)}:=by
 have g:(s.heap.push PySem.W.emptyDict).get? s.heap.objs.size=some PySem.W.emptyDict:=cz s.heap rfl;have l:((s.heap.push PySem.W.emptyDict).push (PySem.W.instObj C s.heap.objs.size)).get? (s.heap.objs.size+1)=some (PySem.W.instObj C s.heap.objs.size):=by
  have:=cz (s.heap.push PySem.W.emptyDict) (o:=PySem.W.instObj C s.heap.objs.size) rfl;rwa[jD]at this
 have n:(s.heap.push PySem.W.emptyDict).Ns s.heap.objs.size (λ_=>none):=⟨PySem.W.emptyDict,#[],_,g,rfl,(λe he=>absurd he (by simp)),λ_=>rfl⟩;have r:=I.laid (a:=s.heap.objs.size) (o:=.own (s.heap.objs.size+1)) (h':=s.heap.push PySem.W.emptyDict) (t':=s.toks) (λb u q=>bR _ q) (bz _) ⟨_,g⟩;refine r.laid (a:=s.heap.objs.size+1) (o:=.ins C s.heap.objs.size []) (t':=s.toks) (λb u q=>bR _ q) (Nat.le_of_eq (jD _ _)) ?_
 have ne:s.heap.objs.size≠s.heap.objs.size+1:=cc (pd _);refine⟨by rw[bp ne,bM],d9 _,ne,l,λ_=>none,(Heap.Ns1.of_empty n).at λo q=>bR _ q,λ_=>True.intro,λy L=>absurd rfl L⟩
def F9{env:Env}(hb:attributeBase e f env (eval e env)=eval e env)
  (h:wpAny (model P w) A (eval e env) (λo q=>wpAny (model P w) A (getAttr o f true) Q E q) E s):wpAny (model P w) A (eval (.Attribute e f pos) env) Q E s:=
 Attribute_any_ h (by rw[arm_eval_Attribute,hb])
end
def aat(K:Frag)(ta:TE)(f:Str):TE:=λZ H Q=>ta Z H λx H1=>∃a C dx fs v,x=.ref a/\H1 a=some (.ins C dx fs)/\EC K C/\r_ K C f/\fs.lookup f=some v/\Q v H1
def aau(K:Frag)(ta tv:TE)(f:Str):TS:=λD Z H=>tv Z H λy H1=>ta Z H1 λx H2=>∃a C dx fs,x=.ref a/\H2 a=some (.ins C dx fs)/\EC K C/\r_ K C f/\fs.length<1000/\
 D.nx Z (upd H2 a (.ins C dx (mS f y fs)))
section
variable {f:Str}{ta tv:TE}
theorem J5(he:PE X e ta)(hb:attributeBase e f X.env (eval e X.env)=eval e X.env):PE X (.Attribute e f pos) (aat X.K ta f):=by
 intro U s Z H Q I h;refine F9 hb (eK (he U s Z H _ I h) λu s1 ⟨x,H1,b,g,a,C,dx,fs,v,ex,r,c,n,l,q⟩=>?_);subst ex;obtain rfl:u=Value.ref a:=g;exact ED b r c n l λu' s2 L M=>⟨v,H1,L,M,q⟩
theorem Ry(ha:PE X o ta)(hv:PE X tg tv)(hs:swapsWith tg (some (.Attribute o f p)) pos.line X.env=pure false):PS X (.Assign [.Attribute o f p] tg pos) (aau X.K ta tv f):=by
 intro U s Z H D I h;refine plainObj_wpAny_Assign_Attribute (eK (hv U s Z H _ I h) λu s1 ⟨y,H1,b,g,q⟩=>eK (ha U s1 Z H1 _ b q) λr s2 ⟨x,H2,L,M,a,C,dx,fs,ex,S,c,n,l,q2⟩=>?_) hs;subst ex;obtain rfl:r=Value.ref a:=M;exact EE L S c n l g λs3 I3=>⟨Z,_,I3,q2⟩
end
section
variable {b:Bool}
inductive ud(K:Frag)(H:Hp):V->Value->Prop where
 |cA:ud K H .cA (.type "NoneType")
 |bl (x:Bool):ud K H (.bl x) (.type "bool")
 |int (i:Int):ud K H (.int i) (.type "int")
 |str (x:Str):ud K H (.str x) (.type "str")
 |AL (x:UInt64):ud K H (.AL x) (.type "float")
 |lst {a:Addr} {xs:List V} (e:H a=some (.lst xs)):ud K H (.ref a) (.type "list")
 |lH {a:Addr} {o:Obj} {xs:List V} (e:H a=some (.lH o (.lst xs))):ud K H (.ref a) (.type "list")
 |tup {a:Addr} {xs:List V} (e:H a=some (.tup xs)):ud K H (.ref a) (.type "tuple")
 |dK {a:Addr} {kvs:List (Key×V)} (e:H a=some (.dK kvs)):ud K H (.ref a) (.type "dict")
 |dT {a:Addr} {kvs:List (List Key×V)} (e:H a=some (.dT kvs)):ud K H (.ref a) (.type "dict")
 |ins {a C dx:Addr} {fs:List (Str×V)} (e:H a=some (.ins C dx fs)) (cl:EC K C) (ha:PySem.W.findIn K (.ref C) "__class__"=some (some (.builtin "object.__class__")))
   (hn:PySem.W.specialIn K (.builtin "object.__class__") "__get__"=some (some (.builtin "getset_descriptor.__get__"))) (htk:PySem.W.takesIn K (.builtin "object.__class__")=some true)
   (hm:PySem.W.mroIn K C (.type "object")=some true):ud K H (.ref a) (.ref C)
def mT{x:V}{u t:Value}(I:Inv X U Z H s)(rx:RelV x u)(ty:ud X.K H x t)(e:PySem.W.kitOne X.K t af=some b)(h:∀tk,Q (.bool b) {s with toks:=tk}):
  wpAny (model X.prog X.w) A (call (.builtin "isinstance") [u,af]) Q E s:=by
 cases ty with
 |cA=>cases(show u=Value.none from rx);exact ff PySem.W.kitx_none I.l9 True.intro e (λz=>nomatch z) h
 |bl y=>cases(show u=Value.bool y from rx);exact ff PySem.W.kitx_bool I.l9 True.intro e (λz=>nomatch z) h
 |int i=>obtain⟨t,q⟩:=(show∃t,u=Value.int i t from rx);cases q;exact ff PySem.W.kitx_int I.l9 True.intro e (λz=>nomatch z) h
 |str y=>obtain⟨t,q⟩:=(show∃t,u=Value.str y t from rx);cases q;exact ff PySem.W.kitx_str I.l9 True.intro e (λz=>nomatch z) h
 |AL y=>obtain⟨t,q⟩:=(show∃t,u=Value.float y t from rx);cases q;exact ff PySem.W.kitx_float I.l9 True.intro e (λz=>nomatch z) h
 |@lst a xs g=>
  cases(show u=Value.ref a from rx);obtain⟨_,_,n,_,h1⟩:=(show cZ X.prog X.w H s.heap a (.lst xs)from I.cY a _ g);exact ff xi I.l9 ⟨_,h1,rfl⟩ e (λz=>nomatch z) h
 |@lH a r xs g=>
  cases(show u=Value.ref a from rx);obtain⟨_,_,_,n,_,h1⟩:=(show cZ X.prog X.w H s.heap a (.lH r (.lst xs))from I.cY a _ g);exact ff xi I.l9 ⟨_,h1,rfl⟩ e (λz=>nomatch z) h
 |@tup a xs g=>
  cases(show u=Value.ref a from rx);obtain⟨_,_,_,p⟩:=(show cZ X.prog X.w H s.heap a (.tup xs)from I.cY a _ g);obtain⟨o,h1,h2,_⟩:=p;exact ff PySem.W.kitx_tuple I.l9 ⟨o,h1,h2⟩ e (λz=>nomatch z) h
 |@dK a kvs g=>
  cases(show u=Value.ref a from rx);obtain⟨_,_,vs,_,p⟩:=(show cZ X.prog X.w H s.heap a (.dK kvs)from I.cY a _ g);obtain⟨o,es,ep,h1,h2,_⟩:=p;exact ff s_ I.l9 ⟨o,h1,h2.1⟩ e (λz=>nomatch z) h
 |@dT a kvs g=>
  cases(show u=Value.ref a from rx);obtain⟨_,_,xs,_,o,es,ep,h1,h2,_⟩:=(show cZ X.prog X.w H s.heap a (.dT kvs)from I.cY a _ g);exact ff s_ I.l9 ⟨o,h1,h2.1⟩ e (λz=>nomatch z) h
 |@ins a C dx fs g cl L M l hm=>
  cases(show u=Value.ref a from rx);obtain⟨mA,O,_⟩:=uc I.cY g;obtain⟨S,J,_⟩:=O.look;exact ff (PySem.W.kitx_own (cl.get _) cl.hd L M l hm) I.l9 J e (λz=>nomatch z) h
end
structure di(k:Nat)(A:Around):Prop where
 hd:A.handled=none
 dp:A.depth+3*k+5<recursionLimit
 un:A.units+16*k+200<cLine
def di.mono {j k:Nat}(r:di k A)(h:j<=k):di j A:=⟨r.hd,by have:=r.dp;omega,by have:=r.un;omega⟩
theorem di.deeper {k:Nat}(r:di (k+1) A)(env:Env):di k (A.deeper env):=
 ⟨r.hd,by have:=r.dp;show A.depth+1+3*k+5<_;omega,by have:=r.un;show A.units+3+16*k+200<_;omega⟩
theorem di.in1 {k:Nat}(r:di (k+1) A):di k A.in1:=
 ⟨r.hd,by have:=r.dp;show A.depth+3*k+5<_;omega,by have:=r.un;show A.units+1+16*k+200<_;omega⟩
theorem EF{kw:List (Str×Value)}:(A.under (.builtin "type.__call__" ⟨.ref a::aq,kw⟩)).depth=A.depth+1:=by
 first|rfl|simp[Around.under,Code.weight,Code.isCreation,Code.isGuard,Code.isCaller,Code.frames,Code.isFrame,guardIds]
theorem EG{kw:List (Str×Value)}:(A.under (.builtin "type.__call__" ⟨.ref a::aq,kw⟩)).units=A.units+1:=by
 first|rfl|simp[Around.under,Code.cUnits,Code.frames,Code.isFrame]
def di.make {k:Nat}(r:di (k+1) A)(C:Addr)(us:List Value)(kw:List (Str×Value)):di k (A.under (.builtin "type.__call__" ⟨.ref C::us,kw⟩)):=
 ⟨r.hd,by have:=r.dp;rw[EF];omega,by have:=r.un;rw[EG];omega⟩
theorem di.depth {k:Nat}(r:di k A):A.depth<recursionLimit:=by have:=r.dp;omega
theorem di.units {k:Nat}(r:di k A):A.units+64<cLine:=by have:=r.un;omega
def RB:TA:=λ_ H Q=>Q [] H
def VU(ta:TE)(q:TA):TA:=λZ H Q=>ta Z H λx H1=>q Z H1 λxs H2=>Q (x::xs) H2
section
variable {te:TE}{t:TA}
def se:PA X [] RB:=λ_ _ _ _ H Q I h=>pv ⟨[],H,I,.nil,h⟩
theorem lS(q:PE X e te)(hr:PA X es t)(hs:starEach (e::es) X.env=(false,eval e X.env)::starEach es X.env:=by rfl):PA X (e::es) (VU te t):=by
 intro pos U s Z H Q I h;rw[hs];show wpAny _ _ (spliced ((false,eval e X.env)::backTo pos (starEach es X.env))) _ _ s;refine kL (eK (q U s Z H _ I h) λu s1 ⟨x,H1,b,r1,g⟩=>?_);exact eK (hr pos U s1 Z H1 _ b g) λus s2 ⟨xs,H2,l,r2,n⟩=>⟨x::xs,H2,l,.cons r1 r2,n⟩
def aav(t:TA):TE:=λZ H Q=>t Z H λxs H1=>xs.length<=sizeLine/\∀p,H1 p=none->Q (.ref p) (upd H1 p (.tup xs))
def aaw(t:TA):TE:=λZ H Q=>t Z H λxs H1=>xs.length<=sizeLine/\∀p,H1 p=none->Q (.ref p) (upd H1 p (.lst xs))
theorem RC{x1}(h:PA X es t):PE X (.Tuple es x1 pos) (aav t):=by
 intro U s Z H Q I l;refine wpAny_Tuple_spliced (eK (h pos U s Z H _ I l) λus s1 ⟨xs,H1,g,r,z,q⟩=>⟨by rw[<-r.length];exact z,?_⟩);have hf:H1 s1.heap.objs.size=none:=g.cY.fresh (bz _);refine⟨.ref s1.heap.objs.size,upd H1 s1.heap.objs.size (.tup xs),g.laid (t':=s1.toks) (λb u e=>bR _ e) (bz _) ?_,rfl,q _ hf⟩;exact⟨z,us,r,⟨_,cz _ rfl,rfl,_,rfl⟩⟩
theorem J7(h:PA X es t):PE X (.List es pos) (aaw t):=by
 intro U s Z H Q I l;refine wpAny_List_spliced (eK (h pos U s Z H _ I l) λus s1 ⟨xs,H1,g,r,z,q⟩=>⟨by rw[<-r.length];exact z,?_⟩);have hf:H1 s1.heap.objs.size=none:=g.cY.fresh (bz _);refine⟨.ref s1.heap.objs.size,upd H1 s1.heap.objs.size (.lst xs),g.laid (t':=s1.toks) (λb u e=>bR _ e) (bz _) ?_,rfl,q _ hf⟩;exact⟨z,us,0,r,cz _ rfl⟩
end
abbrev Sp:=List V->Hp->VK->XK->Prop
abbrev Cy:=List Env->Hp->Shared->XK->Value->Shared->Prop
structure zl(P:Program)(w:World)(K:Frag)(mg:Str->Option Value)(base:Heap)(A:Around)(outer:List Env)(s:Shared)(H:Hp):Prop where
 frames:A.frames=some outer
 mod:Mod K mg base
 bs:∀b o,base.get? b=some o->s.heap.get? b=some o/\H b=none
 HL:base.objs.size<=s.heap.objs.size
 rB:s.heap.FunFrames base outer
 JI:∀b∈kc outer,H b=none
 cY:r9 P w H s.heap
 bare:AllBare s.gens
def CE(outer:List Env)(P:Program)(w:World)(H:Hp)(s:Shared)(Q:VK)(u:Value)(s':Shared):Prop:=
 ∃v H',s'.os=s.os/\AllBare s'.gens/\Un (kc outer) [] H H' s.heap s'.heap/\r9 P w H' s'.heap/\RelV v u/\Q v H'
def CR(CX:Cy)(outer:List Env)(P:Program)(w:World)(H:Hp)(s:Shared)(Q:VK)(E:XK)(r:Result)(s':Shared):Prop:=
 match r with
 |.ok (.ret u)=>CE outer P w H s Q u s'
 |.ok _=>False
 |.error e=>CX outer H s E e s'
structure eI(P:Program)(w:World)(K:Frag)(mg:Str->Option Value)(base:Heap)(CX:Cy)(k:Nat)(f:Addr)(fd:FuncData)(ps:List Str)(sp:Sp):Prop where
 len:∀vs H Q E,sp vs H Q E->vs.length=ps.length
 run:∀(A:Around) (outer:List Env) (s:Shared) (H:Hp) (args:Args) (us:List Value) (vs:List V) (Q:VK) (E:XK),di k A->zl P w K mg base A outer s H->BindsTo s fd args (ps.zip us)->Vals vs us->sp vs H Q E->
  codeAny (model P w) A (.call (.ref f) args) (CR CX outer P w H s Q E) s
theorem eI.mono {base:Heap}{CX:Cy}{j k:Nat}{f:Addr}{fd:FuncData}{sp:Sp}(F:eI P w K mg base CX j f fd ps sp)(h:j<=k):
  eI P w K mg base CX k f fd ps sp:=⟨F.len,λA outer s H args us vs Q E b=>F.run A outer s H args us vs Q E (b.mono h)⟩
theorem zl.make {base:Heap}{outer:List Env}(e:zl P w K mg base A outer s H)(C:Addr)(us:List Value)(kw:List (Str×Value)):
  zl P w K mg base (A.under (.builtin "type.__call__" ⟨.ref C::us,kw⟩)) outer s H:=⟨by first|exact e.frames|(simpa[Around.under,Code.envs,Code.isFrame,pushEnvs]using e.frames),e.mod,e.bs,e.HL,e.rB,e.JI,e.cY,e.bare⟩
theorem zl.in1 {base:Heap}{outer:List Env}(e:zl P w K mg base A outer s H):
  zl P w K mg base A.in1 outer s H:=⟨e.frames,e.mod,e.bs,e.HL,e.rB,e.JI,e.cY,e.bare⟩
section
variable {s':Shared}
def Inv.RD (I:Inv X U Z H s):zl X.prog X.w X.K X.mg X.base X.A X.stack s H:=
 ⟨I.ok.frames,I.ok.mod,I.bs,cF I.ok.HL I.sz,I.stack,I.wx,I.cY,I.bare⟩
theorem Inv.after {Q:VK}{u:Value}(I:Inv X U Z H s)(h:CE X.stack X.prog X.w H s Q u s'):EP X U Z Q u s':=by
 obtain⟨v,H',os,bare,un,cY,r,q⟩:=h;obtain⟨n,g,d,t,l⟩:=s';obtain rfl:l=s.os:=os;exact⟨v,H',I.call (h':=n) (g':=g) (d':=d) (t':=t) (ch:=[]) un cY bare (λb z=>absurd z (by simp)),r,q⟩
end
def P6(sp:Sp)(q:List V)(E:XK)(t:TA):TE:=λZ H Q=>t Z H λvs H1=>sp (vs++q) H1 Q E
def P7(C:Addr)(m:Str)(sp:Sp)(q:List V)(E:XK)(ta:TE)(t:TA):TE:=λZ H Q=>ta Z H λx H1=>∃a dx fs,x=.ref a/\H1 a=some (.ins C dx fs)/\fs.lookup m=none/\
 t Z H1 λvs H2=>sp (x::(vs++q)) H2 Q E
def P8(C:Addr)(sp:Sp)(q:List V)(E:XK)(t:TA):TE:=λZ H Q=>t Z H λvs H1=>∀x dx,H1 x=none->H1 dx=none->dx≠x->
 sp (.ref x::(vs++q)) (upd (upd H1 dx (.own x)) x (.ins C dx [])) (λv H2=>v=.cA/\Q (.ref x) H2) E
def Binds(K:Frag)(fd:FuncData)(ps:List Str)(ds:List Value):Prop:=
 ∀(s:Shared) (us:List Value),K.In s.heap->(us++ds).length=ps.length->BindsTo s fd ⟨us,[]⟩ (ps.zip (us++ds))
def Binds.all {fd:FuncData}(h:∀us:List Value,us.length=ps.length->bindArgs fd ⟨us,[]⟩=pure (ps.zip us)):Binds K fd ps []:=λs us _ b=>by
 rw[kl]at b⊢;exact .of_eq (h us b)
def Passes(CX:Cy)(X:Cx)(E:XK):Prop:=∀(U:List (Addr×Obj)) (Z:St) (H:Hp) (s:Shared) (e:Value) (s':Shared),Inv X U Z H s->CX X.stack H s E e s'->X.xe e s'
section
variable {CX:Cy}{k:Nat}{f C:Addr}{fd:FuncData}{sp:Sp}{E:XK}{ta:TE}{t:TA}
def EH{Q:VK}{us:List Value}{vs:List V}(F:eI X.prog X.w X.K X.mg X.base CX k f fd ps sp)(q:di k X.A)(hb:Binds X.K fd ps aq)(hd:Vals ar aq)(hx:Passes CX X E)
  (I:Inv X U Z H s) (r:Vals vs us) (h:sp (vs++ar) H Q E):wpAny (model X.prog X.w) X.A (call (.ref f) us) (EP X U Z Q) X.xe s:=by
 have g:Vals (vs++ar) (us++aq):=r.append hd;have l:(us++aq).length=ps.length:=by rw[<-g.length];exact F.len _ _ _ _ h
 refine pJ (iH (F.run X.A X.stack s H ⟨us,[]⟩ (us++aq) (vs++ar) Q E q I.RD (hb s us I.l9 l) g h) λr s' b=>?_);cases r with
 |error e=>exact hx U Z H s e s' I b
 |ok fl=>
  cases fl with
  |ret u=>exact I.after b
  |_=>exact False.elim b
theorem F_(F:eI X.prog X.w X.K X.mg X.base CX k f fd ps sp)(hr:di k X.A)(hg:Gl X x)(hm:X.mg x=some (.ref f))(hk:PySem.W.keepIn X.K (.ref f)=true)(hb:Binds X.K fd ps aq)(hd:Vals ar aq)(hx:Passes CX X E)
  (ha:PA X (e::es) t) (fM:Db x:=by decide) (he:starEach (e::es) X.env=(false,eval e X.env)::starEach es X.env:=by rfl) (oO:(backTo pos (starEach es X.env)).any (·.1)=false:=by rfl):
  PE X (.Call (.Name x p) (e::es) [] pos) (P6 sp ar E t):=by
 intro U s Z H Q I h;refine mE (qO I hg hm ?_ fM);refine xa (h₀:=X.base) I.ok.mod.PV hk (eK (ha pos U s Z H _ I h) λus s1 ⟨vs,H1,b,r,q⟩=>⟨b.l9,?_⟩) he oO;exact EH F hr hb hd hx b r q
theorem Ga{pl:Sem Bool}(he:PE X o ta)(c:EC X.K C)(hm:Meth X.K C av f)(F:eI X.prog X.w X.K X.mg X.base CX k f fd ps sp)(hr:di k X.A)(hb:Binds X.K fd ps aq)(hd:Vals ar aq)(hx:Passes CX X E)(ha:PA X (e::es) t)
  (cG:starEach (e::es) X.env=(false,eval e X.env)::starEach es X.env:=by rfl) (oO:(backTo pos (starEach es X.env)).any (·.1)=false:=by rfl)
  (ht:eval (.Call (.Attribute o av b8) (e::es) [] pos) X.env=t7 pos b8 o av (e::es) X.env pl:=by rfl):
  PE X (.Call (.Attribute o av b8) (e::es) [] pos) (P7 C av sp ar E ta t):=by
 intro U s Z H Q I h;refine PySem.W.methodCall_KW (pl:=pl) (eK (he U s Z H _ I h) λu s1 ⟨x,H1,b,n,a,dx,fs,ex,L,l,q⟩=>?_) ht;subst ex;obtain rfl:u=Value.ref a:=n;refine xJ b L c hm l ?_
 refine xa (first:=[.ref a]) (h₀:=X.base) I.ok.mod.PV hm.kp (eK (ha pos U s1 Z H1 _ b q) λus s2 ⟨vs,H2,g,r,M⟩=>⟨g.l9,?_⟩) cG oO;exact EH (us:=.ref a::us) (vs:=.ref a::vs) F hr hb hd hx g (.cons rfl r) M
theorem Cz{pl:Sem Bool}(he:PE X o ta)(c:EC X.K C)(hm:Meth X.K C av f)(F:eI X.prog X.w X.K X.mg X.base CX k f fd ps sp)(hr:di k X.A)(hb:Binds X.K fd ps aq)(hd:Vals ar aq)(hx:Passes CX X E)
  (ht:eval (.Call (.Attribute o av b8) [] [] pos) X.env=t7 pos b8 o av [] X.env pl:=by rfl):
  PE X (.Call (.Attribute o av b8) [] [] pos) (P7 C av sp ar E ta RB):=by
 intro U s Z H Q I h;refine PySem.W.methodCall_KW (pl:=pl) (eK (he U s Z H _ I h) λu s1 ⟨x,H1,b,g,a,dx,fs,ex,n,l,q⟩=>?_) ht;subst ex;obtain rfl:u=Value.ref a:=g;refine xJ b n c hm l ?_
 exact PySem.W.callWith_K0 (first:=[.ref a]) b.l9 hm.kp (EH (us:=[.ref a]) (vs:=[.ref a]) F hr hb hd hx b (.cons rfl .nil) q)
structure Mk(K:Frag)(C f:Addr):Prop where
 makes:PySem.W.makesIn K C=true
 init:PySem.W.findIn K (.ref C) "__init__"=some (some (.ref f))
 fn:PySem.W.isFn K (.ref f)=true
 kp:PySem.W.keepIn K (.ref C)=true
def CA{Q:VK}{us:List Value}{vs:List V}(M:Mk X.K C f)(F:eI X.prog X.w X.K X.mg X.base CX k f fd ps sp)(q:di (k+1) X.A)(hb:Binds X.K fd ps aq)(hd:Vals ar aq)
  (hx:Passes CX X E) (I:Inv X U Z H s) (r:Vals vs us)
  (h:∀x dx,H x=none->H dx=none->dx≠x->sp (.ref x::(vs++ar)) (upd (upd H dx (.own x)) x (.ins C dx [])) (λv H2=>v=.cA/\Q (.ref x) H2) E):
  wpAny (model X.prog X.w) X.A (call (.ref C) us) (EP X U Z Q) X.xe s:=by
 have l:=h (s.heap.objs.size+1) s.heap.objs.size (I.cY.fresh (pH _)) (I.cY.fresh (bz _)) (cc (pd _));have b:=Inv.made (C:=C) I;have n:Vals (V.ref (s.heap.objs.size+1)::(vs++ar)) (Value.ref (s.heap.objs.size+1)::(us++aq)):=.cons rfl (r.append hd);have L:(Value.ref (s.heap.objs.size+1)::us++aq).length=ps.length:=by
  have e:=n.length;rw[F.len _ _ _ _ l]at e;exact e.symm
 refine pJ (J4 (f:=f) I.l9 M.makes M.init (fg.mp M.fn) (iH (F.run _ X.stack _ _ ⟨Value.ref (s.heap.objs.size+1)::us,[]⟩ (Value.ref (s.heap.objs.size+1)::(us++aq)) _ _ E (q.make C us [])
  (b.RD.make C us []) (hb _ (Value.ref (s.heap.objs.size+1)::us) b.l9 L) n l) λr s' g=>?_))
 cases r with
 |error e=>exact hx U Z _ _ e s' b g
 |ok fl=>
  cases fl with
  |ret u=>
   obtain⟨v,H',S,rv,ev,q3⟩:=b.after g;subst ev;exact⟨rv,⟨V.ref (s.heap.objs.size+1),H',S,rfl,q3⟩⟩
  |_=>exact False.elim g
theorem Nu(M:Mk X.K C f)(F:eI X.prog X.w X.K X.mg X.base CX k f fd ps sp)(hr:di (k+1) X.A)(hg:Gl X x)(hm:X.mg x=some (.ref C))(hb:Binds X.K fd ps aq)(hd:Vals ar aq)(hx:Passes CX X E)
  (ha:PA X (e::es) t) (fM:Db x:=by decide) (he:starEach (e::es) X.env=(false,eval e X.env)::starEach es X.env:=by rfl) (oO:(backTo pos (starEach es X.env)).any (·.1)=false:=by rfl):
  PE X (.Call (.Name x p) (e::es) [] pos) (P8 C sp ar E t):=by
 intro U s Z H Q I h;refine mE (qO I hg hm ?_ fM);refine xa (h₀:=X.base) I.ok.mod.PV M.kp (eK (ha pos U s Z H _ I h) λus s1 ⟨vs,H1,b,r,q⟩=>⟨b.l9,?_⟩) he oO;exact CA M F hr hb hd hx b r q
theorem J8(M:Mk X.K C f)(F:eI X.prog X.w X.K X.mg X.base CX k f fd ps sp)(q:di (k+1) X.A)(hg:Gl X x)(hm:X.mg x=some (.ref C))(hb:Binds X.K fd ps aq)(hd:Vals ar aq)(hx:Passes CX X E)
  (fM:Db x:=by decide):PE X (.Call (.Name x p) [] [] pos) (P8 C sp ar E RB):=by
 intro U s Z H Q I h;refine mE (qO I hg hm ?_ fM);exact PySem.W.callWith_K0 I.l9 M.kp (CA (us:=[]) M F q hb hd hx I .nil h)
end
structure hW(N P:List Str)(sc:Scope):Prop where
 kind:sc.kind=.function
 co:sc.isCoroutine=false
 gen:sc.isGenerator=false
 nd:N.Nodup
 pre:N.take P.length=P
 par:∀x∈P,sc.names.lookup x=some .local\/sc.names.lookup x=some .cell
 RE:∀y∈sc.names,y.2≠ .free
theorem zK{kindOf:Str->Option NameKind}:∀{binds:List (Str×Value)} {m:Str->Option Value},(∀v,(x,v)∉binds)->bindL kindOf binds m x=m x
 |[],_,_=>rfl
 |(n,v)::r,m,h=>by
  unfold bindL;rw[zK λw hw=>h w (cu _ hw)];split
  ·have:x≠n:=by rintro rfl;exact h v cD
   simp[this]
  ·rfl
theorem zL{kindOf:Str->Option NameKind}:∀{binds:List (Str×Value)} {m:Str->Option Value},(∀v,(x,v)∉binds)->bindC kindOf binds m x=m x
 |[],_,_=>rfl
 |(n,v)::r,m,h=>by
  unfold bindC;rw[zL λw hw=>h w (cu _ hw)];split
  ·rfl
  ·have:x≠n:=by rintro rfl;exact h v cD
   simp[this]
theorem zM{kindOf:Str->Option NameKind}{v:Value}:∀{P:List Str} {vs:List Value} {i:Nat} {m:Str->Option Value},P.Nodup->P[i]?=some x->vs[i]?=some v->kindOf x=some .local->
  bindL kindOf (P.zip vs) m x=some v
 |[],_,_,_,_,h,_,_=>by simp at h
 |_::_,[],_,_,_,_,h,_=>by simp at h
 |p::P,w::vs,0,m,nd,h1,h2,b=>by
  simp at h1 h2;subst h1;subst h2;show bindL kindOf ((p,w)::P.zip vs) m p=_;unfold bindL;rw[zK λv g=>(hJ.mp nd).1 (tH g).1,aW b];simp
 |p::P,w::vs,i+1,m,nd,h1,h2,b=>by
  show bindL kindOf ((p,w)::P.zip vs) m x=_;unfold bindL;exact zM (i:=i) (hJ.mp nd).2 (by simpa using h1) (by simpa using h2) b
theorem zN{kindOf:Str->Option NameKind}{v:Value}:∀{P:List Str} {vs:List Value} {i:Nat} {m:Str->Option Value},P.Nodup->P[i]?=some x->vs[i]?=some v->kindOf x≠some .local->
  bindC kindOf (P.zip vs) m x=some v
 |[],_,_,_,_,h,_,_=>by simp at h
 |_::_,[],_,_,_,_,h,_=>by simp at h
 |p::P,w::vs,0,m,nd,h1,h2,b=>by
  simp at h1 h2;subst h1;subst h2;show bindC kindOf ((p,w)::P.zip vs) m p=_;unfold bindC;rw[zL λv g=>(hJ.mp nd).1 (tH g).1,bc b];simp
 |p::P,w::vs,i+1,m,nd,h1,h2,b=>by
  show bindC kindOf ((p,w)::P.zip vs) m x=_;unfold bindC;exact zN (i:=i) (hJ.mp nd).2 (by simpa using h1) (by simpa using h2) b
noncomputable def start(N:List Str)(vs:List V):St:=vs.map some++List.replicate (N.length - vs.length) none
noncomputable def oP(CX:Cy)(P:Program)(w:World)(K:Frag)(mg:Str->Option Value)(base:Heap)(N:List Str)(qual:Str)(scope:Scope)(f:Addr)(cd:Value)(A:Around)(outer:List Env)(s:Shared)(H:Hp)(E:XK):Cx where
 prog:=P
 w:=w
 K:=K
 mg:=mg
 base:=base
 A:=A.deeper (envOfC qual scope s.heap.objs.size f cd)
 N:=N
 gA:=s
 Ct:=H
 env:=envOfC qual scope s.heap.objs.size f cd
 outer:=outer
 stack:=envOfC qual scope s.heap.objs.size f cd::outer
 ex:=[]
 calm:=true
 fn:=λ_=>true
 pn:=[]
 xe:=λe s'=>wpAny (model P w) (A.deeper (envOfC qual scope s.heap.objs.size f cd)) (leaving (envOfC qual scope s.heap.objs.size f cd) e) (λ_ b=>CX outer H s E e b) (λg b=>CX outer H s E g b) s'
def CB{n:Nat}(h:ax.names.lookup x=some .cell):∃c,(cellsFrom n ax.names []).lookup x=some c:=by
 have q:=PySem.W.cellsFrom_some ax.names n [] (.inl h);exact sP.mp q
theorem HW{CX:Cy}{N:List Str}{outer:List Env}{s1:Shared}{E:XK}
  (S:hW N ps ax) (hd:A.handled=none) (e0:zl P w K mg aa A outer s H) (hl:ar.length=ps.length) (r:Vals ar aq)
  (x:InCallC s s.heap.objs.size (bindL (envOfC av ax s.heap.objs.size au af).kindOf (ps.zip aq) λ_=>none) (cellsFrom (s.heap.objs.size+1) ax.names []) (bindC (envOfC av ax s.heap.objs.size au af).kindOf (ps.zip aq) λ_=>none) s1):
  Inv (oP CX P w K mg aa N av ax au af A outer s H E) [] (start N ar) H s1:=by
 have oO:ps.length<=N.length:=by have:=cX List.length S.pre;rw[List.length_take]at this;omega
 obtain⟨I,tk,rfl,M⟩:=x.done;have L:∀b:Addr,b∉(oP CX P w K mg aa N av ax au af A outer s H E).ex:=λb z=>absurd (show b∈([]:List Addr)from z) (by simp);refine⟨⟨e0.mod,S.kind,rfl,rfl,bz _,λy z c I h2=>?_,λy g=>?_,λy c _ h=>?_,λ_=>hd,Around.frames_deeper e0.frames,.inr ⟨rfl,rfl⟩,λb z=>absurd z (L b),e0.bs,e0.HL,λb _ _=>L b,λb z=>absurd z (L b),e0.rB,e0.JI⟩,
  rfl,e0.bare,Un.kept M,⟨_,x.toInCall.ns,λi y v I h2 h3=>?_⟩,λy c h=>⟨_,x.cell y c h⟩,e0.cY.fresh (bz _),λy c h=>?_,λp hp=>absurd (show p∈([]:List (Addr×Obj))from hp) (by simp),e0.cY.kept M,?_⟩
 ·exact name_of_addr x.apart (lN I) (lN h2)
 ·have g:ax.names.lookup y=some .cell\/ax.names.lookup y=some .free:=g;rcases g with g|g
  ·exact CB g
  ·exact absurd rfl (S.RE _ (lN g))
 ·exact dC (x.above y c (lN h))
 ·have hi:i<ar.length:=by
   unfold start at h2;by_cases hi:i<ar.length
   ·exact hi
   ·rw[wU (by simpa using hi)]at h2;rw[sR]at h2;split at h2<;>cases h2
  have ha:ar[i]?=some v:=by
   unfold start at h2;rw[oV (by simpa using hi),ck]at h2;cases e:ar[i]? with
   |none=>rw[e]at h2;cases h2
   |some a=>rw[e]at h2;cases h2;rfl
  obtain⟨u,hu,rv⟩:=r.get ha;have hp:ps[i]?=some y:=by
   rw[<-S.pre,List.getElem?_take_of_lt (by omega)];exact I
  have l:ps.Nodup:=by rw[<-S.pre];exact S.nd.sublist (List.take_sublist _ _)
  refine⟨u,rv,?_⟩;rcases S.par y (d7 hp)with k|k
  ·exact .inl ⟨k,zM l hp hu k⟩
  ·obtain⟨c,e⟩:=CB (n:=s.heap.objs.size+1) k;refine .inr ⟨.inl k,c,e,?_⟩;have q:=x.cell y c e;rw[zN l hp hu (by show ax.names.lookup y≠_;rw[k];decide)]at q;exact q
 ·exact e0.cY.fresh (dC (x.above y c (lN h)))
 ·unfold start;show _=N.length;rw[eR,bu,w8];omega
theorem P9{CX:Cy}{qual:Str}{params:Arguments}{kV doc pm f_ ct oc:Value}{an od:Option Addr}
  {J9:Array (Option Value)} {N:List Str} {sp:Sp} (lk:K.lookup a=some ⟨oc,od,.func (PySem.W.fnOf av qual params ah ax af kV doc pm an f_ ct),J9⟩) (Es:PySem.W.codeIn K f_ qual=true) (S:hW N ps ax)
  (len:∀vs H Q E,sp vs H Q E->vs.length=ps.length)
  (kW:∀(A:Around) (outer:List Env) (s:Shared) (H:Hp) (vs:List V) (Q:VK) (E:XK),di i (A.deeper (envOfC qual ax s.heap.objs.size a f_))->sp vs H Q E->
   ∃t,oU (oP CX P w K mg aa N qual ax a f_ A outer s H E) ah t/\t {nx:=λ_ H'=>Q .cA H',rt:=Q} (start N vs) H):
  eI P w K mg aa CX (i+1) a (PySem.W.fnOf av qual params ah ax af kV doc pm an f_ ct) ps sp:=by
 refine⟨len,λA outer s H args us vs Q E l g hb r L=>?_⟩;have hl:=len _ _ _ _ L;have M:K.In s.heap:=g.mod.PV.keeps λb o e=>(g.bs b o e).1;have lim:s.heap.NoLimit:=g.mod.nolimit.keeps λb o e=>(g.bs b o e).1;have VZ:∀y∈ps.zip us,ax.names.lookup y.1=some .local\/(ax.names.lookup y.1=some .cell/\((cellsFrom (s.heap.objs.size+1) ax.names []).lookup y.1).isSome=true):=λ⟨n,v⟩ hy=>by
  rcases S.par n (tH hy).1 with q|q
  ·exact .inl q
  ·exact .inr ⟨q,PySem.W.cellsFrom_some _ _ _ (.inl q)⟩
 refine codeAny_call_function l.depth (M _ _ lk) rfl S.co S.gen rfl (PySem.W.codeRec_of M Es) (hb _ _ _ _ ?_);refine wpAny_newFunctionEnv_cells S.kind VZ λenv he s1 x=>?_
 subst he;refine⟨lim.keeps x.toInCall.keep,codeAny_func ?_⟩;obtain⟨t,ht,hq⟩:=kW A outer s H vs Q E (l.deeper _) L;have I:Inv (oP CX P w K mg aa N qual ax a f_ A outer s H E) [] (start N vs) H s1:=HW S l.hd g hl r x;refine d_ (ht [] s1 (start N vs) H _ I hq) (λfl s' hs=>?_) λe s' hs=>hs;have fin:∀{dF:St} {H':Hp} {v:V} {u:Value},Inv (oP CX P w K mg aa N qual ax a f_ A outer s H E) [] dF H' s'->RelV v u->Q v H'->CE outer P w H s Q u s':=
  λ{dF H' v u} J rv q=>⟨v,H',J.os,J.bare,J.base,J.cY,rv,q⟩
 cases fl with
 |ret u=>
  obtain⟨v,dF,H',J,rv,q⟩:=hs;exact fin J rv q
 |next=>
  obtain⟨dF,H',J,q⟩:=hs;exact fin (v:=V.cA) (u:=Value.none) J rfl q
 |brk=>
  obtain⟨_,_,_,q⟩:=hs;exact False.elim q
 |cont=>
  obtain⟨_,_,_,q⟩:=hs;exact False.elim q
section
variable {t:TA}{T:String}{r:List V->Hp->VK->Prop}
def tCB(r:List V->Hp->VK->Prop)(t:TA):TE:=λZ H Q=>t Z H λvs H1=>r vs H1 Q
theorem pM(q:gL X (.builtin ay) r)(hg:Gl X x)(hm:X.mg x=none)(hv:bootBuiltins x=some (.builtin ay))(ha:PA X (e::es) t)(hn:x≠"__name__":=by decide) (fM:Db x:=by decide)
  (he:starEach (e::es) X.env=(false,eval e X.env)::starEach es X.env:=by rfl) (oO:(backTo pos (starEach es X.env)).any (·.1)=false:=by rfl):PE X (.Call (.Name x p) (e::es) [] pos) (tCB r t):=by
 intro U s Z H Q I h;refine mE (u5 I hg hm hv ?_ hn fM);exact PyProof.Rows.callWith_builtin1 (eK (ha pos U s Z H _ I h) λus s1 ⟨vs,H1,b,r1,g⟩=>q U s1 Z H1 vs us Q b r1 g) he oO
theorem u_(q:gL X (.type T) r)(hg:Gl X x)(hm:X.mg x=none)(hv:bootBuiltins x=some (.type T))(ha:PA X (e::es) t)(hn:x≠"__name__":=by decide) (fM:Db x:=by decide)
  (he:starEach (e::es) X.env=(false,eval e X.env)::starEach es X.env:=by rfl) (oO:(backTo pos (starEach es X.env)).any (·.1)=false:=by rfl):PE X (.Call (.Name x p) (e::es) [] pos) (tCB r t):=by
 intro U s Z H Q I h;refine mE (u5 I hg hm hv ?_ hn fM);exact wR (eK (ha pos U s Z H _ I h) λus s1 ⟨vs,H1,b,r1,g⟩=>q U s1 Z H1 vs us Q b r1 g) he oO
end
abbrev TO:=St->Hp->(Option Int->Hp->Prop)->Prop
def PO(X:Cx)(e:Option Expr)(t:TO):Prop:=
 ∀(U:List (Addr×Obj)) (s:Shared) (Z:St) (H:Hp) (Q:Option Int->Hp->Prop),Inv X U Z H s->t Z H Q->
  wpAny (model X.prog X.w) X.A (evalPart e X.env) (λu s'=>∃o H',Inv X U Z H' s'/\IsPart u o/\Q o H') X.xe s
def Nv:TO:=λ_ H Q=>Q none H
def V0(t:TE):TO:=λZ H Q=>t Z H λx H1=>∃i,x=.int i/\Q (some i) H1
section
variable {te:TE}{lo hi:Option Expr}{tl th:TO}{p2:Pos}
theorem Nw:PO X none Nv:=by
 intro U s Z H Q I h;rw[evalPart_none];exact bf ⟨none,H,I,.none,h⟩
theorem Nx(h:PE X e te):PO X (some e) (V0 te):=by
 intro U s Z H Q I hw;rw[evalPart_some];refine eK (h U s Z H _ I hw) λu s1 ⟨x,H1,b,r1,g⟩=>?_
 obtain⟨i,rfl,q⟩:=g;obtain⟨t,rfl⟩:=r1;exact⟨some i,H1,b,.int i t,q⟩
def U4(X:Cx)(r:V->Option Int->Option Int->Hp->VK->Prop):Prop:=
 ∀(U:List (Addr×Obj)) (s:Shared) (Z:St) (H:Hp) (x:V) (v b g:Value) (lo hi:Option Int) (sl:Addr) (Q:VK),Inv X U Z H s->RelV x v->s.heap.IsSliceOf sl b g .none->IsPart b lo->IsPart g hi->r x lo hi H Q->
  ∃T id,typeLookup (.type T) "__getitem__"=pure (some (.builtin id))/\s.TypeIs v T/\wpAny (model X.prog X.w) X.A (getItem v (.ref sl)) (EP X U Z Q) X.xe s
def tSl(r:V->Option Int->Option Int->Hp->VK->Prop)(te:TE)(tl th:TO):TE:=λZ H Q=>te Z H λx H1=>tl Z H1 λl H2=>th Z H2 λu b=>r x l u b Q
theorem J'{r:V->Option Int->Option Int->Hp->VK->Prop}(hr:U4 X r)(he:PE X e te)(hl:PO X lo tl)(hu:PO X hi th):PE X (.Subscript e (.Slice lo hi none p2) pos) (tSl r te tl th):=by
 intro U s Z H Q I h;refine Subscript_ (eK (he U s Z H _ I h) λv s1 ⟨x,H1,M,r1,S⟩=>?_);refine wpAny_Slice (eK (hl U s1 Z H1 _ M S) λg s2 ⟨l,H2,I2,pl,q2⟩=>eK (hu U s2 Z H2 _ I2 q2) λn s3 ⟨u,L,I3,pu,q3⟩=>?_);rw[evalPart_none];refine bf ?_
 have I4:Inv X U Z L {s3 with heap:=s3.heap.push {cls:=.type "slice",data:=.fields #[g,n,.none]}}:=I3.kept (t':=s3.toks) λb ob q=>bR _ q;obtain⟨T,id,hT,ht,hg⟩:=hr U {s3 with heap:=s3.heap.push {cls:=.type "slice",data:=.fields #[g,n,.none]}} Z L x v g n l u s3.heap.objs.size Q I4 r1 (Heap.IsSliceOf.new ..) pl pu q3;show wpAny (model X.prog X.w) X.A (subscriptTail e (.Slice lo hi none p2) v (.ref s3.heap.objs.size)) (EP X U Z Q) X.xe {s3 with heap:=s3.heap.push {cls:=.type "slice",data:=.fields #[g,n,.none]}};exact tail_any (ops:=[.ref s3.heap.objs.size,v]) ht hT hg (by with_unfolding_all rfl)
def CC(xs:List V)(lo hi:Option Int):List V:=(xs.drop (HT.iA xs.length 0 lo)).take (HT.iA xs.length xs.length hi - HT.iA xs.length 0 lo)
def vD(xs:List V)(lo hi:Option Int):(CC xs lo hi).length<=xs.length:=by
 unfold CC;rw[List.length_take,List.length_drop];omega
def aax(K:Frag):V->Option Int->Option Int->Hp->VK->Prop:=λx lo hi H Q=>∃a xs,x=.ref a/\js K H a xs/\
 ¬(HT.iA xs.length 0 lo=0/\HT.iA xs.length xs.length hi=xs.length)/\∀p,H p=none->Q (.ref p) (upd H p (.tup (CC xs lo hi)))
theorem RG:U4 X (aax X.K):=by
 intro U s Z H x v M S lo hi sl Q I n hs pl pu h;obtain⟨a,xs,rfl,L,hw,q⟩:=h;cases n;obtain⟨cy,r,l,hz⟩:=I.tuple L;have g:cy.toArray.size=xs.length:=by rw[cW];exact r.length.symm
 refine⟨"tuple",_,wV.lookup,l.typeIs,?_⟩;refine HT.tY l hs pl pu (by rw[g];exact hw) ?_ (by rw[g];exact hz)
 rw[g];refine⟨.ref s.heap.objs.size,_,I.laid (t':=s.toks) (o:=.tup (CC xs lo hi)) (λb ob q=>bR _ q) (bz _) ?_,rfl,q _ (I.cY.fresh (bz _))⟩;exact⟨cF (vD xs lo hi) hz,_,(r.drop (HT.iA xs.length 0 lo)).take (HT.iA xs.length xs.length hi - HT.iA xs.length 0 lo),IsTup.new _ _⟩
def V1(K:Frag):R2:=λx y H Q=>∃a b xs ys,x=.ref a/\y=.ref b/\js K H a xs/\js K H b ys/\xs≠[]/\xs.length+ys.length<=sizeLine/\
 (ys=[]->Q (.ref a) H)/\(ys≠[]->∀p,H p=none->Q (.ref p) (upd H p (.tup (xs++ys))))
def Vals.AW {xs:List V}{us:List Value}(r:Vals xs us):us=[]↔xs=[]:=by
 cases r with
 |_=>simp
theorem Ny:u6 X (binaryOp .Add) (V1 X.K):=by
 intro U s Z H x y v u Q I g l h;obtain⟨a,b,xs,ys,rfl,rfl,ha,hb,n,hz,r,L⟩:=h;cases g;cases l;obtain⟨cy,r1,p1,_⟩:=I.tuple ha;obtain⟨M,r2,p2,_⟩:=I.tuple hb;refine HT.M_ p1 p2 (λz=>n (r1.AW.mp z)) (λz=>⟨.ref a,H,I,rfl,r (r2.AW.mp z)⟩) (λz=>?_) (by rw[<-r1.length,<-r2.length];exact hz);refine⟨.ref s.heap.objs.size,_,I.laid (t':=s.toks) (o:=.tup (xs++ys)) (λb S q=>bR _ q) (bz _) ?_,rfl,L (λw=>z (r2.AW.mpr w)) _ (I.cY.fresh (bz _))⟩;exact⟨by rw[eR];exact hz,_,r1.append r2,IsTup.new _ _⟩
end
noncomputable def M3(n:Nat)(i:Int):Option Nat:=if 0<=i then(if i<n then some i.toNat else none)else if-(n:Int)<=i then some (i+n).toNat else none
def vc{α:Type}(xs:List α)(i:Int):Option α:=(M3 xs.length i).bind λj=>xs[j]?
theorem Nz{n:Nat}{i:Int}{j:Nat}(h:M3 n i=some j):seqIndex? i n=some j/\j<n/\-(n:Int)<=i/\i<n:=by
 unfold M3 at h;by_cases h0:0<=i
 ·rw[aW h0]at h;by_cases h1:i<n
  ·rw[aW h1]at h;have e:i.toNat=j:=Option.some.inj h;exact⟨by rw[seqIndex_of h0 h1,e],by omega,by omega,h1⟩
  ·rw[bc h1]at h;cases h
 ·rw[bc h0]at h;by_cases h1:-(n:Int)<=i
  ·rw[aW h1]at h;have e:(i+n).toNat=j:=Option.some.inj h;exact⟨by rw[seqIndex_neg (by omega) h1,e],by omega,h1,by omega⟩
  ·rw[bc h1]at h;cases h
def AX{xs:List ag}{i:Int}{v:ag}(h:vc xs i=some v):∃j,seqIndex? i xs.length=some j/\xs[j]?=some v/\j<xs.length/\-(xs.length:Int)<=i/\i<xs.length:=by
 unfold vc at h;cases e:M3 xs.length i with
 |none=>rw[e]at h;cases h
 |some j=>
  rw[e]at h;obtain⟨h1,h2,b,g⟩:=Nz e;exact⟨j,h1,h,h2,b,g⟩
def AY{xs:List ag}{j:Nat}{v:ag}(h:xs[j]?=some v):vc xs (j:Int)=some v:=by
 have b:j<xs.length:=(gu.mp h).1;have e:M3 xs.length (j:Int)=some j:=by
  unfold M3;rw[aW (by omega),aW (by omega)];simp
 unfold vc;rw[e];exact h
def ue(b:Expr):Prop:=∀o i,subscripted b false o i=operate [o,i] (getItem o i)
def V2(X:Cx)(r:R2):Prop:=
 ∀(value slice:Expr) (U:List (Addr×Obj)) (s:Shared) (Z:St) (H:Hp) (x y:V) (v u:Value) (Q:VK),Inv X U Z H s->RelV x v->RelV y u->r x y H Q->
  subscripted slice false v u=operate [v,u] (getItem v u)->wpAny (model X.prog X.w) X.A (subscriptTail value slice v u) (EP X U Z Q) X.xe s
def RH(X:Cx)(id:String)(r:V->List V->Hp->VK->Prop):Prop:=
 ∀(U:List (Addr×Obj)) (s:Shared) (Z:St) (H:Hp) (x:V) (xs:List V) (v:Value) (us:List Value) (Q:VK),Inv X U Z H s->RelV x v->Vals xs us->r x xs H Q->
  wpAny (model X.prog X.w) X.A (call (.builtin id) (v::us)) (EP X U Z Q) X.xe s
section
variable {ta tb:TE}
theorem P_{r:R2}(hr:V2 X r)(ha:PE X tg ta)(hb:PE X am tb)(hs:ue am):PE X (.Subscript tg am pos) (Ro r ta tb):=by
 intro U s Z H Q I h;exact Subscript_ (Rq ha hb I h λv u s2 x y H2 b g l q=>hr tg am U s2 Z H2 x y v u Q b g l q (hs _ _))
def aay(K:Frag):R2:=λx y H Q=>∃p xs i v,x=.ref p/\y=.int i/\lR K H p xs/\vc xs i=some v/\Q v H
def aaz(K:Frag):R2:=λx y H Q=>∃p xs i v,x=.ref p/\y=.int i/\js K H p xs/\vc xs i=some v/\Q v H
def aaA:R2:=λx y H Q=>∃z i c,x=.str z/\y=.int i/\z.length<=sizeLine/\vc z.cps.toList i=some c/\Q (.str ⟨#[c]⟩) H
theorem Gb:V2 X (aay X.K):=by
 intro value slice U s Z H x y v u Q I l n h hs;obtain⟨p,xs,i,z,rfl,rfl,L,he,q⟩:=h;cases l;obtain⟨t,rfl⟩:=n;obtain⟨cy,r,pl,hz⟩:=I.list L;obtain⟨j,h1,h2,h3,M,S⟩:=AX he;obtain⟨w,g,pN⟩:=r.get h2;have hl:=r.length;have hn:=xI;have fin:EP X U Z Q w s:=⟨z,H,I,pN,q⟩;by_cases h0:0<=i
 ·have b:i.toNat=j:=by
   rw[seqIndex_of h0 S]at h1;exact Option.some.inj h1
  exact item_listR pl.isList h0 (by omega) (by rw[b];simpa using g) fin hs
 ·have b:(i+(cy.toArray.size:Int)).toNat=j:=by
   rw[seqIndex_neg (by omega) M]at h1;rw[cW,<-hl];exact Option.some.inj h1
  exact subscriptTail_builtinR (x:=w) pl.isList.typeIs slot_list_getitem.lookup
   (wpAny_getItem_list_neg (Q:=λr s'=>r=w/\EP X U Z Q r s') pl.isList (by omega) (by rw[cW]<;>omega) (by omega) (by rw[b];simpa using g) ⟨rfl,fin⟩) hs
theorem RI:V2 X (aaz X.K):=by
 intro value slice U s Z H x y v u Q I b g h hs;obtain⟨p,xs,i,z,rfl,rfl,l,he,q⟩:=h;cases b;obtain⟨t,rfl⟩:=g;obtain⟨cy,r,pl,hz⟩:=I.tuple l;obtain⟨j,h1,h2,S,h4,h5⟩:=AX he;obtain⟨w,n,L⟩:=r.get h2;have M:=r.length;have hn:=xI;have fin:EP X U Z Q w s:=⟨z,H,I,L,q⟩;exact subscriptTail_builtinR (x:=w) pl.typeIs wV.lookup
  (getItem_tuple (j:=j) (Q:=λr s'=>r=w/\EP X U Z Q r s') pl (by omega) (by omega) (by rw[cW,<-M];exact h1) (by simpa using n) ⟨rfl,fin⟩) hs
theorem RJ:V2 X aaA:=by
 intro value slice U s Z H x y v u Q I b g h hs;obtain⟨z,i,c,rfl,rfl,hz,he,q⟩:=h;obtain⟨t,rfl⟩:=b;obtain⟨t',rfl⟩:=g;obtain⟨j,h1,h2,S,l,n⟩:=AX he;have r:z.cps.toList.length=z.length:=by simp[Str.length]
 rw[r]at h1 l n;have hn:=xI;exact tail_any (typeIs_str s z t) slot_str_getitem.lookup (getItem_str (c:=c) (by
  have L:decide (i< -(2 ^63:Int))=false:=fF (by omega);have M:decide (i>=2 ^63)=false:=fF (by omega);rw[L,M,mK]) (by rw[h1];simpa using h2) ⟨.str ⟨#[c]⟩,H,I.tok _,⟨_,rfl⟩,q⟩) hs
def P'(v:Int)(n d:Nat):max 0 (min (if v<0 then v+n else v) (n:Int))=((HT.iA n d (some v):Nat):Int):=by
 rw[<-HT.AK];by_cases b:v<0
 ·rw[aW b,aW b];omega
 ·rw[bc b,bc b];omega
def AZ(lo hi:Option Int)(n:Nat):(sliceBounds lo hi none n).1=((HT.iA n 0 lo:Nat):Int)/\(sliceBounds lo hi none n).2.1=((HT.iA n n hi:Nat):Int)/\(sliceBounds lo hi none n).2.2=1:=by
 refine⟨?_,?_,rfl⟩
 ·cases lo with
  |none=>rfl
  |some i=>exact(P' i n 0)
 ·cases hi with
  |none=>rfl
  |some i=>exact(P' i n n)
def zm(cy:List Value)(lo hi:Option Int):slicePick cy.toArray lo hi none=((cy.drop (HT.iA cy.length 0 lo)).take (HT.iA cy.length cy.length hi - HT.iA cy.length 0 lo)).toArray:=by
 obtain⟨b,h2,g⟩:=AZ lo hi cy.toArray.size;unfold slicePick;rw[b,h2,g];simp only[sliceRange_one,pick_run,cW]<;>rfl
def aaB(K:Frag):V->Option Int->Option Int->Hp->VK->Prop:=λx lo hi H Q=>∃tg xs,x=.ref tg/\lR K H tg xs/\∀p,H p=none->Q (.ref p) (upd H p (.lst (CC xs lo hi)))
theorem NA:U4 X (aaB X.K):=by
 intro U s Z H x v L M lo hi sl Q I g hs pl pu h;obtain⟨tg,xs,rfl,l,q⟩:=h;cases g;obtain⟨cy,r,b,hz⟩:=I.list l;have n:=r.length;refine⟨"list",_,slot_list_getitem.lookup,b.isList.typeIs,?_⟩;refine wpAny_getItem_list_slice b.isList hs pl pu .none (by simp) ?_ (by rw[cW]<;>omega)
 rw[zm,<-n];refine⟨.ref s.heap.objs.size,_,I.laid (t':=s.toks) (o:=.lst (CC xs lo hi)) (λam S q=>bR _ q) (bz _) ?_,rfl,q _ (I.cY.fresh (bz _))⟩;exact⟨cF (vD xs lo hi) hz,_,0,(r.drop (HT.iA xs.length 0 lo)).take (HT.iA xs.length xs.length hi - HT.iA xs.length 0 lo),cz _ rfl⟩
def Qa:V->Bool
 |.cA=>true
 |.bl _=>true
 |.int _=>true
 |.str _=>true
 |_=>false
theorem uf:gL X (.type "list") (λxs H Q=>∃p ys,xs=[.ref p]/\(lR X.K H p ys\/js X.K H p ys)/\∀l,H l=none->Q (.ref l) (upd H l (.lst ys))):=by
 intro U s Z H xs us Q I r h;obtain⟨p,ys,rfl,L,q⟩:=h;obtain⟨u,rfl,rx⟩:=vals1 r;cases rx;have fin:∀(cy:List Value),Vals ys cy->ys.length<=sizeLine->∀(h':Heap) (b:Nat),(∀am o',s.heap.get? am=some o'->h'.get? am=some o')->
   h'.get? s.heap.objs.size=some {cls:=.type "list",dict:=none,data:=.seq cy.toArray b,slots:=#[]}->EP X U Z Q (.ref s.heap.objs.size) {s with heap:=h'}:=λcy g hz h' b kp e=>
  ⟨.ref s.heap.objs.size,_,I.laid (t':=s.toks) kp (bz _) (show cZ X.prog X.w _ h' _ (.lst ys)from⟨hz,cy,b,g,e⟩),rfl,q _ (I.cY.fresh (bz _))⟩
 rcases L with L|L
 ·obtain⟨cy,g,pl,hz⟩:=I.list L;have b9:=g.length;obtain⟨o,M,S,n,hd⟩:=pl.isList;exact call_list_seq p (.inl rfl) M S hd (λh' b kp e=>fin cy g hz h' b kp e) (by simp only[cW]<;>omega)
 ·obtain⟨cy,g,pl,hz⟩:=I.tuple L;have b9:=g.length;obtain⟨o,M,S,n,hd⟩:=pl;exact call_list_seq p (.inr rfl) M S hd (λh' b kp e=>fin cy g hz h' b kp e) (by simp only[cW]<;>omega)
theorem rH:gL X (.type "tuple") (λxs H Q=>∃p ys,xs=[.ref p]/\((lR X.K H p ys/\∀l,H l=none->Q (.ref l) (upd H l (.tup ys)))\/(js X.K H p ys/\Q (.ref p) H))):=by
 intro U s Z H xs us Q I r h;obtain⟨p,ys,rfl,h⟩:=h;obtain⟨u,rfl,L⟩:=vals1 r;cases L;rcases h with⟨b,q⟩|⟨b,q⟩
 ·obtain⟨cy,g,pl,hz⟩:=I.list b;have S:=g.length;refine call_tuple_list pl.isList (λh' kp=>?_) (by simp only[cW]<;>omega);have n:Inv X U Z H {s with heap:=h'}:=I.kept (t':=s.toks) kp;have M:Inv X U Z (upd H h'.objs.size (.tup ys)) {s with heap:=h'.push {cls:=.type "tuple",data:=.seq cy.toArray}}:=
   n.laid (t':=s.toks) (λam o e=>bR _ e) (bz _) (show cZ X.prog X.w _ _ _ (.tup ys)from⟨hz,cy,g,IsTup.new _ _⟩)
  exact⟨.ref h'.objs.size,_,M,rfl,q _ (n.cY.fresh (bz _))⟩
 ·obtain⟨cy,g,pl,hz⟩:=I.tuple b;exact call_tuple_same pl ⟨.ref p,H,I,rfl,q⟩
def tyV(K:Frag)(T:String)(x:V)(H:Hp):Prop:=match x with
 |.str _=>T="str"
 |.int _=>T="int"
 |.ref p=>(T="list"/\∃xs,lR K H p xs)\/(T="tuple"/\∃o,K.lookup p=some o/\o.cls=.type "tuple"/\o.dict=none)\/
   (T="dict"/\((∃kvs,H p=some (.dK kvs))\/∃kvs,H p=some (.dT kvs)))\/(T="set"/\∃S n,H p=some (.set S n))
 |_=>False
theorem RK{x:V}(I:Inv X U Z H s)(r:RelV x af)(ty:tyV X.K ay x H):
  s.TypeIs af ay/\∀tg,af=.ref tg->∃q,s.heap.get? tg=some q/\q.dict=none:=by
 cases x with
 |str z=>
  obtain⟨t,rfl⟩:=r;cases(show ay="str"from ty);exact⟨typeIs_str s z t,λ_ e=>nomatch e⟩
 |int i=>
  obtain⟨t,rfl⟩:=r;cases(show ay="int"from ty);exact⟨typeIs_int s i t,λ_ e=>nomatch e⟩
 |ref p=>
  cases r;rcases ty with⟨rfl,xs,l⟩|⟨rfl,o,b,L,hd⟩|⟨rfl,b⟩|⟨rfl,S,n,b⟩
  ·obtain⟨cy,_,pl,_⟩:=I.list l;refine⟨pl.isList.typeIs,λtg e=>?_⟩;cases e;obtain⟨o,n,e,c,hd,_⟩:=pl;exact⟨o,e,hd⟩
  ·refine⟨⟨o,I.l9 p o b,L⟩,λtg e=>?_⟩;cases e;exact⟨o,I.l9 _ o b,hd⟩
  ·have z:∃o,s.heap.get? p=some o/\o.ExactDict:=by
    rcases b with⟨kvs,b⟩|⟨kvs,b⟩
    ·obtain⟨_,_,_,_,o,_,_,e,ex,_⟩:=I.cY p _ b;exact⟨o,e,ex⟩
    ·obtain⟨_,_,_,_,o,_,_,e,ex,_⟩:=I.cY p _ b;exact⟨o,e,ex⟩
   obtain⟨o,e,ex⟩:=z;refine⟨⟨o,e,ex.1⟩,λtg g=>?_⟩;cases g;exact⟨o,e,ex.2.1⟩
  ·obtain⟨o,_,_,_,e,ex,_⟩:=I.cY p _ b;refine⟨⟨o,e,ex.1⟩,λtg g=>?_⟩;cases g;exact⟨o,e,ex.2.1⟩
 |_=>exact False.elim ty
def tBM(K:Frag)(T:String)(r:V->List V->Hp->VK->Prop)(to:TE)(t:TA):TE:=λZ H Q=>to Z H λx H1=>tyV K T x H1/\t Z H1 λxs H2=>r x xs H2 Q
variable {to:TE}{t:TA}{name:Str}{dM:Pos}{T id:String}{r:V->List V->Hp->VK->Prop}
theorem Gd(pa:PlainAttrs T)(slot:Slot T name id)(NB:typeOf (.builtin id)=pure (.type "method_descriptor"))(hm:RH X id r)(ho:PE X o to)(ha:PA X (e::es) t)
  (pO:attributeBase o name X.env (eval o X.env)=eval o X.env:=by rfl)
  (q:((backTo dM (starEach (e::es) X.env)).all (λx=>!x.1)&&(backToKw dM (keywordEach [] X.env)).all (λx=>x.1.isSome)
   &&decide ((e::es).length+([]:List Keyword).length+(if([]:List Keyword).isEmpty then 0 else 1)<30))=true:=by rfl)
  (gb:(b8.endLine==dM.line)=true:=by rfl) (hs:starEach (e::es) X.env=(false,eval e X.env)::starEach es X.env:=by rfl) (RL:(backTo dM (starEach es X.env)).any (·.1)=false:=by rfl):
  PE X (.Call (.Attribute o name b8) (e::es) [] dM) (tBM X.K T r to t):=by
 intro U s Z H Q I h;refine wpAny_Call_method_late pO q gb rfl (eK (ho U s Z H _ I h) λv s1 ⟨x,H1,b,r1,ty,l⟩=>?_);obtain⟨h1,h2⟩:=RK b r1 ty;refine⟨T,id,pa,slot,NB,h1,h2,?_⟩;have g:=ha dM U s1 Z H1 _ b l;rw[hs]at g⊢;refine nF (by show(false||(backTo dM (starEach es X.env)).any (·.1))=false;rw[RL]<;>rfl) (nJ ?_);exact eK g λus s2 ⟨vs,H2,n,r2,L⟩=>hm U s2 Z H2 x vs v us Q n r1 r2 L
end
def MtM(X:Cx)(id:String)(r:V->List V->Hp->VK->Prop):Prop:=
 ∀(U:List (Addr×Obj)) (s:Shared) (Z:St) (H:Hp) (x:V) (xs:List V) (v:Value) (us:List Value) (Q:VK),Inv X U Z H s->RelV x v->Vals xs us->r x xs H Q->
  wpAny (model X.prog X.w) X.A (call (.builtin id) (v::us)) (EP X U Z Q) X.xe s
theorem Vals.one:∀{x:V} {us:List Value},Vals [x] us->∃u,us=[u]/\RelV x u
 |_,_,.cons r .nil=>⟨_,rfl,r⟩
theorem Vals.dropLast {xs:List V}{us:List Value}(h:Vals xs us):Vals xs.dropLast us.dropLast:=by
 induction h with
 |nil=>exact .nil
 |cons r t b=>
  cases t with
  |nil=>exact .nil
  |cons q t'=>exact .cons r b
theorem Vals.rep {xs:List V}{us:List Value}(h:Vals xs us):∀k:Nat,Vals (List.replicate k xs).flatten (List.replicate k us).flatten
 |0=>.nil
 |k+1=>by
  rw[nK,nK,mC,mC];exact Vals.append h (Vals.rep h k)
theorem foldl_rep(cy:List Value):∀(k:Nat) (acc:List Value),
  List.foldl (λq x2=>q++x2) acc.toArray (List.replicate k cy.toArray)=(acc++(List.replicate k cy).flatten).toArray
 |0,acc=>by simp
 |k+1,acc=>by
  have e:acc.toArray++cy.toArray=(acc++cy).toArray:=by simp
  have b:(acc++cy)++(List.replicate k cy).flatten=acc++(List.replicate (k+1) cy).flatten:=by
   rw[nK,mC,xj]
  rw[<-b,<-foldl_rep cy k (acc++cy),<-e,nK,List.foldl_cons]
section
variable {l:Addr}{ys zs:List V}
def Inv.NC {cy t9:List Value}{n:Nat}{f:Array Value->Array Value}{t':Nat}(I:Inv X U Z H s)(hH:H l=some (.lst ar))
  (e:s.heap.get? l=some {cls:=.type "list",data:=.seq cy.toArray n}) (hf:f cy.toArray=t9.toArray) (hv:Vals ys t9) (hz:ys.length<=sizeLine):
  Inv X U Z (upd H l (.lst ys)) {s with heap:=s.heap.update l (Obj.mapSeq f),toks:=t'}:=by
 have q:=PySem.IsL.update e f;rw[hf]at q;refine I.write (x:=l) (e:=l) (by rw[hH];exact trivial) (.inl rfl) (λg u hb b=>(nG s.heap (Obj.mapSeq f) (Ne.symm hb)).trans b) ⟨_,q⟩ ?_
 exact⟨hz,t9,_,hv,q⟩
def Inv.ND {cy:List Value}{t':Nat}(I:Inv X U Z H s)(hv:Vals ys cy)(hz:ys.length<=sizeLine):
  Inv X U Z (upd H s.heap.objs.size (.lst ys)) {s with heap:=s.heap.push {cls:=.type "list",data:=.seq cy.toArray},toks:=t'}:=
 I.laid (λ_ _ q=>bR _ q) (bz _) ⟨hz,cy,0,hv,cz _ rfl⟩
theorem Inv.fresh (I:Inv X U Z H s):H s.heap.objs.size=none:=I.cY.fresh (bz _)
def Inv.zo (I:Inv X U Z H s)(q:H l=some (.lst ar)):ar.length<=sizeLine/\∃(cy:List Value) (n:Nat),Vals ar cy/\ar.length=cy.length/\s.heap.get? l=some {cls:=.type "list",data:=.seq cy.toArray n}:=by
 obtain⟨z,cy,n,r,e⟩:=I.cY l _ q;exact⟨z,cy,n,r,r.length,e⟩
def Ka(h:i<=sizeLine):Builtin.List.listTooLong i=false:=by
 unfold Builtin.List.listTooLong;exact fF (by omega)
end
def Ge:V->List V->Hp->VK->Prop:=λx vs H Q=>∃l xs y,x=.ref l/\vs=[y]/\H l=some (.lst xs)/\xs.length<sizeLine/\Q .cA (upd H l (.lst (xs++[y])))
theorem i8:MtM X "list.append" Ge:=by
 intro U s Z H x vs v us Q I g L h;obtain⟨l,xs,y,rfl,rfl,b,hz,q⟩:=h;cases g;obtain⟨u,rfl,M⟩:=L.one;obtain⟨z,cy,n,r,S,e⟩:=I.zo b;refine kT nD ⟨_,e,rfl⟩ F.entry_list_append (F.args_list_append_2 _ _) (PySem.list_append l cy.toArray n u (by rw[cW];omega)) ⟨e,?_⟩;refine⟨.cA,_,I.NC (t9:=cy++[u]) b e (by simp) (r.append (.cons M .nil)) ?_,rfl,q⟩;rw[eR,List.length_singleton];omega
def aaD:R2:=λx y H Q=>∃l b xs zs,x=.ref l/\y=.ref b/\H l=some (.lst xs)/\H b=some (.lst zs)/\xs.length+zs.length<=sizeLine/\∀p,H p=none->Q (.ref p) (upd H p (.lst (xs++zs)))
theorem Kb:u6 X (binaryOp .Add) aaD:=by
 intro U s Z H x y v u Q I L M h;obtain⟨l,b,xs,zs,rfl,rfl,S,hB,hz,q⟩:=h;cases L;cases M;obtain⟨z,cy,n,r,hl,e⟩:=I.zo S;obtain⟨z2,g,n2,r2,Na,e2⟩:=I.zo hB;refine PySem.P.add_list e e2 ?_ (by rw[cW,cW];omega)
 have ea:cy.toArray++g.toArray=(cy++g).toArray:=by simp
 rw[ea];exact⟨.ref _,_,I.ND (t':=s.toks) (r.append r2) (by rw[eR];omega),rfl,q _ I.fresh⟩
def aaE:R2:=λx y H Q=>∃l k xs,x=.ref l/\y=.int k/\H l=some (.lst xs)/\-(2 ^63)<=k/\k<2 ^63/\xs.length*k.toNat<=sizeLine/\
 ∀p,H p=none->Q (.ref p) (upd H p (.lst (List.replicate k.toNat xs).flatten))
def len_rep(xs:List ag)(k:Nat):(List.replicate k xs).flatten.length=k*xs.length:=by
 induction k with
 |zero=>simp
 |succ k b=>rw[nK,mC,eR,b,Nat.succ_mul,Nat.add_comm]
theorem RM:u6 X (binaryOp .Mult) aaE:=by
 intro U s Z H x y v u Q I S ry h;obtain⟨l,k,xs,rfl,rfl,hH,h1,h2,hz,q⟩:=h;cases S;obtain⟨t,rfl⟩:=ry;obtain⟨z,cy,n,r,hl,e⟩:=I.zo hH;have b9:cy.toArray.size*k.toNat<=sizeLine:=by rw[cW,<-hl];exact hz
 have b:¬cy.toArray.size*k.toNat>(2 ^63 - 1)/8:=by
  have:(sizeLine:Nat)<=(2 ^63 - 1)/8:=by decide
  omega
 have g:¬(!Builtin.List.listFitsIndex k)=true:=by
  rw[fitsIndex_both h1 h2];exact fE
 have V3:¬Builtin.List.listTooLong (cy.toArray.size*k.toNat)=true:=by
  rw[Ka b9];exact fE
 have Kc:List.foldl (λL M=>L++M) #[] (List.replicate (if cy.toArray.isEmpty=true then 0 else k.toNat) cy.toArray)=(List.replicate k.toNat cy).flatten.toArray:=by
  have f0:∀m:Nat,List.foldl (λL M=>L++M) #[] (List.replicate m cy.toArray)=(List.replicate m cy).flatten.toArray:=λm=>by
   have:=foldl_rep cy m [];rw[List.nil_append]at this;exact this
  rw[f0];cases cy with
  |nil=>simp
  |cons a r'=>rw[bc (by simp)]
 refine wpAny_binaryOp_repeat_ref (T:="list") (U:="int") (by decide) ⟨_,e,rfl⟩ (λs'=>typeIs_int s' k t) noFill_list_mul F.fills_int_mul F.slot_int_rmul repeat_list F.slot_int_index.lookup
  (kT F.slot_int_rmul (typeIs_int s k t) F.entry_int_rmul (F.args_int_rmul_2 _ _) (int___rmul___int_list k t l cy.toArray n)
   ⟨e,rfl,⟨_,e,rfl⟩,kT F.slot_list_mul ⟨_,e,rfl⟩ F.entry_list_mul (F.args_list_mul_2 _ _) (AutoListH.list___mul___list_int_3 l cy.toArray n k t g b V3) ⟨e,?_⟩⟩)
 rw[Kc];exact⟨.ref _,_,I.ND (t':=s.toks) (r.rep k.toNat) (by rw[len_rep,Nat.mul_comm];exact hz),rfl,q _ I.fresh⟩
section
variable [DecidableEq ag]
noncomputable def mU(kvs:List (ag×V))(k:ag):Option V:=(kvs.find? λb=>decide (b.1=k)).map (·.2)
noncomputable def putK(kvs:List (ag×V))(k:ag)(v:V):List (ag×V):=
 if(kvs.any λb=>decide (b.1=k))=true then kvs.map (λb=>if b.1=k then(b.1,v)else b)else kvs++[(k,v)]
noncomputable def rJ(kvs:List (ag×V))(k:ag):List (ag×V):=kvs.filter λb=>decide (b.1≠k)
def ug{p:ag×V}{r:List (ag×V)}{k:ag}(e:p.1=k):mU (p::r) k=some p.2:=by simp[mU,km,e]
def uh{p:ag×V}{r:List (ag×V)}{k:ag}(e:¬p.1=k):mU (p::r) k=mU r k:=by simp[mU,km,e]
theorem CD(k:ag):∀kvs:List (ag×V),(kvs.any λq=>decide (q.1=k))=(mU kvs k).isSome
 |[]=>rfl
 |p::r=>by
  rw[jr];by_cases e:p.1=k
  ·simp only[ug e,iF e,tU,nL]
  ·rw[uh e,fF e,jE];exact CD k r
def pP(kvs:List (ag×V))(k:ag)(v:V):(putK kvs k v).length<=kvs.length+1:=by
 unfold putK;split
 ·rw[bu];omega
 ·rw[eR,dB,xp];omega
def l8.mV {o:Option V}{u:Option Value}(r:l8 o u):o.isSome=u.isSome:=by
 cases o with
 |none=>cases u with
  |none=>rfl
  |some _=>exact fe r
 |some _=>cases u with
  |none=>exact fe r
  |some _=>rfl
theorem l8.getD {o:Option V}{u:Option Value}{d:V}{d':Value}(r:l8 o u)(q:RelV d d'):RelV (o.getD d) (u.getD d'):=by
 cases o with
 |none=>cases u with
  |none=>exact q
  |some _=>exact fe r
 |some _=>cases u with
  |none=>exact fe r
  |some _=>exact r
def KV.val {kvs:List (ag×V)}{vs:List (ag×Value)}(r:KV kvs vs)(k:ag):l8 (mU kvs k) (valueAt vs k):=by
 unfold KV at r
 induction r with
 |nil=>exact True.intro
 |@cons p q ps g h t I=>
  obtain⟨n,h2⟩:=h;by_cases e:p.1=k
  ·have l:q.1=k:=n.symm.trans e;have b:valueAt (q::g) k=some q.2:=by simp[valueAt,km,l]
   rw[ug e,b];exact h2
  ·have l:¬q.1=k:=λz=>e (n.trans z);have b:valueAt (q::g) k=valueAt g k:=by simp[valueAt,km,l]
   rw[uh e,b];exact I
theorem KV.any {kvs:List (ag×V)}{vs:List (ag×Value)}(r:KV kvs vs)(k:ag):(kvs.any λq=>decide (q.1=k))=vs.any λq=>decide (q.1=k):=by
 unfold KV at r
 induction r with
 |nil=>rfl
 |cons h t b=>rw[jr,jr,b,h.1]
def KV.RN {kvs:List (ag×V)}{vs:List (ag×Value)}(r:KV kvs vs)(k:ag){y:V}{u:Value}(ry:RelV y u):
  KV (kvs.map λkv=>if kv.1=k then(kv.1,y)else kv) (vs.map λkv=>if kv.1=k then(kv.1,u)else kv):=by
 unfold KV at r⊢
 induction r with
 |nil=>exact .nil
 |@cons p q ps l h t g=>
  rw[bO,bO];refine .cons ?_ g
  obtain⟨b,h2⟩:=h;by_cases e:p.1=k
  ·rw[aW e,aW (b.symm.trans e)];exact⟨b,ry⟩
  ·rw[bc e,bc (λz=>e (b.trans z))];exact⟨b,h2⟩
def KV.put {kvs:List (ag×V)}{vs:List (ag×Value)}(r:KV kvs vs)(k:ag){y:V}{u:Value}(q:RelV y u):KV (putK kvs k y) (stored vs k u):=by
 unfold putK stored;rw[r.any k];by_cases e:(vs.any λb=>decide (b.1=k))=true
 ·rw[aW e,aW e];exact r.RN k q
 ·rw[bc e,bc e];exact Paired.snoc r ⟨rfl,q⟩
def KV.drop {kvs:List (ag×V)}{vs:List (ag×Value)}(r:KV kvs vs)(k:ag):KV (rJ kvs k) (without vs k):=by
 unfold KV at r⊢;unfold rJ without
 induction r with
 |nil=>exact .nil
 |@cons p q ps I h t l=>
  obtain⟨g,h2⟩:=h;rw[pf,pf];by_cases e:p.1=k
  ·have a:¬decide (p.1≠k)=true:=by simp[e]
   have b:¬decide (q.1≠k)=true:=by simp[g.symm.trans e]
   rw[bc a,bc b];exact l
  ·have n:¬q.1=k:=λz=>e (g.trans z);have a:decide (p.1≠k)=true:=by simp[e]
   have b:decide (q.1≠k)=true:=by simp[n]
   rw[aW a,aW b];exact .cons ⟨g,h2⟩ l
def KV.keys {kvs:List (ag×V)}{vs:List (ag×Value)}(r:KV kvs vs):kvs.map (·.1)=vs.map (·.1):=by
 unfold KV at r
 induction r with
 |nil=>rfl
 |cons h t b=>rw[bO,bO,b,h.1]
theorem KV.length {kvs:List (ag×V)}{vs:List (ag×Value)}(r:KV kvs vs):kvs.length=vs.length:=Paired.length r
def Kd(kvs:List (ag×V))(k:ag):(rJ kvs k).length<=kvs.length:=o4 _ _
end
theorem pQ{P:Program}{w:World}{k:Key}(r:RelV (kV k) af):(cp P w).is k af=true:=by
 cases k with
 |inl i=>obtain⟨t,e⟩:=(show∃t,af=Value.int i t from r);subst e;exact Cr P w i t
 |inr x=>obtain⟨t,e⟩:=(show∃t,af=Value.str x t from r);subst e;exact Cs P w x t
theorem zO:∀{ks:List Key} {us:List Value},Vals (ks.map kV) us->ItemsAre (cp P w) ks us
 |[],_,r=>by rw[mL]at r;cases r;exact .nil
 |k::ks,_,r=>by
  rw[bO]at r;cases r with
  |cons h t=>exact .cons (pQ h) (zO t)
abbrev KT(H:Hp):List (List Key×V)->List (List Key×Addr×Value)->Prop:=Paired fun p q=>p.1=q.1/\H q.2.1=some (.tup (p.1.map kV))/\RelV p.2 q.2.2
def KT.val {kvs:List (List Key×V)}{xs:List (List Key×Addr×Value)}(r:KT H kvs xs)(k:List Key):l8 (mU kvs k) ((atKey xs k).map (·.2)):=by
 induction r with
 |nil=>exact True.intro
 |@cons p q ps g h t I=>
  obtain⟨n,_,h2⟩:=h;by_cases e:p.1=k
  ·have l:q.1=k:=n.symm.trans e;have b:atKey (q::g) k=some q.2:=by simp[atKey,km,l]
   rw[ug e,b];exact h2
  ·have l:¬q.1=k:=λz=>e (n.trans z);have b:atKey (q::g) k=atKey g k:=by simp[atKey,km,l]
   rw[uh e,b];exact I
def KT.RN {kvs:List (List Key×V)}{xs:List (List Key×Addr×Value)}(r:KT H kvs xs)(k:List Key){y:V}{u:Value}(ry:RelV y u):
  KT H (kvs.map λkv=>if kv.1=k then(kv.1,y)else kv) (xs.map (putAt k u)):=by
 induction r with
 |nil=>exact .nil
 |@cons p q ps n h t g=>
  rw[bO,bO];refine .cons ?_ g
  obtain⟨b,h2,l⟩:=h;unfold putAt;by_cases e:p.1=k
  ·rw[aW e,aW (b.symm.trans e)];exact⟨b,h2,ry⟩
  ·rw[bc e,bc (λz=>e (b.trans z))];exact⟨b,h2,l⟩
def KT.put {kvs:List (List Key×V)}{xs:List (List Key×Addr×Value)}(r:KT H kvs xs)(k:List Key){b:Addr}{y:V}{u:Value}(hb:H b=some (.tup (k.map kV)))(ry:RelV y u):
  KT H (putK kvs k y) (storedH xs k b u):=by
 have e:(kvs.any λg=>decide (g.1=k))=(atKey xs k).isSome:=by
  rw[CD,(r.val k).mV,jq]
 unfold putK storedH;rw[e];by_cases q:(atKey xs k).isSome=true
 ·rw[aW q,aW q];exact r.RN k ry
 ·rw[bc q,bc q];exact Paired.snoc r ⟨rfl,hb,ry⟩
def KT.keeps {H':Hp}{kvs:List (List Key×V)}{xs:List (List Key×Addr×Value)}(r:KT H kvs xs)(q:∀b ys,H b=some (.tup ys)->H' b=some (.tup ys)):KT H' kvs xs:=
 Paired.Rb r λ_ _ z=>⟨z.1,q _ _ z.2.1,z.2.2⟩
def Qb{u:HO}(ok:r9 P w H aa)(e:Rd H a u):cZ P w H aa a u:=e.ok ok
def ui(ok:r9 P w H aa)(e:Rd H a (.dK kvs)):kvs.length<=sizeLine/\(a==sysModules)=false/\∃vs,KV kvs vs/\aa.DictOf (cp P w) a vs:=
 show cZ P w H aa a (.dK kvs)from Qb ok e
def Gf(ok:r9 P w H aa)(e:H a=some (.dK kvs)):kvs.length<=sizeLine/\(a==sysModules)=false/\∃vs,KV kvs vs/\aa.DictOf (cp P w) a vs:=ui ok (.inl e)
def sf{ks:List Key}(ok:r9 P w H aa)(e:H a=some (.tup (ks.map kV))):(tupleKind (cp P w)).is aa ks a:=by
 obtain⟨_,cy,r,o,h1,h2,n,b⟩:=(show cZ P w H aa a (.tup (ks.map kV))from ok a _ e);exact⟨o,cy.toArray,n,h1,h2,b,by simpa using zO r⟩
theorem vE{kvs:List (List Key×V)}(ok:r9 P w H aa)(e:Rd H a (.dT kvs)):kvs.length<=sizeLine/\(a==sysModules)=false/\
  ∃xs,KT H kvs xs/\aa.DictOfH (tupleKind (cp P w)) a xs:=by
 obtain⟨z,y,xs,r,o,es,ep,h1,h2,n,I,L⟩:=(show cZ P w H aa a (.dT kvs)from Qb ok e);refine⟨z,y,xs,r,o,es,ep,h1,h2,n,I,λx b=>?_,L⟩;have all:∀{l:List (List Key×V)} {m:List (List Key×Addr×Value)},KT H l m->∀x∈m,(tupleKind (cp P w)).is aa x.1 x.2.1:=by
  intro l m q
  induction q with
  |nil=>intro x b;exact nomatch b
  |@cons p q ps S g t M=>
   intro x b;rcases bG.mp b with e|b
   ·subst e;exact sf ok (by rw[<-g.1];exact g.2.1)
   ·exact M x b
 exact all r x b
def V4{kvs:List (List Key×V)}(ok:r9 P w H aa)(e:H a=some (.dT kvs)):kvs.length<=sizeLine/\(a==sysModules)=false/\
  ∃xs,KT H kvs xs/\aa.DictOfH (tupleKind (cp P w)) a xs:=vE ok (.inl e)
def pR(H:Hp)(a:Addr)(y:V)(r:Option V):Prop:=
 (∃kvs k,Rd H a (.dK kvs)/\y=kV k/\r=mU kvs k)\/∃kvs k b,Rd H a (.dT kvs)/\y=.ref b/\H b=some (.tup (k.map kV))/\r=mU kvs k
def EI(H:Hp)(a:Addr)(y v:V)(H':Hp):Prop:=
 (∃kvs k,H a=some (.dK kvs)/\y=kV k/\kvs.length<sizeLine/\H'=upd H a (.dK (putK kvs k v)))\/
 ∃kvs k b,H a=some (.dT kvs)/\y=.ref b/\H b=some (.tup (k.map kV))/\kvs.length<sizeLine/\H'=upd H a (.dT (putK kvs k v))
theorem pR.k {H:Hp}{k:Key}(e:H a=some (.dK kvs)):pR H a (kV k) (mU kvs k):=.inl ⟨kvs,k,.inl e,rfl,rfl⟩
def pR.t {H:Hp}{b:Addr}{kvs:List (List Key×V)}{k:List Key}(e:H a=some (.dT kvs))(q:H b=some (.tup (k.map kV))):pR H a (.ref b) (mU kvs k):=.inr ⟨kvs,k,b,.inl e,rfl,q,rfl⟩
theorem EI.k {H:Hp}{k:Key}{v:V}(e:H a=some (.dK kvs))(q:kvs.length<sizeLine):EI H a (kV k) v (upd H a (.dK (putK kvs k v))):=.inl ⟨kvs,k,e,rfl,q,rfl⟩
def EI.t {H:Hp}{b:Addr}{kvs:List (List Key×V)}{k:List Key}{v:V}(e:H a=some (.dT kvs))(q:H b=some (.tup (k.map kV)))(hl:kvs.length<sizeLine):
  EI H a (.ref b) v (upd H a (.dT (putK kvs k v))):=.inr ⟨kvs,k,b,e,rfl,q,hl,rfl⟩
section
variable {y v:V}{r:Value}{o:Option V}
theorem Inv.big (I:Inv X U Z H s):sysModules<s.heap.objs.size:=by
 have h:mainGlobals<s.heap.objs.size:=(I.mod.glob.keeps I.bk).lt;exact Nat.lt_trans (by decide) h
theorem HX(hu:A.units+1<cLine)(I:Inv X U Z H s)(g:pR H a y (some v))(ry:RelV y af)(h:∀q s',Inv X U Z H s'->RelV v q->Q q s'):
  wpAny (model X.prog X.w) A (getItem (.ref a) af) Q E s:=by
 rcases g with⟨kvs,k,e,n,l⟩|⟨kvs,k,b,e,n,L,l⟩
 ·subst n;obtain⟨z,hd,vs,rel,dd⟩:=ui I.cY e;obtain⟨q,hw,r⟩:=l8.some_of (v:=v) (o:=valueAt vs k) (by rw[l];exact rel.val k);exact wpAny_getItem_of (pQ ry) dd.mapOf hw (h q _ (I.tok _) r)
 ·subst n;cases(show af=Value.ref b from ry);obtain⟨z,hd,xs,rel,dd⟩:=vE I.cY e;obtain⟨q,hw,r⟩:=l8.some_of (v:=v) (o:=(atKey xs k).map (·.2)) (by rw[l];exact rel.val k);obtain⟨p,hp,M⟩:=Option.map_eq_some_iff.mp hw;refine wpAny_getItem_heap (mF hu) (sf I.cY L) dd hp ?_
  rw[M];exact h q _ (I.tok _) r
theorem aaH(hu:A.units+1<cLine)(I:Inv X U Z H s)(g:pR H a y o)(ry:RelV y af)(h:∀s',Inv X U Z H s'->Q (.bool o.isSome) s'):
  wpAny (model X.prog X.w) A (compareOp .In af (.ref a)) Q E s:=by
 rcases g with⟨kvs,k,e,n,l⟩|⟨kvs,k,b,e,n,r,l⟩
 ·subst n;obtain⟨z,hd,vs,rel,dd⟩:=ui I.cY e;refine wpAny_in_of (pQ ry) hd dd.mapOf ?_
  rw[<-(rel.val k).mV,<-l];exact h _ (I.tok _)
 ·subst n;cases(show af=Value.ref b from ry);obtain⟨z,hd,xs,rel,dd⟩:=vE I.cY e;refine wpAny_in_heap (mF hu) (sf I.cY r) hd dd ?_
  have q:=(rel.val k).mV;rw[jq]at q;rw[<-q,<-l];exact h _ (I.tok _)
theorem NG(hu:A.units+1<cLine)(I:Inv X U Z H s)(g:pR H a y o)(ry:RelV y af)(h:∀s',Inv X U Z H s'->Q (.bool (!o.isSome)) s'):
  wpAny (model X.prog X.w) A (compareOp .NotIn af (.ref a)) Q E s:=by
 rcases g with⟨kvs,k,e,n,l⟩|⟨kvs,k,b,e,n,r,l⟩
 ·subst n;obtain⟨z,hd,vs,rel,dd⟩:=ui I.cY e;refine wpAny_notIn_of (pQ ry) hd dd.mapOf ?_
  rw[<-(rel.val k).mV,<-l];exact h _ (I.tok _)
 ·subst n;cases(show af=Value.ref b from ry);obtain⟨z,hd,xs,rel,dd⟩:=vE I.cY e;refine wpAny_notIn_heap (mF hu) (sf I.cY r) hd dd ?_
  have q:=(rel.val k).mV;rw[jq]at q;rw[<-q,<-l];exact h _ (I.tok _)
def uj{ob:HO}(I:Inv X U Z H s)(mu:Vx (H a))(hs:Heap.SameBut a s.heap aa)(he:∃q,aa.get? a=some q)(new:cZ X.prog X.w (upd H a ob) aa a ob):
  Inv X U Z (upd H a ob) {s with heap:=aa,toks:=i}:=
 I.write (x:=a) (e:=a) mu (.inl rfl) (λb q hb z=>(hs.2 b hb).trans z) he new
def xM{vs:List (Key×Value)}(z:kvs.length<=sizeLine)(hd:(a==sysModules)=false)(rel:KV kvs vs)(dd:aa.DictOf (cp P w) a vs):
  cZ P w H aa a (.dK kvs):=⟨z,hd,vs,rel,dd⟩
theorem HY(hu:A.units+1<cLine)(I:Inv X U Z H s)(g:EI H a y v ac)(ry:RelV y af)(rv:RelV v r)(h:∀s',Inv X U Z ac s'->ae () s'):
  wpAny (model X.prog X.w) A (setItem (.ref a) af r) ae E s:=by
 rcases g with⟨kvs,k,e,M,l,S⟩|⟨kvs,k,b,e,M,eb,l,S⟩
 ·subst M S;obtain⟨z,hd,vs,rel,dd⟩:=Gf I.cY e;have hz:vs.length<=sizeLine:=by rw[<-rel.length];exact z
  have hl:(putK kvs k v).length<=sizeLine:=by have:=pP kvs k v;omega
  refine wpAny_setItem_pairs (hsz:=hz) (pQ ry) dd λh' n hs=>h _ ?_
  have he:∃q,h'.get? a=some q:=let⟨q,_,_,L,_⟩:=n;⟨q,L⟩
  exact uj I (by rw[e];exact True.intro) hs he (xM hl hd (rel.put k rv) n)
 ·subst M S;cases(show af=Value.ref b from ry);obtain⟨z,hd,xs,rel,dd⟩:=V4 I.cY e;have hz:xs.length<=sizeLine:=by rw[<-Paired.length rel];exact z
  have hl:(putK kvs k v).length<=sizeLine:=by have:=pP kvs k v;omega
  refine wpAny_setItem_heap (hsz:=hz) (mF hu) (sf I.cY eb) dd λh' n hs=>h _ ?_
  obtain⟨q,es,ep,L,h2,h3,h4,_,h5⟩:=n;refine uj I (by rw[e];exact True.intro) hs ⟨q,L⟩ ⟨hl,hd,_,(rel.put k eb rv).keeps λc ys ec=>?_,q,es,ep,L,h2,h3,h4,h5⟩;rw[bp (Vu ec e (λz=>nomatch z))];exact ec
end
section
variable {k:Key}
theorem Qc{v:V}(I:Inv X U Z H s)(e:H a=some (.dK kvs))(ry:RelV (kV k) af)(l:mU kvs k=some v)(hm:aq=[]\/∃x,aq=[x])
  (h:∀w' s',Inv X U Z (upd H a (.dK (rJ kvs k))) s'->RelV v w'->Q w' s'):wpAny (model X.prog X.w) A (call (.builtin "dict.pop") (.ref a::af::aq)) Q E s:=by
 obtain⟨z,hd,vs,rel,dd⟩:=Gf I.cY e;obtain⟨w',hw,g⟩:=l8.some_of (v:=v) (o:=valueAt vs k) (by rw[<-l];exact rel.val k);have hp:(keyPart af).isSome=true:=by
  cases k with
  |inl i=>obtain⟨t,q⟩:=(show∃t,af=Value.int i t from ry);subst q;rfl
  |inr x=>obtain⟨t,q⟩:=(show∃t,af=Value.str x t from ry);subst q;rfl
 have n:argsOk "dict.pop" ⟨.ref a::af::aq,[]⟩:=by
  rcases hm with q|⟨x,q⟩
  ·subst q;exact PySem.F.args_dict_pop_2 _ _
  ·subst q;exact PySem.F.args_dict_pop_3 _ _ _
 refine jF sV dd.typeIs PySem.F.entry_dict_pop n (meets_dict_pop_there (cp X.prog X.w) a (pQ ry) aq hm hp)
  ⟨vs,w',dd,by rw[<-rel.length];exact z,hw,λh' b hs=>h w' _ ?_ g⟩
 have he:∃q,h'.get? a=some q:=let⟨q,_,_,r,_⟩:=b;⟨q,r⟩
 exact uj I (by rw[e];exact True.intro) hs he (xM (cF (Kd kvs k) z) hd (rel.drop k) b)
def RO{r:Value}(I:Inv X U Z H s)(e:H a=some (.dK kvs))(ry:RelV (kV k) af)(l:mU kvs k=none)(h:∀s',Inv X U Z H s'->Q r s'):
  wpAny (model X.prog X.w) A (call (.builtin "dict.pop") [.ref a,af,r]) Q E s:=by
 obtain⟨z,hd,vs,rel,dd⟩:=Gf I.cY e;have hn:valueAt vs k=none:=l8.none_of (by rw[<-l];exact rel.val k);have hp:(keyPart af).isSome=true:=by
  cases k with
  |inl i=>obtain⟨t,q⟩:=(show∃t,af=Value.int i t from ry);subst q;rfl
  |inr x=>obtain⟨t,q⟩:=(show∃t,af=Value.str x t from ry);subst q;rfl
 exact jF sV dd.typeIs PySem.F.entry_dict_pop (PySem.F.args_dict_pop_3 _ _ _) (meets_dict_pop_default (cp X.prog X.w) a (pQ ry) hd hp r) ⟨vs,dd,hn,h _ (I.tok _)⟩
def V5(I:Inv X U Z H s)(e:Rd H a (.dK kvs))(h:∀t s',Inv X U Z H s'->Q (.int kvs.length t) s'):wpAny (model X.prog X.w) A (call (.builtin "len") [.ref a]) Q E s:=by
 obtain⟨z,hd,vs,rel,dd⟩:=ui I.cY e;refine call_len_dict hd dd (by rw[<-rel.length];rw[dX]at z;omega) ?_
 rw[<-rel.length];exact h _ _ (I.tok _)
end
def NH(i:Expr):Prop:=∀b iv,subscripted i false b iv=operate [b,iv] (getItem b iv)
def NI{env:Env}{id:String}
  (hl:typeLookup (.type ay) "__getitem__"=pure (some (.builtin id))) (hs:NH tg)
  (h:wpAny (model P w) A (eval e env) (λo q=>wpAny (model P w) A (eval tg env) (λi ua=>ua.TypeIs o ay/\wpAny (model P w) A (getItem o i) Q E ua) E q) E s):
  wpAny (model P w) A (eval (.Subscript e tg pos) env) Q E s:=by
 refine Subscript_ (d_ h (λo q n=>d_ n (λi ua b=>?_) λ_ _ x=>x) λ_ _ x=>x);obtain⟨g,b⟩:=b;unfold subscriptTail;refine aT ?_
 rw[getitemInPython_of_ne g.not_modules];refine aT (wpAny_specialOf g hl ?_);have fin:wpAny (model P w) A (subscripted tg false o i) (λr l=>wpAny (model P w) A (letTemporaryGo e o r>>=λ_=>pure r) Q E l) E ua:=by
  rw[hs o i];exact wpAny_operating (d_ b (λr l I=>aT (wpAny_letTemporaryGo (bf I))) λ_ _ x=>x)
 first
  |exact bf (aT fin)
  |exact aT (bf (aT fin))
  |exact aT fin
def CG{y:V}{o:Option V}(I:Inv X U Z H s)(g:pR H a y o):s.TypeIs (.ref a) "dict":=by
 rcases g with⟨kvs,k,e,_,_⟩|⟨kvs,k,b,e,_,_,_⟩
 ·obtain⟨_,_,vs,_,dd⟩:=ui I.cY e;exact dd.typeIs
 ·obtain⟨_,_,xs,_,dd⟩:=vE I.cY e;exact dd.typeIs
def V6(td ty tv:TE):TS:=λD Z H=>tv Z H λv H1=>td Z H1 λx H2=>ty Z H2 λy g=>∃a b,x=.ref a/\EI g a y v b/\D.nx Z b
section
variable {td ty tv:TE}
theorem NJ(q:X.A.units+1<cLine)(ho:PE X o td)(hi:PE X e ty)(hv:PE X tg tv)(hs:swapsWith tg (some (.Subscript o e p)) pos.line X.env=pure false):
  PS X (.Assign [.Subscript o e p] tg pos) (V6 td ty tv):=by
 intro U s Z H D I h;refine wpAny_Assign_Subscript (eK (hv U s Z H _ I h) λr s1 ⟨v,H1,b,rv,l⟩=>eK (ho U s1 Z H1 _ b l) λu s2 ⟨x,H2,n,L,M⟩=>eK (hi U s2 Z H2 _ n M) λiv s3 ⟨y,H3,S,ry,a,H4,ex,g,q3⟩=>?_) hs;subst ex;obtain rfl:u=Value.ref a:=L;exact HY q S g ry rv λs4 I4=>⟨Z,H4,I4,q3⟩
end
def CH(h:Heap)(hb:sysModules<h.objs.size):cZ P w H (h.push {cls:=.type "dict",data:=.dict #[]}) h.objs.size (.dK []):=
 ⟨d9 _,jn.mpr (Ne.symm (cc hb)),[],.nil,Heap.DictOf.new h⟩
def RP:TE:=λ_ H Q=>∀p,H p=none->Q (.ref p) (upd H p (.dK []))
theorem Ke:PE X (.Dict [] [] pos) RP:=λU s Z H Q I h=>
 wpAny_Dict_empty ⟨.ref s.heap.objs.size,_,I.laid (a:=s.heap.objs.size) (o:=.dK []) (t':=s.toks) (λ_ _ q=>bR _ q) (bz _) (CH s.heap I.big),rfl,h _ (I.cY.fresh (bz _))⟩
def xN:List (TE×TE)->St->Hp->(List (V×V)->Hp->Prop)->Prop
 |[],_,H,Q=>Q [] H
 |(b,tv)::r,Z,H,Q=>b Z H λx H1=>tv Z H1 λy H2=>xN r Z H2 λps g=>Q ((x,y)::ps) g
abbrev VV:List (V×V)->List (Value×Value)->Prop:=Paired fun p q=>RelV p.1 q.1/\RelV p.2 q.2
def U5(X:Cx)(pos:Pos)(keys:List (Option Expr))(values:List Expr)(q:List (TE×TE)):Prop:=
 ∀(U:List (Addr×Obj)) (s:Shared) (Z:St) (H:Hp) (Q:List (V×V)->Hp->Prop),Inv X U Z H s->xN q Z H Q->
  wpAny (model X.prog X.w) X.A (evalPairs (pairTrees keys values X.env pos)) (λvs s'=>∃ps H',Inv X U Z H' s'/\VV ps vs/\Q ps H') X.xe s
theorem Gh:U5 X pos [] [] []:=λU s Z H Q I h=>pairTrees_nil_walk ⟨[],H,I,.nil,h⟩
theorem CI{ks:List (Option Expr)}{tk tv:TE}{A5:List (TE×TE)}(q:PE X e tk)(hv:PE X o tv)(hr:U5 X pos ks es A5):
  U5 X pos (some e::ks) (o::es) ((tk,tv)::A5):=λU s Z H Q I h=>
 pairTrees_cons_walk (eK (q U s Z H _ I h) λu s1 ⟨x,H1,b,g,l⟩=>eK (hv U s1 Z H1 _ b l) λw2 s2 ⟨y,H2,n,r,L⟩=>
  eK (hr U s2 Z H2 _ n L) λws s3 ⟨ps,M,S,rel,q3⟩=>⟨(x,y)::ps,M,S,.cons ⟨g,r⟩ rel,q3⟩)
def i9(kvs more:List (Key×V)):List (Key×V):=more.foldl (λacc b=>putK acc b.1 b.2) kvs
def KV.merge:∀{more:List (Key×V)} {rs:List (Key×Value)} {kvs:List (Key×V)} {vs:List (Key×Value)},KV more rs->KV kvs vs->KV (i9 kvs more) (merged vs rs):=by
 intro more rs kvs vs r;unfold KV at r
 induction r generalizing kvs vs with
 |nil=>intro q;exact q
 |@cons p q ps l h t b=>
  intro g;have e:KV (putK kvs p.1 p.2) (stored vs q.1 q.2):=by
   have:=g.put p.1 h.2;rw[<-h.1];exact this
  exact b e
theorem jt:∀(more kvs:List (Key×V)),(i9 kvs more).length<=kvs.length+more.length
 |[],kvs=>by show kvs.length<=kvs.length+0;omega
 |p::r,kvs=>by
  have b:=jt r (putK kvs p.1 p.2);have h2:=pP kvs p.1 p.2;show(i9 (putK kvs p.1 p.2) r).length<=_;rw[dB];omega
theorem xO{P:Program}{w:World}:∀{kvs:List (Key×V)} {ws:List (Value×Value)},VV (kvs.map λkv=>(kV kv.1,kv.2)) ws->∃rs,Carries (cp P w) ws rs/\KV kvs rs
 |[],_,r=>by rw[mL]at r;cases r;exact⟨[],True.intro,.nil⟩
 |p::kvs,_,r=>by
  rw[bO]at r;cases r with
  |@cons a b as bs h t=>
   obtain⟨rs,c,q⟩:=xO (P:=P) (w:=w) t;obtain⟨g,b2⟩:=b;exact⟨(p.1,b2)::rs,⟨pQ h.1,rfl,c⟩,.cons ⟨rfl,h.2⟩ q⟩
def V7(q:List (TE×TE)):TE:=λZ H Q=>∀p,H p=none->xN q Z (upd H p (.dK [])) λps H2=>H2 p=some (.dK [])/\∃kvs:List (Key×V),ps=kvs.map (λb=>(kV b.1,b.2))/\kvs.length<=15/\Q (.ref p) (upd H2 p (.dK (i9 [] kvs)))
theorem Gi{keys:List (Option Expr)}{A5:List (TE×TE)}(h:U5 X pos keys es A5)(u4:keys.all (·.isSome)=true)(hl:keys.length=es.length)(h0:keys≠[])
  (NK:keys.length<=15):PE X (.Dict keys es pos) (V7 A5):=by
 intro U s Z H Q I q;have l:=I.cY.fresh (bz s.heap.objs.size);have n:=I.laid (a:=s.heap.objs.size) (o:=.dK []) (h':=s.heap.push {cls:=.type "dict",data:=.dict #[]}) (t':=s.toks) (λ_ _ q=>bR _ q) (bz _) (CH s.heap I.big);refine wpAny_Dict_walk (knd:=cp X.prog X.w) u4 hl h0 NK (eK (h U _ Z _ _ n (q _ l)) λws s2 ⟨ps,H2,b,rel,e,kvs,ep,lk,r⟩=>?_);subst ep;obtain⟨rs,c,rk⟩:=xO (P:=X.prog) (w:=X.w) rel;obtain⟨z,hd,L,M,dd⟩:=Gf b.cY e;cases M;refine⟨rs,c,dd,λh' g hs=>⟨.ref s.heap.objs.size,_,?_,rfl,r⟩⟩;have hz:(i9 [] kvs).length<=sizeLine:=by
  have S:=jt kvs [];rw[xp]at S;rw[dX];omega
 have he:∃q,h'.get? s.heap.objs.size=some q:=let⟨q,_,_,hq,_⟩:=g;⟨q,hq⟩
 exact uj b (by rw[e];exact True.intro) hs he (xM hz hd (rk.merge .nil) g)
structure M1(X:Cx)(o:Expr)(m:Str)(b8:Pos)(e:Expr)(dM:Pos):Prop where
 base:attributeBase o m X.env (eval o X.env)=eval o X.env
 V8:((backTo dM (starEach [e] X.env)).all (fun x=>!x.1)&&(backToKw dM (keywordEach [] X.env)).all (fun x=>x.1.isSome)
  &&decide (([e]:List Expr).length+([]:List Keyword).length+(if([]:List Keyword).isEmpty then 0 else 1)<30))=true
 line:(b8.endLine==dM.line)=true
 trees:backTo dM (starEach [e] X.env)=[(false,eval e X.env)]
structure M2(X:Cx)(o:Expr)(m:Str)(b8:Pos)(e f:Expr)(dM:Pos):Prop where
 base:attributeBase o m X.env (eval o X.env)=eval o X.env
 V8:((backTo dM (starEach [e,f] X.env)).all (fun x=>!x.1)&&(backToKw dM (keywordEach [] X.env)).all (fun x=>x.1.isSome)
  &&decide (([e,f]:List Expr).length+([]:List Keyword).length+(if([]:List Keyword).isEmpty then 0 else 1)<30))=true
 line:(b8.endLine==dM.line)=true
 trees:backTo dM (starEach [e,f] X.env)=[(false,eval e X.env),(false,eval f X.env)]
def V9(H:Hp)(a:Addr):Prop:=(∃kvs,Rd H a (.dK kvs))\/∃kvs,Rd H a (.dT kvs)
def A6(I:Inv X U Z H s)(d:V9 H a):
  s.TypeIs (.ref a) "dict"/\(∀b,Value.ref a=.ref b->∃ob,s.heap.get? b=some ob/\ob.dict=none)/\(a==sysModules)=false:=by
 rcases d with⟨kvs,e⟩|⟨kvs,e⟩
 ·obtain⟨_,hd,vs,_,dd⟩:=ui I.cY e;refine⟨dd.typeIs,λb q=>?_,hd⟩;cases q;obtain⟨ob,_,_,h1,h2,_⟩:=dd;exact⟨ob,h1,h2.2.1⟩
 ·obtain⟨_,hd,xs,_,dd⟩:=vE I.cY e;refine⟨dd.typeIs,λb q=>?_,hd⟩;cases q;obtain⟨ob,_,_,h1,h2,_⟩:=dd;exact⟨ob,h1,h2.2.1⟩
section
variable {y d:V}{r:Value}{o:Option V}
theorem RQ(hu:A.units+1<cLine)(I:Inv X U Z H s)(g:pR H a y o)(q:RelV y af)(h:∀w' s',Inv X U Z H s'->RelV (o.getD .cA) w'->Q w' s'):
  wpAny (model X.prog X.w) A (call (.builtin "dict.get") [.ref a,af]) Q E s:=by
 rcases g with⟨kvs,k,e,n,l⟩|⟨kvs,k,b,e,n,r,l⟩
 ·subst n;obtain⟨z,hd,vs,rel,dd⟩:=ui I.cY e;refine jF qN dd.typeIs sU (PySem.F.args_dict_get_2 _ _) (meets_dict_get (cp X.prog X.w) a (pQ q) hd) ⟨_,dd.mapOf,h _ _ (I.tok _) ?_⟩;rw[l];exact(rel.val k).getD rfl
 ·subst n;cases(show af=Value.ref b from q);obtain⟨z,hd,xs,rel,dd⟩:=vE I.cY e;refine jF qN dd.typeIs sU (PySem.F.args_dict_get_2 _ _) (meetsH_dict_get (tupleKind (cp X.prog X.w)) a b hd) ⟨mF hu,k,xs,sf I.cY r,dd,h _ _ (I.tok _) ?_⟩;rw[l];exact(rel.val k).getD rfl
theorem RR(hu:A.units+1<cLine)(I:Inv X U Z H s)(g:pR H a y o)(q:RelV y af)(rd:RelV d r)(h:∀w' s',Inv X U Z H s'->RelV (o.getD d) w'->Q w' s'):
  wpAny (model X.prog X.w) A (call (.builtin "dict.get") [.ref a,af,r]) Q E s:=by
 rcases g with⟨kvs,k,e,n,l⟩|⟨kvs,k,b,e,n,L,l⟩
 ·subst n;obtain⟨z,hd,vs,rel,dd⟩:=ui I.cY e;refine jF qN dd.typeIs sU (PySem.F.args_dict_get_3 _ _ _) (meets_dict_get_default (cp X.prog X.w) a (pQ q) hd r) ⟨_,dd.mapOf,h _ _ (I.tok _) ?_⟩;rw[l];exact(rel.val k).getD rd
 ·subst n;cases(show af=Value.ref b from q);obtain⟨z,hd,xs,rel,dd⟩:=vE I.cY e;refine jF qN dd.typeIs sU (PySem.F.args_dict_get_3 _ _ _) (meetsH_dict_get_default (tupleKind (cp X.prog X.w)) a b hd r) ⟨mF hu,k,xs,sf I.cY L,dd,h _ _ (I.tok _) ?_⟩;rw[l];exact(rel.val k).getD rd
end
def RS(td ty:TE):TE:=λZ H Q=>td Z H λx H1=>∃a,x=.ref a/\V9 H1 a/\ty Z H1 λy H2=>∃o,pR H2 a y o/\Q (o.getD .cA) H2
def RT(td ty tx:TE):TE:=λZ H Q=>td Z H λx H1=>∃a,x=.ref a/\V9 H1 a/\ty Z H1 λy H2=>tx Z H2 λz b=>∃o,pR b a y o/\Q (o.getD z) b
def RU(td ty:TE):TE:=λZ H Q=>td Z H λx H1=>∃a,x=.ref a/\V9 H1 a/\ty Z H1 λy H2=>∃kvs k v,H2 a=some (.dK kvs)/\y=kV k/\mU kvs k=some v/\Q v (upd H2 a (.dK (rJ kvs k)))
def RV(td ty tx:TE):TE:=λZ H Q=>td Z H λx H1=>∃a,x=.ref a/\V9 H1 a/\ty Z H1 λy H2=>tx Z H2 λz b=>∃kvs k,b a=some (.dK kvs)/\y=kV k/\
 (∀v,mU kvs k=some v->Q v (upd b a (.dK (rJ kvs k))))/\(mU kvs k=none->Q z b)
section
variable {td ty tx:TE}
theorem Kf(q:X.A.units+1<cLine)(ho:PE X o td)(he:PE X e ty)(m:M1 X o "get" b8 e p):PE X (.Call (.Attribute o "get" b8) [e] [] p) (RS td ty):=by
 intro U s Z H Q I h;refine tK m.base m.V8 m.line qL qN PySem.F.type_dict_get (eK (ho U s Z H _ I h) λu s1 ⟨x,H1,b,l,a,ex,d,n⟩=>?_);subst ex;obtain rfl:u=Value.ref a:=l;obtain⟨t1,r,_⟩:=A6 b d;refine⟨t1,r,?_⟩;rw[m.trees];refine nF rfl (nJ (kL (eK (he U s1 Z H1 _ b n) λiv s2 ⟨y,H2,L,M,ov,g,S⟩=>pv ?_)));exact RQ q L g M λw' s3 I3 pN=>⟨_,H2,I3,pN,S⟩
theorem Kg(q:X.A.units+1<cLine)(ho:PE X o td)(he:PE X e ty)(hf:PE X tg tx)(m:M2 X o "get" b8 e tg p):PE X (.Call (.Attribute o "get" b8) [e,tg] [] p) (RT td ty tx):=by
 intro U s Z H Q I h;refine tK m.base m.V8 m.line qL qN PySem.F.type_dict_get (eK (ho U s Z H _ I h) λu s1 ⟨x,H1,b,l,a,ex,d,n⟩=>?_);subst ex;obtain rfl:u=Value.ref a:=l;obtain⟨t1,r,_⟩:=A6 b d;refine⟨t1,r,?_⟩;rw[m.trees];refine nF rfl (nJ (kL (eK (he U s1 Z H1 _ b n) λiv s2 ⟨y,H2,L,M,S⟩=>
  kL (eK (hf U s2 Z H2 _ L S) λfv s3 ⟨z,H3,I3,rz,ov,g,q3⟩=>pv ?_))))
 exact RR q I3 g M rz λw' s4 I4 pN=>⟨_,H3,I4,pN,q3⟩
theorem Kh(q:PE X o td)(he:PE X e ty)(m:M1 X o "pop" b8 e p):PE X (.Call (.Attribute o "pop" b8) [e] [] p) (RU td ty):=by
 intro U s Z H Q I h;refine tK m.base m.V8 m.line qL sV PySem.F.type_dict_pop (eK (q U s Z H _ I h) λu s1 ⟨x,H1,b,g,a,ex,d,n⟩=>?_);subst ex;obtain rfl:u=Value.ref a:=g;obtain⟨t1,r,_⟩:=A6 b d;refine⟨t1,r,?_⟩;rw[m.trees];refine nF rfl (nJ (kL (eK (he U s1 Z H1 _ b n) λiv s2 ⟨y,H2,L,M,kvs,k,v,S,ey,l,q2⟩=>pv ?_)));subst ey;exact Qc L S M l (.inl rfl) λw' s3 I3 pN=>⟨v,_,I3,pN,q2⟩
theorem Ki(q:PE X o td)(he:PE X e ty)(hf:PE X tg tx)(m:M2 X o "pop" b8 e tg p):PE X (.Call (.Attribute o "pop" b8) [e,tg] [] p) (RV td ty tx):=by
 intro U s Z H Q I h;refine tK m.base m.V8 m.line qL sV PySem.F.type_dict_pop (eK (q U s Z H _ I h) λu s1 ⟨x,H1,g,M,a,ex,d,S⟩=>?_);subst ex;obtain rfl:u=Value.ref a:=M;obtain⟨t1,t2,_⟩:=A6 g d;refine⟨t1,t2,?_⟩;rw[m.trees];refine nF rfl (nJ (kL (eK (he U s1 Z H1 _ g S) λiv s2 ⟨y,H2,I2,n,q2⟩=>
  kL (eK (hf U s2 Z H2 _ I2 q2) λfv s3 ⟨z,H3,r,rz,kvs,k,L,ey,q3,q4⟩=>pv ?_))))
 subst ey;cases l:mU kvs k with
 |some v=>exact Qc r L n l (.inr ⟨fv,rfl⟩) λw' s4 b pN=>⟨v,_,b,pN,q3 v l⟩
 |none=>exact RO r L n l λs4 b=>⟨z,H3,b,rz,q4 l⟩
end
theorem zP:∀{vs:List Value} {ns:List Int},IntsAre vs ns->Vals (ns.map V.int) vs
 |_,_,.nil=>.nil
 |_,_,.cons n t h=>.cons ⟨t,rfl⟩ (zP h)
def RW(H:Hp):Prop:=∀b,H b=none\/∃o xs,H b=some (.lH o (.lst xs))
theorem Kj{mb:Str->Option Value}{CX:Cy}{fd:FuncData}{sp:Sp}{dk:Shared}{ns:List Int}
  (KX:K.In dk.heap) (RX:dk.heap.Ns mainGlobals mg) (hb:dk.heap.Ns builtinsNs mb) (hbb:∀x:Str,x≠"__name__"->mb x=bootBuiltins x) (aaI:dk.heap.NoLimit) (hg:dk.gens=#[])
  (ha:dk.heap.get? a=some {cls:=.type "list",data:=.seq aq.toArray}) (hi:IntsAre aq ns) (hl:ns.length<=sizeLine) (hr:di i callerA)
  (F:∀base:Heap,K.In base->base.Ns mainGlobals mg->eI P w K mg base CX i au fd [x] sp) (V_:∀(s:Shared) (u:Value),BindsTo s fd ⟨[u],[]⟩ [(x,u)])
  (J_:∀H:Hp,RW H->lR K H a (ns.map V.int)->sp [.ref a] H (λv _=>v=.bl true) λ_ _ _=>False)
  (hCX:∀H e s',CX [] H dk (λ_ _ _=>False) e s'->False):
  codeAny (model P w) callerA (.call (.ref au) ⟨[.ref a],[]⟩) (λr s'=>r=.ok (.ret (.bool true))/\OldK dk.heap s'.heap/\s'.os=dk.os/\AllBare s'.gens) dk:=by
 have rv:=zP hi;have L:=hi.length;have core:∀H:Hp,RW H->lR K H a (ns.map V.int)->r9 P w H dk.heap->(∀b,H b≠none->b=a)->(H a≠none->K.lookup a=none)->
   codeAny (model P w) callerA (.call (.ref au) ⟨[.ref a],[]⟩) (λr s'=>r=.ok (.ret (.bool true))/\OldK dk.heap s'.heap/\s'.os=dk.os/\AllBare s'.gens) dk:=by
  intro H hO hS cY hA hK;have Gj:∀{b:Addr} {o:Obj},dk.heap.get? b=some o->H b=none->(AN dk.heap H).get? b=some o:=λe n=>JH e n;have VY:∀{b:Addr} {o:Obj} {es:Array DictEntry} {ep:Nat},dk.heap.get? b=some o->o.data=.dict es ep->H b=none:=λ{b o es ep} e d=>by
   cases q:H b with
   |none=>rfl
   |some u=>
    have M:b=a:=hA b (by rw[q];simp);subst M;rw[ha]at e;cases e;have d':Data.seq aq.toArray _=Data.dict es ep:=d;cases d'
  have I:∀{b:Addr} {m:Str->Option Value},dk.heap.Ns b m->(AN dk.heap H).Ns b m:=λ{b m} ⟨o,es,ep,e,d,r⟩=>⟨o,es,ep,Gj e (VY e d),d,r⟩;have g:K.In (AN dk.heap H):=λb o e=>Gj (KX b o e) (by
   cases q:H b with
   |none=>rfl
   |some u=>
    have M:b=a:=hA b (by rw[q];simp);subst M;rw[hK (by rw[q];simp)]at e;cases e)
  have hM:Mod K mg (AN dk.heap H):=⟨g,I RX,⟨mb,I hb,hbb⟩,let⟨mc,h1,h2⟩:=aaI;⟨mc,I h1,h2⟩⟩;have e0:zl P w K mg (AN dk.heap H) callerA [] dk H:=⟨rfl,hM,λb o e=>Nb e,Nat.le_of_eq (HK _ _),trivial,λb hb=>absurd (show b∈([]:List Addr)from hb) (by simp),cY,.of_eq hg⟩;refine iH ((F _ g (I RX)).run callerA [] dk H ⟨[.ref a],[]⟩ [.ref a] [.ref a] _ _ hr e0 (V_ dk (.ref a)) (.cons rfl .nil) (J_ H hO hS)) λr s' h=>?_
  cases r with
  |error e=>exact(hCX H e s' h).elim
  |ok fl=>
   cases fl with
   |next=>exact False.elim h
   |brk=>exact False.elim h
   |cont=>exact False.elim h
   |ret u=>
    obtain⟨v,H',os,bare,un,S,r',q⟩:=h;have q':v=.bl true:=q;subst q';obtain rfl:u=Value.bool true:=r';refine⟨rfl,OldK.of_keep λb o e=>?_,os,bare⟩;cases q:H b with
    |none=>exact un.keep b o e q (by intro z;exact absurd (show b∈([]:List Addr)from z) (by simp)) (by simp)
    |some u=>
     rcases hO b with z|⟨ob,xs,z⟩
     ·rw[q]at z;cases z
     ·have z2:=un.lI b ob _ z;obtain⟨e1,_⟩:=cY b _ z;obtain⟨e2,_⟩:=S b _ z2;rw[e]at e1;cases e1;exact e2
 cases hk:K.lookup a with
 |some o=>
  have e:=KX a o hk;rw[ha]at e;cases e;refine core (λ_=>none) (λ_=>.inl rfl) (.inr ⟨_,aq.toArray,_,hk,rfl,rfl,rfl,by rw[cW,L];exact hl,by simpa using rv⟩) (λb u z=>by have l:(none:Option HO)=some u:=z;cases l) (λb z=>absurd rfl z) λz=>absurd rfl z
 |none=>
  refine core (λb=>if b=a then some (.lH {cls:=.type "list",data:=.seq aq.toArray} (.lst (ns.map V.int)))else none) (λb=>?_) (.inl (.inr ⟨{cls:=.type "list",data:=.seq aq.toArray},aW rfl⟩)) (λb u z=>?_) (λb z=>?_) λ_=>hk
  ·by_cases hb:b=a
   ·exact .inr ⟨_,_,aW hb⟩
   ·exact .inl (bc hb)
  ·by_cases hb:b=a
   ·have l:=(aW hb).symm.trans z;cases l;subst hb;exact⟨ha,by rw[bu];exact hl,aq,_,rv,ha⟩
   ·have l:=(bc hb).symm.trans z;cases l
  ·by_cases hb:b=a
   ·exact hb
   ·exact absurd (bc hb) z
def NL{l:PySem.W.OpenLaw}{n k:Nat}{XP:(Str->Option Value)->Heap->Prop}{YP:World->Heap->Prop}{d:DefRec}{K:Params->Frag}{CX:World->Cy}{sp:World->Sp}{x:Str}
  (hn:l.most=some n) (Rx:n<=sizeLine) (Vq:d.params.defaults=[]) (hr:di k callerA)
  (hY:∀(w:World) (h:Heap),YP w h->(K w.params).In h)
  (F:∀(w:World) (mg:Str->Option Value) (fa:Addr) (h:Heap),(K w.params).In h->h.Ns mainGlobals mg->mg d.name=some (.ref fa)->
   ∃fd:FuncData,(∀(s:Shared) (u:Value),BindsTo s fd ⟨[u],[]⟩ [(x,u)])/\
    ∀base:Heap,(K w.params).In base->base.Ns mainGlobals mg->eI l.prog w (K w.params) mg base (CX w) k fa fd [x] (sp w))
  (J_:∀(w:World) (H:Hp) (a:Addr) (ns:List Int),ns.length<=n->RW H->lR (K w.params) H a (ns.map V.int)->sp w [.ref a] H (λv _=>v=.bl true) λ_ _ _=>False)
  (q:∀(w:World) (H:Hp) (s:Shared) (e:Value) (s':Shared),CX w [] H s (λ_ _ _=>False) e s'->False):
  PySem.W.WalkO P ps XP YP l.row.toRowW d [] (λf vs=>PySem.call f vs):=by
 refine Att.Cq hn Vq λw gA L mg mb fa o pm cd doc a vs ns G M ho hd Es S Q6 hints r hg=>?_
 have I:=hY w _ M;obtain⟨fd,hb,hF⟩:=F w mg fa _ I G.T.g S;exact Kj I G.T.g G.T.b G.T.builtins G.T.nolimit hg Q6 hints (cF r Rx) hr hF hb (λH hO hS=>J_ w H a ns r hO hS) λH e s'=>q w H L e s'
noncomputable def wz(s:Stmt):Arguments:=match s with
 |.FunctionDef _ a _ _ _ _ _ _ _ _=>a
 |_=>{posonlyargs:=[],args:=[],vararg:=none,kwonlyargs:=[],kw_defaults:=[],kwarg:=none,defaults:=[]}
noncomputable def fZ(s:Stmt):List Stmt:=match s with
 |.FunctionDef _ _ b _ _ _ _ _ _ _=>b
 |_=>[]
noncomputable def bH(s:Stmt):Scope:=match s with
 |.FunctionDef _ _ _ _ _ _ sc _ _ _=>sc
 |_=>{kind:=.function,names:=[],isGenerator:=false,isCoroutine:=false}
abbrev mw:Cy:=fun _ _ _ _ _ _=>False
abbrev E0:XK:=fun _ _ _=>False
def Kk:Passes mw X E0:=λ_ _ _ _ _ _ _ h=>h.elim
structure zg(K:Frag)(x qual:Str)(st:Stmt)(f:Addr)(fd:FuncData):Prop where
 ex:∃(oc:Value) (od:Option Addr) (kV doc pm:Value) (an:Option Addr) (f_ ct:Value) (J9:Array (Option Value)),
  fd=PySem.W.fnOf x qual (wz st) (fZ st) (bH st) .none kV doc pm an f_ ct/\K.lookup f=some ⟨oc,od,.func fd,J9⟩/\PySem.W.codeIn K f_ qual=true
 kp:PySem.W.keepIn K (.ref f)=true
def zg.ok {qual:Str}{st:Stmt}{f:Addr}{fd:FuncData}{N:List Str}{k:Nat}{sp:Sp}(F:zg K x qual st f fd)(S:hW N ps (bH st))(len:∀vs H Q E,sp vs H Q E->vs.length=ps.length)
  (kW:∀(f_:Value) (A:Around) (outer:List Env) (s:Shared) (H:Hp) (vs:List V) (Q:VK) (E:XK),di k (A.deeper (envOfC qual (bH st) s.heap.objs.size f f_))->sp vs H Q E->
   ∃t,oU (oP mw P w K mg aa N qual (bH st) f f_ A outer s H E).Jz (fZ st) t/\t {nx:=λ_ H'=>Q .cA H',rt:=Q} (start N vs) H):eI P w K mg aa mw (k+1) f fd ps sp:=by
 obtain⟨n,od,kV,doc,pm,an,f_,ct,J9,rfl,lk,b⟩:=F.ex;refine P9 lk b S len λA outer s H vs Q E g l=>?_
 obtain⟨t,h,q⟩:=kW f_ A outer s H vs Q E g l;exact⟨t,h.Jz,q⟩
def zg.binds {qual:Str}{st:Stmt}{f:Addr}{fd:FuncData}(F:zg K x qual st f fd)
  (h:∀(kV doc pm:Value) (an:Option Addr) (f_ ct:Value) (us:List Value),us.length=ps.length->bindArgs (PySem.W.fnOf x qual (wz st) (fZ st) (bH st) .none kV doc pm an f_ ct) ⟨us,[]⟩=pure (ps.zip us)):Binds K fd ps []:=by
 obtain⟨b,od,kV,doc,pm,an,f_,ct,J9,rfl,lk,g⟩:=F.ex;exact .all (h kV doc pm an f_ ct)
theorem ba(q:di i A):A.units+1<cLine:=sZ (Nat.add_le_add_left (by decide:1<=64) _) q.units
def RY{A B:Prop}(h:B):if false=true then A else B:=by
 rw[bc fE];exact h
def RZ{A B:Prop}(h:A):if true=true then A else B:=by
 rw[aW rfl];exact h
def bg(H H':Hp):Prop:=∀b o,H b=some o->H' b=some o
def bg.refl (H:Hp):bg H H:=λ_ _ h=>h
def bg.trans {H1 H2:Hp}(a:bg H H1)(b:bg H1 H2):bg H H2:=λc o h=>b c o (a c o h)
def bg.free {H':Hp}(e:bg H H'){l:Addr}(h:H' l=Option.none):H l=Option.none:=by
 cases q:H l with
 |none=>rfl
 |some o=>
  rw[e l o q]at h;cases h
def bg.seq {H':Hp}{xs:List V}(e:bg H H')(h:lR K H a xs):lR K H' a xs:=by
 rcases h with(h|⟨o,h⟩)|h
 ·exact .inl (.inl (e _ _ h))
 ·exact .inl (.inr ⟨o,e _ _ h⟩)
 ·exact .inr h
theorem xQ{α β:Type}{f:α->β->Sem (ForInStep β)}{g:β->α->β}:∀(l:List α) (c:β),(∀x∈l,∀c,f x c=pure (.yield (g c x)))->forIn l c f=(pure (l.foldl g c):Sem β)
 |[],c,_=>rfl
 |x::l,c,h=>by
  rw[pw,h x cD,pure_bind];exact xQ l _ λy b=>h y (cu _ b)
noncomputable def l_(env:Env)(cs:List (Str×Addr))(x:Str×NameKind):List (Str×Addr):=if x.2== .free then(x.1,(env.cells.lookup x.1).getD 0)::cs else cs
def EJ(scope:Scope)(env:Env):List (Str×Addr):=scope.names.foldl (l_ env) []
def uk{env:Env}(h:∀x∈ax.names,x.2=.free->∃c,env.cells.lookup x.1=some c):closureFor ax env=pure (EJ ax env):=by
 simp only[closureFor];rw[xQ (g:=l_ env) ax.names [] (λx l c=>by
  obtain⟨n,k⟩:=x;by_cases b:k=.free
  ·subst b;obtain⟨a,ha⟩:=h _ l rfl;have r:env.cells.lookup n=some a:=ha;simp[cellOf,r,l_]
  ·have e:(k==NameKind.free)=false:=by simpa using b
   simp[e,l_])]
 rfl
theorem xR{env:Env}:∀(names:List (Str×NameKind)) (acc:List (Str×Addr)),(∀x∈names,x.2=.free->∃c,env.cells.lookup x.1=some c)->(∀x c,acc.lookup x=some c->env.cells.lookup x=some c)->
  ∀x c,(names.foldl (l_ env) acc).lookup x=some c->env.cells.lookup x=some c
 |[],_,_,ha,x,c,e=>ha x c e
 |(n,k)::r,acc,hf,ha,x,c,e=>by
  refine xR r (l_ env acc (n,k)) (λy g=>hf y (cu _ g)) (λy d b=>?_) x c e;unfold l_ at b;by_cases l:k=.free
  ·subst l;obtain⟨a,hn⟩:=hf (n,.free) cD rfl;have I:env.cells.lookup n=some a:=hn;simp only[bU,cw,I,ph,cN]at b;split at b
   ·rename_i g;have:y=n:=by simpa using g
    subst this;rw[I];exact b
   ·exact ha y d b
  ·have e:(k==NameKind.free)=false:=by simpa using l
   simp only[e,cK,cg]at b;exact ha y d b
theorem xT{env:Env}:∀(names:List (Str×NameKind)) (acc:List (Str×Addr)) (x:Str),((acc.lookup x).isSome=true\/(x,NameKind.free)∈names)->((names.foldl (l_ env) acc).lookup x).isSome=true
 |[],_,_,h=>h.elim (λz=>z) λz=>absurd z (by simp)
 |(n,k)::r,acc,x,h=>by
  refine xT r (l_ env acc (n,k)) x ?_
  unfold l_;rcases h with h|h
  ·left;split
   ·rw[cN];split<;>simp_all
   ·exact h
  ·rcases bG.mp h with h|h
   ·left;cases h;simp[cN]
   ·exact .inr h
theorem sg{env:Env}:∀{names:List (Str×NameKind)} {x:Str} {k:NameKind},(names.map λ(n,k)=>if(k==NameKind.free&&env.scope.kind== .function&&env.kindOf n==some .cell)then(n,NameKind.cell)else(n,k)).lookup x=some k->
  names.lookup x=some k\/names.lookup x=some .free
 |[],_,_,h=>by simp at h
 |(n,j)::r,x,k,h=>by
  simp only[bO]at h;by_cases g:x=n
  ·subst g;by_cases b:(j==NameKind.free&&env.scope.kind== .function&&env.kindOf x==some .cell)=true
   ·rw[aW b]at h;simp only[bW,fg]at b;right;rw[cN,bU,b.1.1]
   ·rw[bc b]at h;left;rw[cN,bU]at h⊢;exact h
  ·have e:(x==n)=false:=by simpa using g
   have h':(r.map λ(n,k)=>if(k==NameKind.free&&env.scope.kind== .function&&env.kindOf n==some .cell)then(n,NameKind.cell)else(n,k)).lookup x=some k:=by
    split at h<;>(rw[cN,e]at h;exact h)
   rcases sg h' with z|z
   ·left;rw[cN,e];exact z
   ·right;rw[cN,e];exact z
theorem um{env:Env}:∀{names:List (Str×NameKind)} {x:Str},names.lookup x=some .free->
  (names.map λ(n,k)=>if(k==NameKind.free&&env.scope.kind== .function&&env.kindOf n==some .cell)then(n,NameKind.cell)else(n,k)).lookup x=some .cell\/
  (names.map λ(n,k)=>if(k==NameKind.free&&env.scope.kind== .function&&env.kindOf n==some .cell)then(n,NameKind.cell)else(n,k)).lookup x=some .free
 |[],_,h=>by simp at h
 |(n,j)::r,x,h=>by
  simp only[bO];by_cases b:x=n
  ·subst b;rw[cN,bU]at h;have l:j=.free:=Option.some.inj h;by_cases g:(j==NameKind.free&&env.scope.kind== .function&&env.kindOf x==some .cell)=true
   ·left;rw[aW g,cN,bU]
   ·right;rw[bc g,cN,bU,l]
  ·have e:(x==n)=false:=by simpa using b
   rw[cN,e]at h;rcases um (env:=env) h with z|z
   ·left;split<;>(rw[cN,e];exact z)
   ·right;split<;>(rw[cN,e];exact z)
def uo(X:Cx)(scope:Scope)(N:List Str)(s:Shared)(H:Hp)(ex:List Addr):Cx where
 prog:=X.prog
 w:=X.w
 K:=X.K
 mg:=X.mg
 base:=X.base
 A:=X.A
 N:=N
 gA:=s
 Ct:=H
 env:=compEnvC scope (EJ scope X.env) s.heap.objs.size X.env
 outer:=X.stack
 stack:=X.stack
 ex:=ex
 fn:=λ_=>false
 calm:=X.calm
 pn:=[]
 xe:=λ_ _=>False
noncomputable def V'(N N':List Str)(ix:List (Option Nat))(sc scope:Scope):Bool:=
 decide (N'.length=ix.length)&&(N'.zip ix).all (λp=>match p.2 with
  |none=>true
  |some j=>decide (N[j]?=some p.1)&&decide (scope.names.lookup p.1=some .free))&&
 scope.names.all (λy=>y.2 != .cell&&(y.2 != .free||decide (sc.names.lookup y.1=some .cell))&&(y.2 != .local||decide (scope.names.lookup y.1=some .local)))&&(scope.kind== .function)
structure gY(X:Cx)(N':List Str)(ix:List (Option Nat))(scope:Scope):Prop where
 len:N'.length=ix.length
 free:∀(i:Nat) (x:Str) (j:Nat),N'[i]?=some x->ix[i]?=some (some j)->X.N[j]?=some x/\scope.names.lookup x=some .free
 Kl:∀y∈scope.names,y.2≠ .cell
 cell:∀y∈scope.names,y.2=.free->X.env.scope.names.lookup y.1=some .cell
 loc:∀y∈scope.names,y.2=.local->scope.names.lookup y.1=some .local
 kind:scope.kind=.function
def gY.of {N N':List Str}{ix:List (Option Nat)}{sc scope:Scope}(hN:X.N=N)(hs:X.env.scope=sc)(h:V' N N' ix sc scope=true):gY X N' ix scope:=by
 unfold V' at h;simp only[bW,iD,dH]at h;obtain⟨⟨⟨l,h2⟩,g⟩,n⟩:=h;refine⟨l,λi x j r I=>?_,λy b z=>?_,λy b z=>?_,λy b z=>?_,by simpa using n⟩
 ·have m:(x,some j)∈N'.zip ix:=d7 (i:=i) (by rw[List.getElem?_zip_eq_some];exact⟨r,I⟩);have q:=h2 _ m;simp only[bW,iD]at q;rw[hN];exact q
 ·have q:=(g y b).1.1;rw[z]at q;simp at q
 ·have q:=(g y b).1.2;rw[z]at q;simp only[tm,jE,iD]at q;rw[hs];exact q
 ·have q:=(g y b).2;rw[z]at q;simp only[tm,jE,iD]at q;exact q
noncomputable def ju(ix:List (Option Nat))(Z:St):St:=ix.map λo=>o.bind λj=>(Z[j]?).join
theorem EK{ix:List (Option Nat)}{fp:List Addr}(L:gY X ps ix ax)(I:Inv X U Z H s)
  (RX:aa.Ns s.heap.objs.size (λ_=>none)) (NM:∀b o,s.heap.get? b=some o->aa.get? b=some o)
  (hf:∀b∈fp,kU X U H b) (hfo:∀b∈fp,b<s.heap.objs.size):Inv (uo X ax ps s H fp) [] (ju ix Z) H {s with heap:=aa,toks:=az}:=by
 have xU:∀y∈ax.names,y.2=.free->∃c,X.env.cells.lookup y.1=some c:=λy hy z=>I.ok.has y.1 (.inl (L.cell y hy z));have sub:∀x c,(EJ ax X.env).lookup x=some c->X.env.cells.lookup x=some c:=xR ax.names [] xU (λx c e=>by simp at e);have has:∀x,ax.names.lookup x=some .free->∃c,(EJ ax X.env).lookup x=some c:=λx e=>
  sP.mp (xT ax.names [] x (.inr (lN e)))
 have M0:∀b∈fp,b∉kc X.stack:=λb hb z=>by
  obtain⟨_,f1,f2,_⟩:=hf b hb;rcases bG.mp (I.xC b z)with q|q
  ·exact f1 q
  ·exact f2 q
 refine⟨⟨I.ok.mod,L.kind,I.ok.glob,I.ok.blt,bz _,λx y c M g=>I.ok.inj x y c (sub x c M) (sub y c g),λx S=>?_,λx c z=>absurd (show false=true from z) fE,I.ok.hd,I.ok.frames,.inl rfl,
   λb hb=>⟨cc (hfo b hb),λx c e=>(hf b hb).2.2.2.2.1 x c (sub x c e)⟩,I.bs,cF I.ok.HL I.sz,λb o e hb=>?_,M0,I.stack,I.wx⟩,
  rfl,I.bare,Un.kept NM,⟨_,RX,λi x v M g e3=>?_⟩,λx c e=>?_,I.fresh,λx c e=>I.f' x c (sub x c e),λp hp=>absurd (show p∈([]:List (Addr×Obj))from hp) (by simp),I.cY.kept NM,?_⟩
 ·have S:(relabel ax X.env).names.lookup x=some .cell\/(relabel ax X.env).names.lookup x=some .free:=S;have F2:ax.names.lookup x=some .free:=by
   rcases S with z|z
   ·rcases sg z with q|q
    ·exact absurd rfl (L.Kl _ (lN q))
    ·exact q
   ·rcases sg z with q|q
    ·exact q
    ·exact q
  exact has x F2
 ·obtain⟨_,_,_,q,_⟩:=hf b hb;rcases q with q|q
  ·exact I.ok.AO b o e q
  ·exact absurd (dh (bx (I.ok.bs b o e).1) q) (eV _)
 ·
  unfold ju at g;rw[ck]at g;cases eo:ix[i]? with
  |none=>rw[eo]at g;cases g
  |some o=>
   rw[eo]at g;cases o with
   |none=>exact absurd (show(some none:Option (Option V))=some (some v)from g) (by simp)
   |some j=>
    obtain⟨n1,n2⟩:=L.free i x j M eo;have n:(Z[j]?).join=some v:=Option.some.inj (show some ((Z[j]?).join)=some (some v)from g);have e4:Z[j]?=some (some v):=by
     cases q:Z[j]? with
     |none=>rw[q]at n;cases n
     |some z=>
      rw[q]at n;have:z=some v:=n;rw[this]
    have Gk:X.env.scope.names.lookup x=some .cell:=L.cell _ (lN n2) rfl;obtain⟨m,hn,hl⟩:=I.loc;obtain⟨u,r,l⟩:=hl j x v n1 e4 (.inr (.inl Gk));refine⟨u,r,?_⟩;rcases l with⟨k,_⟩|⟨k,c,ec,z⟩
    ·have k':X.env.scope.names.lookup x=some .local:=k;rw[Gk]at k';cases k'
    ·obtain⟨c',VC⟩:=has x n2;have ecc:c'=c:=by
      have q:=sub x c' VC;rw[ec]at q;exact(Option.some.inj q).symm
     subst ecc;refine .inr ⟨?_,c',VC,?_⟩
     ·exact um n2
     ·obtain⟨o',Nc,Nd⟩:=z;exact⟨o',NM _ _ Nc,Nd⟩
 ·obtain⟨v,o,ho,hd⟩:=I.cell x c (sub x c e);exact⟨v,o,NM _ _ ho,hd⟩
 ·show(ju ix Z).length=ps.length;unfold ju;rw[bu];exact L.len.symm
noncomputable abbrev Gm(ifs:List Expr)(env:Env):Sem Bool:=forIn ifs true fun c r=>if r=true then do let ok<-isTrue c env (eval c env);pure (ForInStep.yield ok)else pure (ForInStep.yield r)
theorem NN{acc:Value}{env:Env}(I:Nat->Shared->Prop)
  (turn:∀n s,I n s->wpAny (model P w) A (pyNext af) (λr q=>match r with
   |none=>aw (.ok .next) q
   |some v=>wpAny (model P w) A (letOwnedTupleGo o af v) (λ_ Qd=>wpAny (model P w) A (assign o env v) (λ_ ua=>
     wpAny (model P w) A (Gm es env) (λok CF=>
      if ok=true then wpAny (model P w) A (eval e env) (λx NO=>
       wpAny (model P w) A (call (.builtin "list.append") [acc,x]) (λ_ Wa=>∃m,m<n/\I m Wa) (λ_ _=>False) NO) (λ_ _=>False) CF
      else∃m,m<n/\I m CF) (λ_ _=>False) ua) (λ_ _=>False) Qd) (λ_ _=>False) q) (λ_ _=>False) s)
  (n:Nat) (h:I n s):codeAny (model P w) A (.compLoop (.ListComp e [⟨o,tg,es,0⟩] ax pos) 0 af acc env) aw s:=by
 refine codeAny_loop rfl I (λn s l=>?_) n h;show wpAny _ A ((compTurn (.ListComp e [⟨o,tg,es,0⟩] ax pos) 0 af acc env).onRaise (λx=>do noteFrame x env;theTreesLotGoes x)) _ _ s;refine wpAny_noted ?_
 rw[compTurn_list];refine aT (wpAny_standAt (aT (d_ (turn n s l) (λr q b=>?_) λ_ _ f=>f.elim)));cases r with
 |none=>exact bf b
 |some v=>
  refine aT (d_ b (λ_ Qd L=>?_) λ_ _ f=>f.elim);refine aT (d_ L (λ_ ua M=>aT (d_ M (λok CF g=>?_) λ_ _ f=>f.elim)) λ_ _ f=>f.elim);cases ok with
  |false=>exact bf ⟨rfl,g⟩
  |true=>exact aT (aT (d_ g (λx NO S=>aT (d_ S (λ_ Wa rD=>bf (bf ⟨rfl,rD⟩)) λ_ _ f=>f.elim)) λ_ _ f=>f.elim))
def PF(X:Cx)(ifs:List Expr)(t:TT):Prop:=
 ∀(U:List (Addr×Obj)) (s:Shared) (Z:St) (H:Hp) (Q:Bool->Hp->Prop),Inv X U Z H s->t Z H Q->wpAny (model X.prog X.w) X.A (Gm ifs X.env) (TP X U Z Q) X.xe s
def R3:PF X [] (λ_ H Q=>Q true H):=λ_ _ _ H _ I h=>wpAny_tests_nil ⟨H,I,h⟩
theorem R4{t:TT}(h:PT X e t):PF X [e] t:=λU s Z H Q I q=>wpAny_tests_one (h U s Z H Q I q)
def LcW(J:It)(D:Addr)(q:St)(H0:Hp)(g:TG)(tc:TT)(te:TE)(Q:Hp->Prop):Prop:=
 ∃W:Nat->Nat->St->Hp->Prop,(∃m,W 0 m q H0)/\∀i m Z H,W i m Z H->(J.stop i H/\Q H)\/
  (J.go i H/\∃N:St->Hp->Prop,(∀n H',N n H'->∃r,r<m/\W (i+1) r n H')/\∀x H',J.F8 i H x H'->g x Z H' λl H2=>tc l H2 λb I=>
    if b=true then te l I λy L=>∃ys,L D=some (.lst ys)/\ys.length<sizeLine/\N l (upd L D (.lst (ys++[y])))else N l I)
def U7(q:TI)(ix:List (Option Nat))(g:TG)(tc:TT)(te:TE):TE:=λZ H Q=>q Z H λJ H1=>∀D,H1 D=none->LcW J D (ju ix Z) (upd H1 D (.lst [])) g tc te λH'=>Q (.ref D) H'
section
variable {scope:Scope}{ix:List (Option Nat)}{elt:Expr}{g:TG}{tc:TT}{te:TE}
theorem Gn{use:Option (Value->Sem Unit)}{QD:Addr->Hp->Prop}{s2:Shared}{fp:List Addr}{tn:Nat->Heap->Prop}{J:It}
  (L:gY X ps ix scope) (hc:X.calm=true) (lJ:∀s H ex,PG (uo X scope ps s H ex) tg g/\PF (uo X scope ps s H ex) aA tc/\PE (uo X scope ps s H ex) elt te)
  (I2:Inv X U Z ac s2) (T:Turn X.prog X.w X.K tg J fp a tn) (Nl:tn 0 s2.heap) (f2:∀b∈fp,kU X U ac b)
  (hw:∀D,ac D=none->LcW J D (ju ix Z) (upd ac D (.lst [])) g tc te (QD D))
  (aaL:∀D C H' s' m,Inv X U Z H' s'->kU X U H' C->s'.heap.Ns C m->QD D H'->compPost (model X.prog X.w) X.A X.xe use E (.ref D) C (.ok .next) s'):
  wpAny (model X.prog X.w) X.A (newList []) (λacc CF=>wpAny (model X.prog X.w) X.A (newFunctionEnv scope X.env.globals (EJ scope X.env) [] X.env.qual none .none (some X.env)) (λWc NO=>
   codeAny (model X.prog X.w) X.A (.compStart (.ListComp elt [⟨tg,am,aA,0⟩] scope pos) 0 (.ref a) acc {Wc with scope:=relabel scope X.env}) (compPost (model X.prog X.w) X.A X.xe use E acc Wc.locals) NO) X.xe CF) X.xe s2:=by
 refine kM (wpAny_newFunctionEnv L.Kl (by intro y hy;simp at hy) (λgc EL EM=>?_) L.kind);dsimp only at EL EM⊢;have hD:ac s2.heap.objs.size=none:=I2.fresh;have I3:Inv X U Z (upd ac s2.heap.objs.size (.lst [])) {s2 with heap:=s2.heap.push {cls:=.type "list",data:=.seq ([]:List Value).toArray},toks:=s2.toks}:=I2.ND (cy:=[]) .nil (d9 _);generalize hs3:({s2 with heap:=s2.heap.push {cls:=.type "list",data:=.seq ([]:List Value).toArray},toks:=s2.toks}:Shared)=s3 at I3;have e3:({s2 with heap:=s2.heap.push {cls:=.type "list",dict:=none,data:=.seq ([]:List Value).toArray}}:Shared)=s3:=hs3;have eh:s2.heap.push {cls:=.type "list",dict:=none,data:=.seq ([]:List Value).toArray}=s3.heap:=cX Shared.heap e3;have eos:s3.os=s2.os:=by rw[<-e3]
 have ek:∀b o,s2.heap.get? b=some o->s3.heap.get? b=some o:=λb o e=>by rw[<-eh];exact bR _ e
 have R5:s2.heap.objs.size<=s3.heap.objs.size:=by rw[<-eh,jD];exact pH _
 rw[eh]at EL EM⊢;have f3:∀b∈fp,kU X U (upd ac s2.heap.objs.size (.lst [])) b:=λb hb=>by
  obtain⟨o,eo,_⟩:=T.obj _ _ Nl b hb;refine⟨?_,(f2 b hb).2⟩;rw[bp (cc (bx eo))];exact(f2 b hb).1
 have AL:∀b∈fp,b<s3.heap.objs.size:=λb hb=>by
  obtain⟨o,eo,_⟩:=T.obj _ _ Nl b hb;exact dh (bx eo) R5
 have k4:∀b o,s3.heap.get? b=some o->gc.get? b=some o:=λb o e=>EM.extBut b o (cc (bx e)) (bR _ e);have st4:tn 0 gc:=T.keep _ _ _ Nl λb _ o e=>k4 b o (ek b o e);obtain⟨W,⟨m0,w0⟩,turn⟩:=hw s2.heap.objs.size hD;have I4:∀l,Inv (uo X scope ps s3 (upd ac s2.heap.objs.size (.lst [])) fp) [] (ju ix Z) (upd ac s2.heap.objs.size (.lst [])) {s3 with heap:=gc,toks:=l}:=λl=>
  EK L I3 EL k4 f3 AL
 obtain⟨hg,hf,he⟩:=lJ s3 (upd ac s2.heap.objs.size (.lst [])) fp;have Ey:∀{H':Hp},(∀b∈fp,H' b=none)->∀b∈fp,kU (uo X scope ps s3 (upd ac s2.heap.objs.size (.lst [])) fp) [] H' b:=λ{H'} hn b hb=>by
  have ok:=(I4 0).ok;obtain⟨x1,x2⟩:=ok.U2 b hb;exact⟨hn b hb,x1,ok.Cu b hb,.inl hb,x2,λp hp=>absurd (show p∈([]:List (Addr×Obj))from hp) (by simp)⟩
 have loop:∀l,codeAny (model X.prog X.w) X.A (.compLoop (.ListComp elt [⟨tg,am,aA,0⟩] scope pos) 0 (.ref a) (.ref s2.heap.objs.size) (compEnvC scope (EJ scope X.env) s3.heap.objs.size X.env))
   (compPost (model X.prog X.w) X.A X.xe use E (.ref s2.heap.objs.size) s3.heap.objs.size) {s3 with heap:=gc,toks:=l}:=λl=>by
  refine NN (λn s'=>∃i dF H',Inv (uo X scope ps s3 (upd ac s2.heap.objs.size (.lst [])) fp) [] dF H' s'/\tn i s'.heap/\(∀b∈fp,H' b=none)/\W i n dF H') ?_ m0
   ⟨0,_,_,I4 l,st4,λb hb=>(f3 b hb).1,w0⟩
  rintro n s5 ⟨i,ZK,S,I5,U3,ZH,w5⟩
  rcases turn i n ZK S w5 with⟨stop,qn⟩|⟨go,N,hN,step⟩
  ·refine eK (T.done (uo X scope ps s3 (upd ac s2.heap.objs.size (.lst [])) fp) rfl rfl rfl hc i [] s5 ZK S _ I5 (Ey ZH) U3 stop) λr s6 ⟨hr,q⟩=>?_
   subst hr;have u:Un (kc X.stack) fp ac S s2.heap s6.heap:=(Un.laid (o:=.lst []) ek (bz _) hD).trans q.base;have J6:Inv X U Z S s6:=I2.VD (ch:=fp) (q.os.trans eos) u q.cY q.bare λb hb=>by
    obtain⟨_,x1,_,x3,x4,x5⟩:=f2 b hb;exact⟨x3,x1,x4,x5⟩
   obtain⟨m,hm,_⟩:=q.loc;exact aaL _ _ S s6 m J6 (I2.xE R5 q.free) hm qn
  ·refine eK (T.item (uo X scope ps s3 (upd ac s2.heap.objs.size (.lst [])) fp) rfl rfl rfl hc i [] s5 ZK S _ I5 (Ey ZH) U3 go) λr s6 ⟨v,hr,h6⟩=>?_
   subst hr;refine eK h6 λ_ s7 ⟨x,H7,I7,r7,y7,I,fr7⟩=>?_
   have I7':=I7.pinned (Ey fr7) (T.obj _ _ I);refine eK (hg _ s7 ZK H7 x v _ I7' r7 (step x H7 y7)) λ_ s8 ⟨ZM,H8,I8,q8⟩=>?_
   have again:∀{Wd:St} {M:Hp} {s9:Shared},Inv (uo X scope ps s3 (upd ac s2.heap.objs.size (.lst [])) fp) ([]++xG fp s7.heap) Wd M s9->N Wd M->
     ∃m,m<n/\∃i dF H',Inv (uo X scope ps s3 (upd ac s2.heap.objs.size (.lst [])) fp) [] dF H' s9/\tn i s9.heap/\(∀b∈fp,H' b=none)/\W i m dF H':=λ{Wd M s9} I9 n9=>by
    obtain⟨m',hm,w9⟩:=hN Wd M n9;refine⟨m',hm,i+1,Wd,M,I9.t_,T.keep _ _ _ I λb hb o e=>(I9.pin (b,o) (dG _ (dG _ (nN hb e)))).1,λb hb=>?_,w9⟩;obtain⟨o,e,d⟩:=T.obj _ _ I b hb;exact(I9.pin (b,o) (dG _ (dG _ (nN hb e)))).2.1
   refine eK (hf _ s8 ZM H8 _ I8 q8) λok s9 ⟨M,I9,q9⟩=>?_
   cases ok with
   |false=>exact again I9 q9
   |true=>
    refine eK (he _ s9 ZM M _ I9 q9) λy s10 ⟨v10,H10,I10,r10,ys,hy,hz,n10⟩=>?_
    refine eK (i8 _ s10 ZM H10 (.ref s2.heap.objs.size) [v10] (.ref s2.heap.objs.size) [y] (λ_ H'=>N ZM H') I10 rfl (.cons r10 .nil) ⟨_,ys,v10,rfl,rfl,hy,hz,n10⟩) λ_ s11 ⟨_,H11,I11,_,q11⟩=>?_
    exact again I11 q11
 have es:∀l,({s2 with heap:=gc,toks:=l}:Shared)={s3 with heap:=gc,toks:=l}:=λl=>by rw[<-e3]
 have Qe:∀l,codeAny (model X.prog X.w) X.A (.compLoop (.ListComp elt [⟨tg,am,aA,0⟩] scope pos) 0 (.ref a) (.ref s2.heap.objs.size) (compEnvC scope (EJ scope X.env) s3.heap.objs.size X.env))
   (compPost (model X.prog X.w) X.A X.xe use E (.ref s2.heap.objs.size) s3.heap.objs.size) {s2 with heap:=gc,toks:=l}:=λl=>by
  rw[es l];exact loop l
 exact codeAny_compStart_list (Qe _) (T.self _ 0 _ _ _ st4 (Qe _))
theorem Km{wi:TI}(L:gY X ps ix scope)(hc:X.calm=true)(hi:PI X tg am wi)(lJ:∀s H ex,PG (uo X scope ps s H ex) tg g/\PF (uo X scope ps s H ex) aA tc/\PE (uo X scope ps s H ex) elt te)
  (hs:∀x,foldedSetIterable am X.env x=pure x:=by intro _;rfl):PE X (.ListComp elt [⟨tg,am,aA,0⟩] scope pos) (U7 wi ix g tc te):=by
 intro U s Z H Q I h;have l:∀y∈scope.names,y.2=.free->∃c,X.env.cells.lookup y.1=some c:=λy n z=>I.ok.has y.1 (.inl (L.cell y n z));rw[eval_ListComp];refine wpAny_comprehension_free (use:=none) rfl hs (uk l) L.kind L.loc (eK (hi U s Z H _ I h) λv s1 r=>eK r λZF s2 h2=>?_);obtain⟨it,fp,tn,J,H2,e,M,T,S,f2,hw⟩:=h2;subst e;refine Gn (QD:=λD H'=>Q (.ref D) H') L hc lJ M T S f2 hw λD C H' s' m I' fC hm q=>⟨m,hm,λh' NM=>?_⟩;obtain⟨x0,x1,x2,x3,x4,x5⟩:=fC;exact⟨.ref D,H',I'.turned (t':=s'.toks) (λb o hb e=>(NM.2 b hb).trans e) x0 x1 x3 x4 x5,rfl,q⟩
def xV{wi:TI}(L:gY X ps ix scope)(hc:X.calm=true)(hN:X.N.Nodup)(hi:X.N[i]?=some x)(hx:Loc X.env.scope x)(hit:PI X tg am wi)
  (lJ:∀s H ex,PG (uo X scope ps s H ex) tg g/\PF (uo X scope ps s H ex) aA tc/\PE (uo X scope ps s H ex) elt te)
  (HZ:swapsWith (.ListComp elt [⟨tg,am,aA,0⟩] scope pos) (some (.Name x p)) b8.line X.env=pure true:=by rfl)
  (hs:∀x,foldedSetIterable am X.env x=pure x:=by intro _;rfl) (hf:zf X x:=by first|exact .inl rfl|exact .inr rfl|assumption):
  PS X (.Assign [.Name x p] (.ListComp elt [⟨tg,am,aA,0⟩] scope pos) b8) (λD Z H=>U7 wi ix g tc te Z H λv H'=>D.nx (Z.set i (some v)) H'):=by
 intro U s Z H D I h;have xU:∀y∈scope.names,y.2=.free->∃c,X.env.cells.lookup y.1=some c:=λy hy z=>I.ok.has y.1 (.inl (L.cell y hy z));rw[exec_Assign_Name_used _ _ _ _ HZ];refine aT (wpAny_standAt (aT ?_));show wpAny _ X.A (do let _<-comprehension (.ListComp elt [⟨tg,am,aA,0⟩] scope pos) scope X.env _ (newList []) false (eval am X.env) (some (assign (.Name x p) X.env))) _ _ s;refine aT (d_ (wpAny_comprehension_free (use:=some (assign (.Name x p) X.env)) (Q:=λ_ s'=>SP X U D .next s') rfl hs (uk xU) L.kind L.loc
  (eK (hit U s Z H _ I h) λv s1 h1=>eK h1 λZF s2 h2=>?_)) (λ_ s' hq=>bf (bf hq)) λ_ _ e=>e)
 obtain⟨it,fp,tn,J,H2,e,I2,T,Nl,f2,hw⟩:=h2;subst e;refine Gn (QD:=λl H'=>D.nx (Z.set i (some (.ref l))) H') L hc lJ I2 T Nl f2 hw λl C H' s' m I' fC hm q=>?_
 obtain⟨x0,S,x2,x3,x4,x5⟩:=fC;show wpAny _ X.A (assign (.Name x p) X.env (.ref l)) _ _ _;refine wpAny_assign_Name (zG I' hN hi hx (v:=.ref l) rfl (λRF n zF=>?_) hf);obtain⟨a,NM,ha⟩:=zF;have r:C≠a:=by
  rcases ha with ha|ha
  ·rw[ha];exact S
  ·exact λz=>x4 _ _ ha z.symm
 refine⟨m,hm.sameBut NM r,λh' M=>?_⟩;exact⟨_,H',n.turned (t':=RF.toks) (λb o hb e=>(M.2 b hb).trans e) x0 S x3 x4 x5,q⟩
end
def ZN(z:Str):It:=⟨λi _=>i<z.cps.size,λi H x H'=>H'=H/\∃c,z.cps[i]?=some c/\x=.str ⟨#[c]⟩,λi _=>i=z.cps.size⟩
theorem CJ{t:Tok}{it:Addr}{n:String}(hn:["enumerate","zip","dict_itemiterator","dict_reverseitemiterator","odict_iterator","itertools.zip_longest","itertools.pairwise"].contains n=false)
  (W:∀A':Around,A'.handled=none->Walks P w A' it [it] [it] x.cps.size (SignAt x) (λi h=>h.IsStrIter it n x t i))
  (self:∀(A:Around) (i:Nat) (s:Shared) (Q:Value->Shared->Prop) (E:Value->Shared->Prop),s.heap.IsStrIter it n x t i->Q (.ref it) s->wpAny (model P w) A (pyIter (.ref it)) Q E s):
  Turn P w K tg (ZN x) [it] it (λi h=>h.IsStrIter it n x t i) where
 mem:=by simp
 obj:=λi h st b hb=>by
  have e:b=it:=by simpa using hb
  subst e;obtain⟨o,e,c,d⟩:=st;exact⟨o,e,λv q=>by rw[d]at q;cases q⟩
 keep:=λi h h' st k=>by
  obtain⟨o,e,c,d⟩:=st;exact⟨o,k it (by simp) o e,c,d⟩
 item:=by
  intro X g hw l r i U s Z H E I hf st L;subst g hw l;obtain⟨f0,f1,f2,M,f4,S⟩:=hf it (by simp);refine(W X.A (I.ok.hd r)).item i s _ _ L st λv h' tk hv xF kk=>?_
  obtain⟨c,u,hcu,rfl⟩:=hv;have I1:Inv X U Z H {s with heap:=h',toks:=tk}:=I.turned (λb o hb e=>kk b o (by simpa using hb) e) f0 f1 M f4 S;obtain⟨o,e,cl,d⟩:=id xF;exact⟨_,rfl,zH (s:={s with heap:=h',toks:=tk}) e cl d hn ⟨.str ⟨#[c]⟩,H,I1,⟨u,rfl⟩,⟨rfl,c,hcu,rfl⟩,xF,λb hb=>(hf b hb).1⟩⟩
 done:=by
  intro X g hw l r i U s Z H E I hf st L;subst g hw l;obtain⟨f0,f1,f2,M,f4,S⟩:=hf it (by simp);have e:i=x.cps.size:=L;subst e;exact(W X.A (I.ok.hd r)).done s _ _ st λh' tk kk=>⟨rfl,I.turned (λb o hb e=>kk b o (by simpa using hb) e) f0 f1 M f4 S⟩
 self:=self
theorem lR.upd {xs:List V}{o:HO}(q:H au=none)(h:lR K H a xs):lR K (upd H au o) a xs:=by
 rcases h with(h|⟨b,h⟩)|h
 ·exact .inl (.inl (by rw[bp (bS h q)];exact h))
 ·exact .inl (.inr ⟨b,by rw[bp (bS h q)];exact h⟩)
 ·exact .inr h
theorem js.upd {xs:List V}{o:HO}(q:H au=none)(h:js K H a xs):js K (upd H au o) a xs:=by
 rcases h with(h|⟨b,h⟩)|h
 ·exact .inl (.inl (by rw[bp (bS h q)];exact h))
 ·exact .inl (.inr ⟨b,by rw[bp (bS h q)];exact h⟩)
 ·exact .inr h
theorem H_:u6 X (compareOp .LtE) (λx y H Q=>∃i j,x=.str i/\y=.str j/\Q (.bl (!(decide (j.cps.toList<i.cps.toList)))) H):=by
 intro U s Z H x y v u Q I b g h;obtain⟨i,j,rfl,rfl,q⟩:=h;obtain⟨t,rfl⟩:=b;obtain⟨t',rfl⟩:=g;exact PySem.P.le_str (u7 I q rfl)
theorem R6:u6 X (compareOp .Is) (λx y H Q=>∃c d,x=.bl c/\y=.bl d/\Q (.bl (c==d)) H):=by
 intro U s Z H x y v u Q I b g h;obtain⟨c,d,rfl,rfl,q⟩:=h;cases b;cases g;exact is_bool (u7 I q rfl)
theorem NP:u6 X (binaryOp .Mult) (λx y H Q=>∃z n,x=.str z/\y=.int n/\MulOk z n/\Q (.str (Txt.mul z n)) H):=by
 intro U s Z H x y v u Q I b g h;obtain⟨z,n,rfl,rfl,cY,q⟩:=h;obtain⟨t,rfl⟩:=b;obtain⟨t',rfl⟩:=g;exact SB.mul cY λt' k=>⟨.str _,H,I.tok _,⟨_,rfl⟩,q⟩
theorem Kn(hc:X.calm=true):gL X (.builtin "all") (λxs H Q=>∃(p:Addr) (bs:List Bool),xs=[.ref p]/\lR X.K H p (bs.map V.bl)/\Q (.bl (bs.all id)) H):=by
 intro U s Z H xs us Q I r h;obtain⟨p,bs,rfl,L,q⟩:=h;obtain⟨u,rfl,S⟩:=vals1 r;cases(show u=Value.ref p from S);obtain⟨cy,rv,pl,hz⟩:=I.list L;have hb:cy=bs.map Value.bool:=by
  clear hz pl L q I
  induction bs generalizing cy with
  |nil=>cases rv;rfl
  |cons b r ih=>
   cases rv with
   |cons r1 r2=>
    rw[bO,<-ih _ (by exact r2)];cases(show _=Value.bool b from r1)
    rfl
 subst hb;have gB:p<s.heap.objs.size:=by obtain⟨o,n,e,_⟩:=pl;exact bx e
 refine call_all_walk (kN pl.isList ?_);refine⟨s.heap.objs.size,[s.heap.objs.size,p],[s.heap.objs.size],(bs.map Value.bool).toArray.size,_,_,λi=>(bs[i]?).getD true,rfl,Walks.list (A:=X.A.in1) (I.ok.hd hc) _ p (cc gB) _,
  ⟨⟨_,cz _ rfl,rfl,rfl⟩,pl.isList.push _⟩,λi v s' Q' E' hP M=>?_,λh' tk hk=>?_⟩
 ·have g:(bs.map Value.bool)[i]?=some v:=by simpa using hP
  rw[ck]at g;cases l:bs[i]? with
  |none=>rw[l]at g;cases g
  |some b=>
   rw[l]at g;cases g;simp only[l,ph]at M;exact pq M
 ·have e:((List.range (bs.map Value.bool).toArray.size).all λi=>(bs[i]?).getD true)=bs.all id:=by
   rw[cW,bu];exact LSm.range_all bs
  rw[e];exact⟨.bl _,H,I.kept (LSm.kept_iter hk),rfl,q⟩
def bg.tup {H':Hp}{xs:List V}(e:bg H H')(h:js K H a xs):js K H' a xs:=by
 rcases h with(h|⟨o,h⟩)|h
 ·exact .inl (.inl (e _ _ h))
 ·exact .inl (.inr ⟨o,e _ _ h⟩)
 ·exact .inr h
theorem bg.upd {o:HO}(q:H a=none):bg H (upd H a o):=λb u e=>by rw[bp (bS e q)];exact e
def bg.A7 {H':Hp}{D:Addr}{o:HO}(s:bg H H')(q:H D=none):bg H (L2.upd H' D o):=λb u e=>by rw[bp (bS e q)];exact s b u e
structure zQ(K:Frag)(mg:Str->Option Value)(x:Str)(st:Stmt)(ps:List Str)(f:Addr)(fd:FuncData):Prop where
 fn:zg K x x st f fd
 bd:Binds K fd ps []
 mg:mg x=some (.ref f)
def R7{fd:FuncData}{sp:Sp}{t:TA}(D:zQ X.K X.mg x ai ps a fd)(G:eI X.prog X.w X.K X.mg X.base mw i a fd ps sp)(hr:di i X.A)
  (ha:PA X (e::es) t) (hg:Gl X x:=by rfl) (fM:Db x:=by decide) (he:starEach (e::es) X.env=(false,eval e X.env)::starEach es X.env:=by rfl)
  (oO:(backTo pos (starEach es X.env)).any (·.1)=false:=by rfl):PE X (.Call (.Name x p) (e::es) [] pos) (P6 sp [] E0 t):=by
 have q:=F_ (p:=p) (pos:=pos) G hr hg D.mg D.fn.kp D.bd .nil Kk ha (fM:=fM) (he:=he) (oO:=oO);exact q
def aaN:V->Option Int->Option Int->Hp->VK->Prop:=λx lo hi H Q=>∃z,x=.str z/\z.length<=sizeLine/\Q (.str (Txt.slice z lo hi)) H
theorem R8:U4 X aaN:=by
 intro U s Z H x v S vu lo hi sl Q I n hs pl pu h;obtain⟨z,rfl,hz,q⟩:=h;obtain⟨t,rfl⟩:=n;refine⟨"str",_,F.slot_str_getitem.lookup,typeIs_str _ _ _,?_⟩;have go:∀(l u:Option (Int×Tok)),s.heap.IsSlice sl l u none->lo=l.map (·.1)->hi=u.map (·.1)->wpAny (model X.prog X.w) X.A (getItem (.str z t) (.ref sl)) (EP X U Z Q) X.xe s:=λl u r L M=>by
  subst L M;exact wpAny_getItem_str_slice r rfl (post_val_or_str ⟨cF (Txt.slice_le z _ _) hz,λt' k=>⟨.str _,H,I.tok _,⟨_,rfl⟩,q⟩⟩)
 cases pl with
 |none=>
  cases pu with
  |none=>exact go none none hs rfl rfl
  |int j b=>exact go none (some (j,b)) hs rfl rfl
 |int i g=>
  cases pu with
  |none=>exact go (some (i,g)) none hs rfl rfl
  |int j b=>exact go (some (i,g)) (some (j,b)) hs rfl rfl
theorem CK:∀{cs:List String} {us:List Value},Vals (cs.map V.ty) us->us=cs.map Value.type
 |[],_,.nil=>rfl
 |c::cs,_,.cons r t=>by
  rw[CK t];cases(show _=Value.type c from r)
  rfl
def vd(q:aa.IsTuple a ak):∃dd n sl,aa.get? a=some ⟨.type "tuple",dd,.seq ak n,sl⟩:=by
 obtain⟨⟨cls,dd,data,sl⟩,h1,h2,n,b⟩:=q;dsimp only at h2 b;subst h2 b;exact⟨dd,n,sl,h1⟩
theorem Ia:gL X (.builtin "isinstance") (λxs H Q=>∃(x:V) (p:Addr) (cs:List String) (t:Value) (b:Bool),xs=[x,.ref p]/\Qa x=true/\js X.K H p (cs.map V.ty)/\ud X.K H x t/\PySem.W.kitAny X.K t (cs.map Value.type)=some b/\Q (.bl b) H):=by
 intro U s Z H xs us Q I r h;obtain⟨x,p,cs,t,b,rfl,M,hp,ty,e,q⟩:=h;obtain⟨u,v,rfl,g,rv⟩:=vals2 r;cases(show v=Value.ref p from rv);obtain⟨cy,r1,p1,_⟩:=I.tuple hp;obtain⟨dd,n,sl,l⟩:=vd p1;cases CK r1;have fin:∀L,EP X U Z Q (.bool b) {s with toks:=L}:=λL=>⟨.bl b,H,I.tok _,rfl,q⟩;cases ty with
 |cA=>
  cases(show u=Value.none from g);exact tL PySem.W.kitx_none I.l9 .intro l e (by simp) fin
 |bl y=>
  cases(show u=Value.bool y from g);exact tL PySem.W.kitx_bool I.l9 .intro l e (by simp) fin
 |int i=>
  obtain⟨t,rfl⟩:=(show∃t,u=Value.int i t from g);exact tL PySem.W.kitx_int I.l9 .intro l e (by simp) fin
 |str y=>
  obtain⟨t,rfl⟩:=(show∃t,u=Value.str y t from g);exact tL PySem.W.kitx_str I.l9 .intro l e (by simp) fin
 |_=>exact absurd (show false=true from M) fE
def CL(K:Frag)(w:World)(a:Addr)(kvs:List (Str×Value)):Prop:=
 (a==sysModules)=false/\∃o es ep,K.lookup a=some o/\o.ExactDict/\o.data=.dict es ep/\∀prog,KeysOf (PySem.strKind prog w) es/\Pairs (PySem.strKind prog w) es.toList kvs/\(kvs.map (·.1)).Nodup
def CL.of {kvs:List (Str×Value)}(D:CL X.K X.w a kvs)(I:Inv X U Z H s):s.heap.DictOf (PySem.strKind X.prog X.w) a kvs:=by
 obtain⟨_,o,es,ep,h1,h2,b,g⟩:=D;obtain⟨k1,k2,k3⟩:=g X.prog;exact⟨o,es,ep,I.l9 _ _ h1,h2,b,k1,k2,k3⟩
theorem Ko{to ti:TE}(ho:PE X o to)(hi:PE X e ti)(hs:NH e):
  PE X (.Subscript o e pos) (Ro (λx y H Q=>∃(a:Addr) (z:Str) (kvs:List (Str×Value)) (u:Value) (v:V),x=.ref a/\y=.str z/\CL X.K X.w a kvs/\valueAt kvs z=some u/\RelV v u/\Q v H) to ti):=by
 intro U s Z H Q I h;refine NI PySem.F.slot_dict_getitem.lookup hs (eK (ho U s Z H _ I h) λu s1 ⟨x,H1,g,l,n⟩=>eK (hi U s1 Z H1 _ g n) λiv s2 ⟨y,H2,b,r,L⟩=>?_);obtain⟨a,z,kvs,u',v,rfl,rfl,D,M,rv,q⟩:=L;cases(show u=Value.ref a from l);obtain⟨t,rfl⟩:=r;have dd:=D.of b;refine⟨?_,wpAny_getItem_of (knd:=PySem.strKind X.prog X.w) (k:=z) (by simp[PySem.strKind,Value.isStrOf]) dd.mapOf M ⟨v,H2,b.tok _,rv,q⟩⟩;obtain⟨S,es,ep,h1,h2,_⟩:=dd;exact⟨S,h1,h2.1⟩
inductive Tr where
 |cA|bl (b:Bool)|int (i:Int)|str (z:Str)|ty (n:String)
 |vF (ns:List Int)|tup (ts:List Tr)|lst (ts:List Tr)|bX (bC:List (Key×Tr))|at(i:Nat)
 |vG (bC:List (List Key×Tr))|ob (x:Str) (fs:List (Str×Tr))|zR (x:Str)
variable {aB:Tr->Prop}{aC:Tr}{aG:List (Key×Tr)}
variable {ts:List Tr}
noncomputable def dc:Nat:=1000000
noncomputable def clsAt(K:Frag)(x:Str):Addr:=match PySem.W.nsIn K mainGlobals x with
 |some (some (.ref C))=>C
 |_=>0
structure Vw where
 H:Hp
 ix:Addr->Option Nat
instance:Coe Vw Hp:=⟨Vw.H⟩
instance:CoeFun Vw (fun _=>Addr->Option HO):=⟨Vw.H⟩
structure e_(W W':Vw):Prop where
 h:bg W.H W'.H
 x:∀a i,W.ix a=some i->W'.ix a=some i
theorem e_.refl (W:Vw):e_ W W:=⟨bg.refl _,λ_ _ e=>e⟩
theorem e_.trans {W W1 W2:Vw}(a:e_ W W1)(b:e_ W1 W2):e_ W W2:=⟨a.h.trans b.h,λc i e=>b.x c i (a.x c i e)⟩
mutual
inductive Rep(K:Frag)(H:Vw):V->Tr->Prop where
 |cA:Rep K H .cA .cA
 |bl (b:Bool):Rep K H (.bl b) (.bl b)
 |int (i:Int):Rep K H (.int i) (.int i)
 |str (z:Str) (h:z.length<=dc):Rep K H (.str z) (.str z)
 |ty (n:String):Rep K H (.ty n) (.ty n)
 |vF {a:Addr} {ns:List Int} (h:lR K H.H a (ns.map V.int)):Rep K H (.ref a) (.vF ns)
 |tup {a:Addr} {vs:List V} {ts:List Tr} (h:js K H.H a vs) (r:bP K H vs ts):Rep K H (.ref a) (.tup ts)
 |lst {a:Addr} {vs:List V} {ts:List Tr} (h:H.H a=some (.lst vs)) (r:bP K H vs ts):Rep K H (.ref a) (.lst ts)
 |bX {a:Addr} {kvs:List (Key×V)} {bC:List (Key×Tr)} (h:Rd H.H a (.dK kvs)) (e:kvs.map (·.1)=bC.map (·.1)) (r:bP K H (kvs.map (·.2)) (bC.map (·.2))):Rep K H (.ref a) (.bX bC)
 |at{a:Addr} {i:Nat} (h:H.ix a=some i):Rep K H (.ref a) (.at i)
 |vG {a:Addr} {kvs:List (List Key×V)} {bC:List (List Key×Tr)} (h:H.H a=some (.dT kvs)) (e:kvs.map (·.1)=bC.map (·.1)) (r:bP K H (kvs.map (·.2)) (bC.map (·.2))):Rep K H (.ref a) (.vG bC)
 |ob {a dx:Addr} {x:Str} {iu:List (Str×V)} {fs:List (Str×Tr)} (h:H.H a=some (.ins (clsAt K x) dx iu)) (e:iu.map (·.1)=fs.map (·.1)) (r:bP K H (iu.map (·.2)) (fs.map (·.2))):Rep K H (.ref a) (.ob x fs)
 |zR {a:Addr} {oe:Obj} {x:Str} (h:H.H a=some (.ext fun h=>h.get? a=some oe)) (c:oe.cls=.ref (clsAt K x)):Rep K H (.ref a) (.zR x)
inductive bP(K:Frag)(H:Vw):List V->List Tr->Prop where
 |nil:bP K H [] []
 |cons {v:V} {t:Tr} {vs:List V} {ts:List Tr} (h:Rep K H v t) (r:bP K H vs ts):bP K H (v::vs) (t::ts)
end
section
def Rd.same {H H':Hp}{u:HO}(s:bg H H')(h:Rd H a u):Rd H' a u:=by
 rcases h with h|⟨o,h⟩
 ·exact .inl (s _ _ h)
 ·exact .inr ⟨o,s _ _ h⟩
variable {H H':Vw}
theorem Rep.same (s:e_ H H'){v:V}{t:Tr}(h:Rep K H v t):Rep K H' v t:=by
 refine Rep.rec (motive_1:=λv t _=>Rep K H' v t) (motive_2:=λvs ts _=>bP K H' vs ts) ?_ ?_ ?_ ?_ ?_ ?_ ?_ ?_ ?_ ?_ ?_ ?_ ?_ ?_ ?_ h
 ·exact .cA
 ·exact λb=>.bl b
 ·exact λi=>.int i
 ·exact λz h=>.str z h
 ·exact λn=>.ty n
 ·exact λh=>.vF (s.h.seq h)
 ·exact λh _ r=>.tup (s.h.tup h) r
 ·exact λh _ r=>.lst (s.h _ _ h) r
 ·exact λh e _ r=>.bX (Rd.same s.h h) e r
 ·exact λh=>.at (s.x _ _ h)
 ·exact λh e _ r=>.vG (s.h _ _ h) e r
 ·exact λh e _ r=>.ob (s.h _ _ h) e r
 ·exact λh c=>.zR (s.h _ _ h) c
 ·exact .nil
 ·exact λ_ _ h r=>.cons h r
theorem bP.same (s:e_ H H'):∀{vs:List V} {ts:List Tr},bP K H vs ts->bP K H' vs ts
 |[],_,h=>by cases h;exact .nil
 |_::_,_,h=>by cases h with|cons h r=>exact .cons (h.same s) (bP.same s r)
theorem bP.length:∀{vs:List V} {ts:List Tr},bP K H vs ts->vs.length=ts.length
 |[],_,h=>by cases h;rfl
 |_::_,_,h=>by cases h with|cons h r=>rw[dB,dB,bP.length r]
theorem bP.get:∀{vs:List V} {ts:List Tr} {i:Nat} {t:Tr},bP K H vs ts->ts[i]?=some t->∃v,vs[i]?=some v/\Rep K H v t
 |[],_,i,t,h,e=>by cases h;simp at e
 |_::_,_,0,t,h,e=>by cases h with|cons h r=>simp at e;subst e;exact⟨_,rfl,h⟩
 |_::_,_,i+1,t,h,e=>by
  cases h with
  |cons h r=>
   obtain⟨v,b,r1⟩:=bP.get (i:=i) (t:=t) r (by simpa using e);exact⟨v,by simpa using b,r1⟩
theorem bP.xW:∀{vs:List V} {ts:List Tr} {i:Nat} {v:V},bP K H vs ts->vs[i]?=some v->∃t,ts[i]?=some t/\Rep K H v t
 |[],_,i,t,h,e=>by simp at e
 |_::_,_,0,t,h,e=>by cases h with|cons h r=>simp at e;subst e;exact⟨_,rfl,h⟩
 |_::_,_,i+1,t,h,e=>by
  cases h with
  |cons h r=>
   obtain⟨v,b,r1⟩:=bP.xW (i:=i) r (by simpa using e);exact⟨v,by simpa using b,r1⟩
theorem bP.append:∀{vs ws:List V} {ts us:List Tr},bP K H vs ts->bP K H ws us->bP K H (vs++ws) (ts++us)
 |[],_,_,_,h,q=>by cases h;exact q
 |_::_,_,_,_,h,q=>by cases h with|cons h r=>exact .cons h (bP.append r q)
theorem bP.take:∀{vs:List V} {ts:List Tr} (n:Nat),bP K H vs ts->bP K H (vs.take n) (ts.take n)
 |_,_,0,_=>by rw[List.take_zero,List.take_zero];exact .nil
 |[],_,_+1,h=>by cases h;exact .nil
 |_::_,_,n+1,h=>by cases h with|cons h r=>exact .cons h (bP.take n r)
theorem bP.drop:∀{vs:List V} {ts:List Tr} (n:Nat),bP K H vs ts->bP K H (vs.drop n) (ts.drop n)
 |_,_,0,h=>h
 |[],_,_+1,h=>by cases h;exact .nil
 |_::_,_,n+1,h=>by cases h with|cons h r=>exact bP.drop n r
theorem bP.rep {vs:List V}(h:bP K H vs ts):∀n:Nat,bP K H (List.replicate n vs).flatten (List.replicate n ts).flatten
 |0=>.nil
 |n+1=>by
  rw[nK,nK,mC,mC];exact h.append (bP.rep h n)
theorem zS:∀{zs:List Str},(∀z∈zs,z.length<=dc)->bP K H (zs.map V.str) (zs.map Tr.str)
 |[],_=>.nil
 |z::zs,h=>.cons (.str z (h z (cD ..))) (zS λy b=>h y (cu _ b))
end
structure fh where
 hd:Addr->Bool
 ix:Addr->Option Nat
variable {B:fh}
instance:CoeFun fh (fun _=>Addr->Bool):=⟨fh.hd⟩
def cj(B:fh)(H:Hp):Vw:=⟨λb=>if B.hd b=true then none else H b,B.ix⟩
def HB(B:fh)(H:Hp):Prop:=∀b,B.hd b=true->∃o,H b=some o
section
variable {B':fh}{H':Hp}
def gf{b:Addr}(h:B.hd b=false):(cj B H).H b=H b:=by show(if B.hd b=true then none else H b)=_;rw[h,bc fE]
def bI:bg (cj B H).H H:=λb o (e:(if B.hd b=true then none else H b)=some o)=>by
 split at e
 ·cases e
 ·exact e
def bJ(s:bg H H'):e_ (cj B H) (cj B H'):=⟨λb o (e:(if B.hd b=true then none else H b)=some o)=>by
 show(if B.hd b=true then none else H' b)=some o;split at e
 ·cases e
 ·rw[bc (by assumption)];exact s b o e,λ_ _ e=>e⟩
def raw(B:fh)(H:Hp):Vw:=⟨H,B.ix⟩
def fH:e_ (cj B H) (raw B H):=⟨bI,λ_ _ e=>e⟩
def HB.same (h:HB B H)(s:bg H H'):HB B H':=λb e=>by obtain⟨o,q⟩:=h b e;exact⟨o,s b o q⟩
def HB.free {p:Addr}(h:HB B H)(hp:H p=none):B.hd p=false:=by
 cases e:B.hd p with
 |false=>rfl
 |true=>obtain⟨o,q⟩:=h p e;rw[hp]at q;cases q
def HB.new {p:Addr}{o:HO}(h:HB B H)(hp:H p=none):(cj B (upd H p o)).H p=some o:=by rw[gf (h.free hp)];exact bM
structure vH(B B':fh):Prop where
 hd:∀b,B.hd b=true->B'.hd b=true
 ix:∀b i,B'.ix b=some i->B.ix b=some i
def xX(h:vH B B'):e_ (cj B' H) (cj B H):=⟨λb o (e:(if B'.hd b=true then none else H b)=some o)=>by
 show(if B.hd b=true then none else H b)=some o;split at e
 ·cases e
 ·rename_i n;rw[bc λz=>n (h.hd b z)];exact e,h.ix⟩
end
inductive Rs(α:Type) where
 |bad|ok (a:α)|exc (c:Tr)
variable {aE:Tr->Tr->Rs Tr}
variable {h:List Tr->Rs Tr}
noncomputable def Rs.bind {α β:Type}(r:Rs α)(f:α->Rs β):Rs β:=match r with
 |.ok a=>f a
 |.exc c=>.exc c
 |.bad=>.bad
def XA(X:Cx)(c:Tr)(H:Hp):Prop:=False
def qQ(xc:Tr->Prop){α:Type}(r:Rs α)(k:α->Prop):Prop:=match r with
 |.ok a=>k a
 |.exc c=>xc c
 |.bad=>False
def xP(X:Cx)(H:Hp):Tr->Prop:=λc=>∀H',bg H H'->XA X c H'
def Fi(X:Cx)(H:Hp){α:Type}(r:Rs α)(k:α->Prop):Prop:=qQ (xP X H) r k
section
variable {β:Type}{r:Rs ag}{k k':ag->Prop}{U8:Tr->Prop}
def qQ.mono (h:qQ aB r k)(w:∀a,k a->k' a):qQ aB r k':=by
 cases r with
 |ok a=>exact w a h
 |_=>exact h
def qQ.imp (h:qQ aB r k)(w:∀c,aB c->U8 c):qQ U8 r k:=by
 cases r with
 |ok a=>exact h
 |exc c=>exact w c h
 |bad=>exact h
theorem qQ.bind {f:ag->Rs β}{k:β->Prop}(h:qQ aB (r.bind f) k):qQ aB r λa=>qQ aB (f a) k:=by
 cases r with
 |_=>exact h
theorem Fi.mono (h:Fi X H r k)(w:∀a,k a->k' a):Fi X H r k':=qQ.mono h w
def Fi.same (h:Fi X H r k)(s:bg H ac):Fi X ac r k:=qQ.imp h λ_ q H2 s2=>q H2 (s.trans s2)
theorem Fi.bind {f:ag->Rs β}{k:β->Prop}(h:Fi X H (r.bind f) k):Fi X H r λa=>Fi X H (f a) k:=qQ.bind h
end
set_option genInjectivity true in
inductive Cell where
 |no|sh (t:Tr)|ow (ts:List Tr)
abbrev bV:=List Cell
variable {aF:bV->Rs Bool}
variable {F G:bV->Rs Tr}{L:bV->Rs (List Tr)}
structure cI(K:Frag)(B:fh)(H:Hp)(Z:St)(Y:bV):Prop where
 len:Y.length=Z.length
 sh:∀(i:Nat) (t:Tr),Y[i]?=some (.sh t)->∃v,Z[i]?=some (some v)/\Rep K (cj B H) v t
 ow:∀(i:Nat) (ts:List Tr),Y[i]?=some (.ow ts)->∃D ys,Z[i]?=some (some (.ref D))/\B D=true/\H D=some (.lst ys)/\bP K (cj B H) ys ts
 ap:∀(i j:Nat) (ts us:List Tr) (D:Addr),i≠j->Y[i]?=some (.ow ts)->Y[j]?=some (.ow us)->Z[i]?=some (some (.ref D))->Z[j]? ≠some (some (.ref D))
section
variable {B':fh}{Y:bV}
theorem cI.same (h:cI K B H Z Y)(s:bg H ac):cI K B ac Z Y:=
 ⟨h.len,λi t e=>by obtain⟨v,b,r⟩:=h.sh i t e;exact⟨v,b,r.same (bJ s)⟩,
   λi ts e=>by obtain⟨D,ys,b,g,l,r⟩:=h.ow i ts e;exact⟨D,ys,b,g,s _ _ l,r.same (bJ s)⟩,h.ap⟩
theorem fR{l:List ag}{j:Nat}{x y:ag}(e:(l.set i x)[j]?=some y):(i=j/\i<l.length/\y=x)\/(i≠j/\l[j]?=some y):=by
 rw[mD]at e;by_cases b:i=j
 ·rw[aW b]at e;by_cases g:i<l.length
  ·rw[aW g]at e;exact .inl ⟨b,g,(Option.some.inj e).symm⟩
  ·rw[bc g]at e;cases e
 ·rw[bc b]at e;exact .inr ⟨b,e⟩
theorem cI.set {v:V}{t:Tr}(h:cI K B H Z Y)(i:Nat)(r:Rep K (cj B H) v t):cI K B H (Z.set i (some v)) (Y.set i (.sh t)):=by
 refine⟨by rw[kQ,kQ];exact h.len,λj u e=>?_,λj us e=>?_,λj k us ws D n b M L=>?_⟩
 ·rcases fR e with⟨rfl,l,q⟩|⟨g,q⟩
  ·cases q;exact⟨v,by rw[mD,aW rfl,aW (by rw[<-h.len];exact l)],r⟩
  ·obtain⟨w,b,r1⟩:=h.sh j u q;exact⟨w,by rw[mD,bc g];exact b,r1⟩
 ·rcases fR e with⟨rfl,l,q⟩|⟨g,q⟩
  ·cases q
  ·obtain⟨D,ys,b,r1⟩:=h.ow j us q;exact⟨D,ys,by rw[mD,bc g];exact b,r1⟩
 ·rcases fR b with⟨rfl,l,q⟩|⟨g,q⟩
  ·cases q
  ·rcases fR M with⟨rfl,l,I⟩|⟨S,I⟩
   ·cases I
   ·rw[mD,bc g]at L;rw[mD,bc S];exact h.ap j k us ws D n q I L
end
def startT(n:Nat)(ts:List Tr):bV:=ts.map Cell.sh++List.replicate (n - ts.length) .no
theorem qR{c:Cell}(e:(startT az ts)[i]?=some c):c=.no\/∃t,ts[i]?=some t/\c=.sh t:=by
 unfold startT at e;by_cases hi:i<ts.length
 ·rw[oV (by rw[bu];exact hi),ck]at e;cases q:ts[i]? with
  |none=>rw[q]at e;cases e
  |some u=>rw[q]at e;exact .inr ⟨u,rfl,(Option.some.inj e).symm⟩
 ·rw[wU (by rw[bu];omega),sR]at e;split at e
  ·exact .inl (Option.some.inj e).symm
  ·cases e
theorem cI.start (h:bP K (cj B H) ar ts):cI K B H (start ps ar) (startT ps.length ts):=by
 have l:=h.length;refine⟨by unfold L2.start startT;simp only[eR,bu,w8];omega,λi t e=>?_,λi us e=>?_,λi j us ws D _ e _ _=>?_⟩
 ·rcases qR e with q|⟨u,q,b⟩
  ·cases q
  ·cases b;obtain⟨v,g,r⟩:=h.get q;have hi:i<ar.length:=(gu.mp g).1;refine⟨v,?_,r⟩;unfold L2.start;rw[oV (by rw[bu];exact hi),ck,g]
   rfl
 ·rcases qR e with q|⟨u,q,b⟩
  ·cases q
  ·cases b
 ·rcases qR e with q|⟨u,q,b⟩
  ·cases q
  ·cases b
noncomputable def isStar:Expr->Bool
 |.Starred .. =>true
 |_=>false
def bL(es:List Expr)(env:Env)(h:isStar e=false):starEach (e::es) env=(false,eval e env)::starEach es env:=by
 cases e<;>first|rfl|cases h
def bA(es:List Expr):Bool:=es.all λe=>!isStar e
theorem cR{env:Env}:∀{es:List Expr},bA es=true->(backTo pos (starEach es env)).any (·.1)=false
 |[],_=>by rw[starEach];rfl
 |e::es,h=>by
  unfold bA at h;rw[iG,bW]at h;have b:isStar e=false:=by simpa using h.1
  rw[bL es env b];exact cR (es:=es) h.2
theorem jH{env:Env}:∀{es:List Expr},bA es=true->(backTo pos (starEach es env)).all (λx=>!x.1)=true
 |[],_=>by rw[starEach];rfl
 |e::es,h=>by
  unfold bA at h;rw[iG,bW]at h;have b:isStar e=false:=by simpa using h.1
  rw[bL es env b];exact jH (es:=es) h.2
def bq{es:List Expr}(h:bA (e::es)=true):isStar e=false/\bA es=true:=by
 unfold bA at h;rw[iG,bW]at h;exact⟨by simpa using h.1,h.2⟩
def sj:Expr->Bool
 |.ListComp .. =>true
 |.SetComp .. =>true
 |.DictComp .. =>true
 |_=>false
def xY{t:Option Expr}{env:Env}(h:sj e=false):swapsWith e t i env=pure false:=by
 cases e<;>first|rfl|cases h
noncomputable def mW:Expr->Bool
 |.UnaryOp .. =>false
 |.BoolOp .. =>false
 |.IfExp .. =>false
 |.Compare .. =>false
 |_=>true
def xZ{env:Env}(h:mW e=true):∀whole,isTrue e env whole=(do let v<-whole;standAt e.pos;holding [v] (truthy v)):=by
 intro whole;cases e<;>first|rfl|cases h
def isSet:Expr->Bool
 |.Set .. =>true
 |_=>false
def gC{env:Env}(h:isSet e=false):∀x,foldedSetIterable e env x=pure x:=by
 intro x;cases e<;>first|rfl|cases h
def isCall:Expr->Bool
 |.Call .. =>true
 |_=>false
def gD{env:Env}{w:Sem Value}(h:isCall o=false):attributeBase o x env w=w:=by
 cases o<;>first|rfl|cases h
inductive tP(X:Cx)(F:bV->Rs Tr)(Z:St)(H:Hp)(Q:VK):Prop
 |mk (B:fh) (Y:bV):HB B H->cI X.K B H Z Y->(Fi X H (F Y) fun t=>∀v H',bg H H'->Rep X.K (cj B H') v t->Q v H')->tP X F Z H Q
inductive tQ(X:Cx)(F:bV->Rs Bool)(Z:St)(H:Hp)(Q:Bool->Hp->Prop):Prop
 |mk (B:fh) (Y:bV):HB B H->cI X.K B H Z Y->(Fi X H (F Y) fun b=>∀H',bg H H'->Q b H')->tQ X F Z H Q
inductive CM(X:Cx)(F:bV->Rs (List Tr))(Z:St)(H:Hp)(Q:List V->Hp->Prop):Prop
 |mk (B:fh) (Y:bV):HB B H->cI X.K B H Z Y->(Fi X H (F Y) fun ts=>∀vs H',bg H H'->bP X.K (cj B H') vs ts->Q vs H')->CM X F Z H Q
inductive Out where
 |nx (Y:bV)|ret (t:Tr)|bk (Y:bV)|ct (Y:bV)
structure eE(C B0:fh)(H0:Hp)(B:fh)(H:Hp):Prop where
 kp:∀b o,C b=true->H0 b=some o->H b=some o
 jU:e_ (cj B0 H0) (cj B H)
 sub:vH C B
 hb:HB B H
section
variable {C B0 B1 B2:fh}{H' H1 H2:Hp}
def eE.go (h:eE C B0 ac B H)(s:bg H H'):eE C B0 ac B H':=⟨λb o c e=>s _ _ (h.kp b o c e),h.jU.trans (bJ s),h.sub,h.hb.same s⟩
def vH.refl:vH B B:=⟨λ_ e=>e,λ_ _ e=>e⟩
theorem eE.refl (h:HB B H)(c:vH C B):eE C B H B H:=⟨λ_ _ _ e=>e,e_.refl _,c,h⟩
theorem eE.trans (h:eE C B0 ac B1 H1)(q:eE C B1 H1 B2 H2):eE C B0 ac B2 H2:=⟨λb o c e=>q.kp b o c (h.kp b o c e),h.jU.trans q.jU,q.sub,q.hb⟩
def eE.same (h:eE C C ac B H):bg ac H:=λb o e=>by
 cases q:C b with
 |true=>exact h.kp b o q e
 |false=>exact bI _ _ (h.jU.h b o (by rw[gf q];exact e))
end
def EN(X:Cx)(D:Ends)(C B0:fh)(H0:Hp):Out->Prop
 |.nx Y=>∀b B' H',eE C B0 H0 B' H'->cI X.K B' H' b Y->D.nx b H'
 |.ret t=>∀v B' H',eE C B0 H0 B' H'->Rep X.K (cj C H') v t->D.rt v H'
 |.bk Y=>∀b B' H',eE C B0 H0 B' H'->cI X.K B' H' b Y->D.bk b H'
 |.ct Y=>∀b B' H',eE C B0 H0 B' H'->cI X.K B' H' b Y->D.ct b H'
def xS(X:Cx)(C B0:fh)(H0:Hp):Tr->Prop:=λc=>∀B' H',eE C B0 H0 B' H'->XA X c H'
inductive tS(X:Cx)(G:bV->Rs Out)(D:Ends)(Z:St)(H:Hp):Prop
 |mk (C:fh) (B0:fh) (H0:Hp) (B:fh) (Y:bV):eE C B0 H0 B H->cI X.K B H Z Y->qQ (xS X C B0 H0) (G Y) (EN X D C B0 H0)->tS X G D Z H
def PE.weak {t t':TE}(h:PE X e t)(w:∀Z H Q,t' Z H Q->t Z H Q):PE X e t':=λU s Z H Q I q=>h U s Z H Q I (w Z H Q q)
def PT.weak {t t':TT}(h:PT X e t)(w:∀Z H Q,t' Z H Q->t Z H Q):PT X e t':=λU s Z H Q I q=>h U s Z H Q I (w Z H Q q)
def PW.weak {t t':TT}(h:PW X e t)(w:∀Z H Q,t' Z H Q->t Z H Q):PW X e t':=λwh U s Z H Q I q=>h wh U s Z H Q I (w Z H Q q)
def PA.weak {t t':TA}(h:PA X es t)(w:∀Z H Q,t' Z H Q->t Z H Q):PA X es t':=λpos U s Z H Q I q=>h pos U s Z H Q I (w Z H Q q)
def PS.weak {st:Stmt}{t t':TS}(h:PS X st t)(w:∀D Z H,t' D Z H->t D Z H):PS X st t':=λU s Z H D I q=>h U s Z H D I (w D Z H q)
def oU.weak {st:List Stmt}{t t':TS}(h:oU X st t)(w:∀D Z H,t' D Z H->t D Z H):oU X st t':=λU s Z H D I q=>h U s Z H D I (w D Z H q)
def x6(Y:bV)(i:Nat):Rs Tr:=match Y[i]? with
 |some (.sh t)=>.ok t
 |_=>.bad
def Kp{Y:bV}(r:cI X.K B H Z Y)(h:Fi X H (x6 Y i) aB):∃v t,Z[i]?=some (some v)/\Rep X.K (cj B H) v t/\aB t:=by
 unfold x6 at h;split at h
 ·rename_i t e;obtain⟨v,b,r1⟩:=r.sh i t e;exact⟨v,t,b,r1,h⟩
 ·exact h.elim
section
variable {b:Expr}{E:bV->Rs Tr}
theorem Wg(i:Nat)(hN:X.N[i]?=some x:=by rfl) (hv:Zy X.env.scope x:=by first|exact Or.inl rfl|exact Or.inr (Or.inl rfl)|exact Or.inr (Or.inr rfl)) (hd:Db x:=by decide)
  (Es:(x==("__classdict__":Str))=false:=by decide):PE X (.Name x pos) (tP X λY=>x6 Y i):=
 (Rg hN hv hd Es).weak λZ H Q ⟨B,Y,hb,r,q⟩=>by
  obtain⟨v,t,e,r1,k⟩:=Kp r q;exact⟨v,e,k v H (bg.refl H) r1⟩
theorem CN{v:V}(h:PE X e (tC v))(r:∀H,Rep X.K H v aC):PE X e (tP X λ_=>.ok aC):=
 h.weak λZ H Q ⟨B,Y,_,_,q⟩=>q v H (bg.refl H) (r _)
def Wh{i:Int}{j pos}:PE X (.Constant (.int i) j pos) (tP X λ_=>.ok (.int i)):=CN Rh λH=>.int i
def aaO{b:Bool}{j pos}:PE X (.Constant (.bool b) j pos) (tP X λ_=>.ok (.bl b)):=CN VE λH=>.bl b
def Wi{j pos}:PE X (.Constant .none j pos) (tP X λ_=>.ok .cA):=CN Ri λH=>.cA
def Wj{j pos}(hz:x.length<=dc:=by decide):PE X (.Constant (.str x) j pos) (tP X λ_=>.ok (.str x)):=CN Rj λH=>.str x hz
def Wk(K:Frag)(mg:Str->Option Value)(x:Str)(t:Tr):Prop:=∃v u,mg x=some u/\RelV v u/\∀H,Rep K H v t
def aaP(hm:X.mg x=none)(q:bootBuiltins x=some (.type ay):=by rfl) (hg:Gl X x:=by rfl) (hn:x≠"__name__":=by decide) (hd:Db x:=by decide):PE X (.Name x pos) (tP X λ_=>.ok (.ty ay)):=
 CN (F4 (v:=.ty ay) hg hm q rfl hn hd) λH=>.ty ay
def Ib(h:Tr->Tr->Rs Tr)(o b:Rs Tr):Rs Tr:=o.bind λx=>b.bind λy=>h x y
inductive rT(X:Cx)(h:Tr->Tr->Rs Tr)(x:V)(y:V)(H:Hp)(Q:VK):Prop
 |mk (B:fh) (tx:Tr) (ty:Tr):HB B H->Rep X.K (cj B H) x tx->Rep X.K (cj B H) y ty->(Fi X H (h tx ty) fun t=>∀v H',bg H H'->Rep X.K (cj B H') v t->Q v H')->rT X h x y H Q
abbrev Cg(X:Cx)(f:Value->Value->Sem Value)(h:Tr->Tr->Rs Tr):Prop:=u6 X f (rT X h)
def uq{Q:VK}(q:tP X (λY=>Ib aE (F Y) (G Y)) Z H Q):Ro (rT X aE) (tP X F) (tP X G) Z H Q:=by
 obtain⟨B,Y,hb,r,q⟩:=q;refine⟨B,Y,hb,r,q.bind.mono λx b v H1 s1 r1=>⟨B,Y,hb.same s1,r.same s1,(b.bind.same s1).mono λy g u H2 s2 r2=>⟨B,x,y,(hb.same s1).same s2,r1.same (bJ s2),r2,?_⟩⟩⟩;exact(g.same (s1.trans s2)).mono λt l w n s3 I=>l w n ((s1.trans s2).trans s3) I
def Wl{op:Operator}(ho:Cg X (binaryOp op) aE)(ha:PE X o (tP X F))(hb:PE X b (tP X G)):PE X (.BinOp o op b pos) (tP X λY=>Ib aE (F Y) (G Y)):=
 (P5 ho ha hb).weak λ_ _ _ q=>uq q
def Wm{op:CmpOp}(ho:Cg X (compareOp op) aE)(ha:PE X o (tP X F))(hb:PE X b (tP X G))(hm:behindInMarks op b=false:=by first|exact AV _|rfl|with_unfolding_all rfl):PE X (.Compare o [op] [b] pos) (tP X λY=>Ib aE (F Y) (G Y)):=
 (Np ho ha hb hm).weak λ_ _ _ q=>uq q
def ZO(r:Rs Tr):Rs Bool:=r.bind λt=>match t with
 |.bl b=>.ok b
 |_=>.bad
def Rep.x8 {H:Vw}{v:V}{b:Bool}(h:Rep K H v (.bl b)):v=.bl b:=by cases h;rfl
def gg{W:Vw}{t:Tr}(r:bP K W ar [t]):∃x,ar=[x]/\Rep K W x t:=by
 cases r with
 |cons o r=>cases r;exact⟨_,rfl,o⟩
def zT{W:Vw}{u:Tr}(r:bP K W ar [aC,u]):∃x y,ar=[x,y]/\Rep K W x aC/\Rep K W y u:=by
 cases r with
 |cons o r=>
  obtain⟨y,rfl,b⟩:=gg r;exact⟨_,_,rfl,o,b⟩
def Rep.Gp {H:Vw}{v:V}{ns:List Int}(h:Rep K H v (.vF ns)):∃o,v=.ref o/\lR K H.H o (ns.map V.int):=by cases h;exact⟨_,rfl,by assumption⟩
def Rep.nO {H:Vw}{v:V}{bC:List (Key×Tr)}(h:Rep K H v (.bX bC)):∃o kvs,v=.ref o/\Rd H.H o (.dK kvs)/\kvs.map (·.1)=bC.map (·.1)/\bP K H (kvs.map (·.2)) (bC.map (·.2)):=by cases h;exact⟨_,_,rfl,by assumption,by assumption,by assumption⟩
def Rep.nP {H:Vw}{v:V}(h:Rep K H v (.at i)):∃o,v=.ref o/\H.ix o=some i:=by cases h;exact⟨_,rfl,by assumption⟩
def Rep.A9 {H:Vw}{v:V}{fs:List (Str×Tr)}(h:Rep K H v (.ob x fs)):∃o dx q,v=.ref o/\H.H o=some (.ins (clsAt K x) dx q)/\q.map (·.1)=fs.map (·.1)/\bP K H (q.map (·.2)) (fs.map (·.2)):=by cases h;exact⟨_,_,_,rfl,by assumption,by assumption,by assumption⟩
def Rep.NQ {H:Vw}{v:V}(h:Rep K H v .cA):v=.cA:=by cases h;rfl
def Rep.int_inv {H:Vw}{v:V}{i:Int}(h:Rep K H v (.int i)):v=.int i:=by cases h;rfl
def Rep.str_inv {H:Vw}{v:V}{z:Str}(h:Rep K H v (.str z)):v=.str z/\z.length<=dc:=by cases h;exact⟨rfl,by assumption⟩
def Rep.dY {H:Vw}{v:V}(h:Rep K H v (.tup ts)):∃o vs,v=.ref o/\js K H.H o vs/\bP K H vs ts:=by cases h;exact⟨_,_,rfl,by assumption,by assumption⟩
def Rep.lst_inv {H:Vw}{v:V}(h:Rep K H v (.lst ts)):∃o vs,v=.ref o/\H.H o=some (.lst vs)/\bP K H vs ts:=by cases h;exact⟨_,_,rfl,by assumption,by assumption⟩
theorem hide{G:Prop}(k:∀P:Prop,(G->P)->P):G:=k G id
def NR{r:Rs Tr}{k:Bool->Prop}(h:Fi X H (ZO r) k):Fi X H r λt=>∃b,t=.bl b/\k b:=by
 refine h.bind.mono λt q=>?_
 cases t with
 |bl b=>exact⟨b,rfl,q⟩
 |_=>exact q.elim
theorem Wn{op:CmpOp}(ho:Cg X (compareOp op) aE)(ha:PE X o (tP X F))(hb:PE X b (tP X G))(hm:behindInMarks op b=false:=by first|exact AV _|rfl|with_unfolding_all rfl):PT X (.Compare o [op] [b] pos) (tQ X λY=>ZO (Ib aE (F Y) (G Y))):=
 (Nq ho ha hb hm).weak λZ H Q ⟨B,Y,hb,r,q⟩=>by
  refine uq (Q:=λx H'=>∃k,x=.bl k/\Q k H') ⟨B,Y,hb,r,(NR q).mono λt g v H' s' l=>?_⟩;obtain⟨b,rfl,k⟩:=g;exact⟨b,l.x8,k H' s'⟩
noncomputable def pT:Tr->Rs Bool
 |.cA=>.ok false
 |.bl b=>.ok b
 |.int i=>.ok (i !=0)
 |.str z=>.ok ((z.length:Int) !=0)
 |.tup ts=>.ok (!ts.isEmpty)
 |.lst ts=>.ok (!ts.isEmpty)
 |.bX bC=>.ok (!bC.isEmpty)
 |_=>.bad
theorem bP.isEmpty {H:Vw}{vs:List V}(h:bP K H vs ts):vs.isEmpty=ts.isEmpty:=by cases h<;>rfl
def lT:dc<=sizeLine:=by rw[dX];decide
def NS{H:Vw}{v:V}{b:Bool}(r:Rep K H v aC)(e:pT aC=.ok b):Nr K v H b:=by
 cases r with
 |cA=>cases e;rfl
 |bl tg=>cases e;rfl
 |int i=>cases e;rfl
 |str z h=>cases e;exact⟨cF h lT,rfl⟩
 |ty n=>cases e
 |tup h r=>cases e;exact .inr (.inl ⟨_,h,by rw[r.isEmpty]⟩)
 |lst h r=>cases e;exact .inl ⟨_,.of h,by rw[r.isEmpty]⟩
 |vF h=>cases e
 |«at» h=>cases e
 |vG h g l=>cases e
 |ob h g l=>cases e
 |zR h tg=>cases e
 |bX h g r=>
  cases e;refine .inr (.inr ⟨_,h,?_⟩);rename_i kvs bC;cases kvs<;>cases bC<;>first|rfl|cases g
def x9{H:Vw}{v:V}{t:Tr}{k:Bool->Prop}(r:Rep X.K H v t)(h:Fi X H (pT t) k):∃b,Nr X.K v H b/\k b:=by
 cases e:pT t with
 |ok b=>rw[e]at h;exact⟨b,NS r e,h⟩
 |exc tg=>cases t<;>cases e
 |bad=>rw[e]at h;exact h.elim
theorem Wo(ha:PE X o (tP X F))(he:mW o=true:=by rfl):PT X o (tQ X λY=>(F Y).bind pT):=
 (Cw ha (xZ he)).weak λZ H Q ⟨B,Y,hb,r,q⟩=>⟨B,Y,hb,r,q.bind.mono λt g v H' s' l=>by
  obtain⟨b,h1,h2⟩:=x9 (l.same fH) (g.same s');exact⟨b,h1,h2 H' s'⟩⟩
def Ic(r:Rs Bool):Rs Bool:=r.bind λb=>.ok (!b)
variable {A B:bV->Rs Bool}{c9:List Expr}
theorem Wq(ha:PT X o (tQ X A)):PT X (.UnaryOp .Not o pos) (tQ X λY=>Ic (A Y)):=
 (JM ha).weak λZ H Q ⟨B,Y,hb,r,q⟩=>⟨B,Y,hb,r,q.bind⟩
def Ie(o b:Rs Bool):Rs Bool:=o.bind λtg=>if tg then b else .ok false
def Wr(o b:Rs Bool):Rs Bool:=o.bind λtg=>if tg then .ok true else b
def R9(q:PT X o (tQ X A)):PW X (.BoolOp .And [o] pos) (tQ X A):=pw_and1 q
def Ws(q:PT X o (tQ X A)):PW X (.BoolOp .Or [o] pos) (tQ X A):=pw_or1 q
theorem w_and(ha:PT X o (tQ X A))(hb:PW X (.BoolOp .And (b::c9) pos) (tQ X B)):PW X (.BoolOp .And (o::b::c9) pos) (tQ X λY=>Ie (A Y) (B Y)):=
 (pw_and ha hb).weak λZ H Q ⟨g,Y,hb,r,q⟩=>⟨g,Y,hb,r,q.bind.mono λtg l H1 s1=>by
  cases tg with
  |true=>exact⟨g,Y,hb.same s1,r.same s1,(Fi.same l s1).mono λb n H2 s2=>n H2 (s1.trans s2)⟩
  |false=>exact l H1 s1⟩
theorem w_or(ha:PT X o (tQ X A))(hb:PW X (.BoolOp .Or (b::c9) pos) (tQ X B)):PW X (.BoolOp .Or (o::b::c9) pos) (tQ X λY=>Wr (A Y) (B Y)):=
 (pw_or ha hb).weak λZ H Q ⟨g,Y,hb,r,q⟩=>⟨g,Y,hb,r,q.bind.mono λtg l H1 s1=>by
  cases tg with
  |false=>exact⟨g,Y,hb.same s1,r.same s1,(Fi.same l s1).mono λb n H2 s2=>n H2 (s1.trans s2)⟩
  |true=>exact l H1 s1⟩
def R_{op}(h:PW X (.BoolOp op es pos) (tQ X A)):PT X (.BoolOp op es pos) (tQ X A):=h.pt
def Wt(o b:Rs Tr):Rs Tr:=o.bind λt=>(pT t).bind λtg=>if tg then b else .ok t
theorem Wu(ha:PE X o (tP X F))(hb:PE X (.BoolOp .And (b::c9) pos) (tP X G)):PE X (.BoolOp .And (o::b::c9) pos) (tP X λY=>Wt (F Y) (G Y)):=by
 intro U s Z H Q I ⟨B,Y,n,r,q⟩;refine BoolOp_and (eK (ha U s Z H _ I ⟨B,Y,n,r,q.bind.mono λt l v H1 s1 r1=>(show∃t,Rep X.K (cj B H1) v t/\bg H H1/\Fi X H ((pT t).bind λtg=>if tg then G Y else .ok t) (λt=>∀v H',bg H H'->Rep X.K (cj B H') v t->Q v H')from⟨t,r1,s1,l⟩)⟩) λv s1 ⟨x,H1,M,r1,t,rt,g,l⟩=>?_);obtain⟨tg,h1,h2⟩:=x9 (rt.same fH) (l.bind.same g);refine eK (JX U s1 Z H1 x v (λk H'=>k=tg/\H'=H1) M r1 ⟨tg,h1,rfl,rfl⟩) λk s2 ⟨H2,L,S,e2⟩=>?_
 subst S e2;cases k with
 |true=>exact hb U s2 Z _ Q L ⟨B,Y,n.same g,r.same g,(Fi.same h2 g).mono λt q v H' s' r'=>q v H' (g.trans s') r'⟩
 |false=>exact⟨x,_,L,r1,h2 x _ g rt⟩
def Wv{op}(h:PE X o (tP X F)):PE X (.BoolOp op [o] pos) (tP X F):=Rk h
def R'(r:Rs Bool):Rs Tr:=r.bind λb=>.ok (.bl b)
def Kq(tg:Rs Bool)(o b:Rs Tr):Rs Tr:=tg.bind λk=>if k then o else b
theorem aaQ(hc:PT X tg (tQ X A))(ha:PE X o (tP X F))(hb:PE X b (tP X G)):PE X (.IfExp tg o b pos) (tP X λY=>Kq (A Y) (F Y) (G Y)):=
 (JN hc ha hb).weak λZ H Q ⟨B,Y,hb,r,q⟩=>⟨B,Y,hb,r,q.bind.mono λk l H1 s1=>by
  cases k with
  |true=>exact⟨B,Y,hb.same s1,r.same s1,(Fi.same l s1).mono λt q v H2 s2 g=>q v H2 (s1.trans s2) g⟩
  |false=>exact⟨B,Y,hb.same s1,r.same s1,(Fi.same l s1).mono λt q v H2 s2 g=>q v H2 (s1.trans s2) g⟩⟩
def x_(o:Rs Tr)(l:Rs (List Tr)):Rs (List Tr):=o.bind λx=>l.bind λxs=>.ok (x::xs)
theorem Gq:PA X [] (CM X λ_=>.ok []):=se.weak λZ H Q ⟨B,Y,hb,r,q⟩=>q [] H (bg.refl H) .nil
theorem A_(ha:PE X o (tP X F))(hr:PA X es (CM X L))(hs:isStar o=false:=by rfl):PA X (o::es) (CM X λY=>x_ (F Y) (L Y)):=
 (lS ha hr (bL _ _ hs)).weak λZ H Q ⟨B,Y,hb,r,q⟩=>⟨B,Y,hb,r,q.bind.mono λx b v H1 s1 g=>⟨B,Y,hb.same s1,r.same s1,(b.bind.same s1).mono λxs l vs H2 s2 n=>l _ H2 (s1.trans s2) (.cons (g.same (bJ s2)) n)⟩⟩
noncomputable def ee:Nat:=16777216
def i_:ee=sizeLine:=dX.symm
def Ba(l:Rs (List Tr)):Rs Tr:=l.bind λts=>if ts.length<=ee then .ok (.tup ts)else .bad
def zq(l:Rs (List Tr)):Rs Tr:=l.bind λts=>if ts.length<=ee then .ok (.lst ts)else .bad
theorem Ww{x1}(h:PA X es (CM X L)):PE X (.Tuple es x1 pos) (tP X λY=>Ba (L Y)):=
 (RC h).weak λZ H Q ⟨B,Y,hb,r,q⟩=>⟨B,Y,hb,r,q.bind.mono λts b vs H1 s1 g=>by
  by_cases hz:ts.length<=ee
  ·rw[aW hz]at b;refine⟨by rw[g.length,<-i_];exact hz,λp hp=>b (.ref p) _ (s1.A7 (s1.free hp)) (.tup (.of ((hb.same s1).new hp)) (g.same (bJ (bg.upd hp))))⟩
  ·rw[bc hz]at b;exact b.elim⟩
theorem Wx(h:PA X es (CM X L)):PE X (.List es pos) (tP X λY=>zq (L Y)):=
 (J7 h).weak λZ H Q ⟨B,Y,hb,r,q⟩=>⟨B,Y,hb,r,q.bind.mono λts b vs H1 s1 g=>by
  by_cases hz:ts.length<=ee
  ·rw[aW hz]at b;refine⟨by rw[g.length,<-i_];exact hz,λp hp=>b (.ref p) _ (s1.A7 (s1.free hp)) (.lst ((hb.same s1).new hp) (g.same (bJ (bg.upd hp))))⟩
  ·rw[bc hz]at b;exact b.elim⟩
def dO(h:List Tr->Rs Tr)(l:Rs (List Tr)):Rs Tr:=l.bind h
inductive rC(X:Cx)(h:List Tr->Rs Tr)(xs:List V)(H:Hp)(Q:VK):Prop
 |mk (B:fh) (ts:List Tr):HB B H->bP X.K (cj B H) xs ts->(Fi X H (h ts) fun t=>∀v H',bg H H'->Rep X.K (cj B H') v t->Q v H')->rC X h xs H Q
abbrev lU(X:Cx)(f:Value)(h:List Tr->Rs Tr):Prop:=gL X f (rC X h)
def zU{Q:VK}(q:tP X (λY=>dO h (L Y)) Z H Q):tCB (rC X h) (CM X L) Z H Q:=by
 obtain⟨B,Y,hb,r,q⟩:=q;exact⟨B,Y,hb,r,q.bind.mono λts b vs H1 s1 r1=>⟨B,ts,hb.same s1,r1,(b.same s1).mono λt b v H2 s2 g=>b v H2 (s1.trans s2) g⟩⟩
def NT(hc:lU X (.builtin ay) h)(hm:X.mg x=none)(ha:PA X (e::es) (CM X L))(hv:bootBuiltins x=some (.builtin ay):=by rfl) (hg:Gl X x:=by rfl) (hn:x≠"__name__":=by decide) (fM:Db x:=by decide)
  (cG:bA (e::es)=true:=by rfl):PE X (.Call (.Name x p) (e::es) [] pos) (tP X λY=>dO h (L Y)):=
 (pM hc hg hm hv ha hn fM (bL _ _ (bq cG).1) (cR (bq cG).2)).weak λ_ _ _ q=>zU q
def Kr(hc:lU X (.type ay) h)(hm:X.mg x=none)(ha:PA X (e::es) (CM X L))(hv:bootBuiltins x=some (.type ay):=by rfl) (hg:Gl X x:=by rfl) (hn:x≠"__name__":=by decide) (fM:Db x:=by decide)
  (cG:bA (e::es)=true:=by rfl):PE X (.Call (.Name x p) (e::es) [] pos) (tP X λY=>dO h (L Y)):=
 (u_ hc hg hm hv ha hn fM (bL _ _ (bq cG).1) (cR (bq cG).2)).weak λ_ _ _ q=>zU q
inductive spT(K:Frag)(f:List Tr->Rs Tr)(vs:List V)(H:Hp)(Q:VK)(_w3:XK):Prop
 |mk (B:fh) (ts:List Tr):HB B H->bP K (cj B H) vs ts->(∃t,f ts=.ok t/\∀v H',bg H H'->Rep K (cj B H') v t->Q v H')->spT K f vs H Q _w3
theorem Wy{fd:FuncData}(D:zQ X.K X.mg x ai ps a fd)(G:eI X.prog X.w X.K X.mg X.base mw i a fd ps (spT X.K h))(hr:di i X.A)
  (ha:PA X (e::es) (CM X L)) (hg:Gl X x:=by rfl) (fM:Db x:=by decide) (cG:bA (e::es)=true:=by rfl):PE X (.Call (.Name x p) (e::es) [] pos) (tP X λY=>dO h (L Y)):=
 (R7 D G hr ha hg fM (bL _ _ (bq cG).1) (cR (bq cG).2)).weak λZ H Q ⟨B,Y,hb,r,q⟩=>⟨B,Y,hb,r,q.bind.mono λts b vs H1 s1 g=>by
  cases e:h ts with
  |ok t=>rw[e]at b;exact⟨B,ts,hb.same s1,by rw[kl];exact g,t,e,λv H2 s2 l=>b v H2 (s1.trans s2) l⟩
  |exc tg=>rw[e]at b;exact(b _ (bg.refl _)).elim
  |bad=>rw[e]at b;exact b.elim⟩
end
section
variable {a b c:Expr}{G G':bV->Rs Out}{A:bV->Rs Bool}
def CO(r:Rs Out)(G:bV->Rs Out):Rs Out:=r.bind λo=>match o with
 |.nx Y=>G Y
 |.ret t=>.ok (.ret t)
 |.bk Y=>.ok (.bk Y)
 |.ct Y=>.ok (.ct Y)
theorem Wz:oU X [] (tS X λY=>.ok (.nx Y)):=F5.weak λD Z H ⟨C,B0,H0,B,Y,b,r,q⟩=>q Z B H b r
theorem Sa(h1:PS X ai (tS X G))(h2:oU X ah (tS X G')):oU X (ai::ah) (tS X λY=>CO (G Y) G'):=
 (Cv h1 h2).weak λD Z H ⟨C,B0,H0,B,Y,g,r,q⟩=>⟨C,B0,H0,B,Y,g,r,q.bind.mono λo b=>by
  cases o with
  |nx iB=>exact λI B' H' l n=>⟨C,B0,H0,B',iB,l,n,b⟩
  |ret t=>exact b
  |bk iB=>exact b
  |ct iB=>exact b⟩
def WA(q:PS X ai (tS X G)):oU X [ai] (tS X G):=F6 q
def Ks(i:Nat)(r:Rs Tr)(Y:bV):Rs Out:=r.bind λt=>.ok (.nx (Y.set i (.sh t)))
def qQ.here {α:Type}{C B0:fh}{H0:Hp}{r:Rs α}{k:α->Prop}(h:qQ (xS X C B0 H0) r k)(si:eE C B0 H0 B H):Fi X H r k:=h.imp λ_ q H' s'=>q B H' (si.go s')
def Gr{C B0:fh}{Y:bV}(si:eE C B0 ac B H)(r:cI X.K B H Z Y)(q:qQ (xS X C B0 ac) (F Y) aB){Q:VK}(hq:∀t v H',aB t->bg H H'->eE C B0 ac B H'->cI X.K B H' Z Y->Rep X.K (cj B H') v t->Q v H'):tP X F Z H Q:=
 ⟨B,Y,si.hb,r,(q.here si).mono λt b v H' s' g=>hq t v H' b s' (si.go s') (r.same s') g⟩
def WB{C B0:fh}{Y:bV}{k:Bool->Prop}(si:eE C B0 ac B H)(r:cI X.K B H Z Y)(q:qQ (xS X C B0 ac) (A Y) k){Q:Bool->Hp->Prop}(hq:∀b H',k b->bg H H'->eE C B0 ac B H'->cI X.K B H' Z Y->Q b H'):tQ X A Z H Q:=
 ⟨B,Y,si.hb,r,(q.here si).mono λb g H' s'=>hq b H' g s' (si.go s') (r.same s')⟩
def Rep.out {C B0:fh}{H0:Hp}{v:V}{t:Tr}(r:Rep K (cj B H) v t)(q:eE C B0 H0 B H):Rep K (cj C H) v t:=r.same (xX q.sub)
theorem WC(he:PE X e (tP X F))(hN:X.N.Nodup:=by assumption) (hi:X.N[i]?=some x:=by rfl) (hx:Loc X.env.scope x:=by first|exact Or.inl rfl|exact Or.inr rfl) (hs:sj e=false:=by rfl) (hf:zf X x:=by first|exact .inl rfl|exact .inr rfl|assumption):
  PS X (.Assign [.Name x p] e pos) (tS X λY=>Ks i (F Y) Y):=
 (JT hN hi hx he (xY hs) hf).weak λD Z H ⟨C,B0,H0,B,Y,b,r,q⟩=>Gr b r q.bind λt v H1 g s1 l n I=>g _ B H1 l (n.set i I)
def Kt(r:Rs Tr):Rs Out:=r.bind λt=>.ok (.ret t)
theorem WD(he:PE X e (tP X F)):PS X (.Return (some e) pos) (tS X λY=>Kt (F Y)):=
 (JP he).weak λD Z H ⟨C,B0,H0,B,Y,g,r,q⟩=>Gr g r q.bind λt v H1 l s1 b I n=>l v B H1 b (n.out b)
def U9(c:Rs Bool)(a b:Rs Out):Rs Out:=c.bind λk=>if k then a else b
theorem aaR(hc:PT X c (tQ X A))(ha:oU X ah (tS X G))(hb:oU X aj (tS X G')):PS X (.If c ah aj pos) (tS X λY=>U9 (A Y) (G Y) (G' Y)):=
 (P0 hc ha hb).weak λD Z H ⟨C,B0,H0,B,Y,l,r,q⟩=>WB l r q.bind λk H1 b s1 g r1=>by
  cases k with
  |true=>exact RZ ⟨C,B0,H0,B,Y,g,r1,b⟩
  |false=>exact RY ⟨C,B0,H0,B,Y,g,r1,b⟩
abbrev oQ:=Tr->bV->Rs bV
inductive tG(X:Cx)(T:oQ)(v:V)(Z:St)(H:Hp)(Q:St->Hp->Prop):Prop
 |mk (B:fh) (Y:bV) (t:Tr):HB B H->cI X.K B H Z Y->Rep X.K (cj B H) v t->(Fi X H (T t Y) fun iB=>∀dF H',bg H H'->cI X.K B H' dF iB->Q dF H')->tG X T v Z H Q
def gN(i:Nat):oQ:=λt Y=>.ok (Y.set i (.sh t))
theorem Sb(i:Nat)(hN:X.N.Nodup:=by assumption) (hi:X.N[i]?=some x:=by rfl) (hx:Loc X.env.scope x:=by first|exact Or.inl rfl|exact Or.inr rfl) (hf:zf X x:=by first|exact .inl rfl|exact .inr rfl|assumption):PG X (.Name x pos) (tG X (gN i)):=by
 intro U s Z H v u Q I r ⟨B,Y,t,hb,rs,rt,q⟩;exact F7 hN hi hx hf U s Z H v u Q I r (q _ H (bg.refl H) (rs.set i rt))
noncomputable def EO:List Nat->List Tr->bV->Rs bV
 |[],[],Y=>.ok Y
 |i::is,t::ts,Y=>EO is ts (Y.set i (.sh t))
 |_,_,_=>.bad
inductive U_(X:Cx)(T:List Tr->bV->Rs bV)(vs:List V)(Z:St)(H:Hp)(Q:St->Hp->Prop):Prop
 |mk (B:fh) (Y:bV) (ts:List Tr):HB B H->cI X.K B H Z Y->bP X.K (cj B H) vs ts->(Fi X H (T ts Y) fun iB=>∀dF H',bg H H'->cI X.K B H' dF iB->Q dF H')->U_ X T vs Z H Q
theorem WE:Nj X [] (U_ X (EO [])):=by
 intro U s Z H vs us Q I r ⟨B,Y,ts,hb,rs,rt,q⟩
 match ts,rt,q with
 |[],.nil,q=>exact Nk U s Z H [] us Q I r ⟨rfl,q Z H (bg.refl H) rs⟩
 |_::_,_,q=>exact q.elim
theorem Sd{is:List Nat}(h2:Nj X es (U_ X (EO is)))(hN:X.N.Nodup:=by assumption) (hi:X.N[i]?=some x:=by rfl) (hx:Loc X.env.scope x:=by first|exact Or.inl rfl|exact Or.inr rfl) (hf:zf X x:=by first|exact .inl rfl|exact .inr rfl|assumption)
  (hs:(assignEach (.Name x pos::es) X.env).map (·.2)=assign (.Name x pos) X.env::(assignEach es X.env).map (·.2):=by rfl):Nj X (.Name x pos::es) (U_ X (EO (i::is))):=by
 intro U s Z H vs us Q I r ⟨B,Y,ts,hb,rs,rt,q⟩
 match ts,rt,q with
 |[],_,q=>exact q.elim
 |t::ts,.cons b r2,q=>
  exact JR (F7 hN hi hx hf) h2 hs U s Z H _ us Q I r ⟨_,_,rfl,⟨B,_,ts,hb,rs.set i b,r2,q⟩⟩
def gT(is:List Nat):oQ:=λt Y=>match t with
 |.tup ts=>EO is ts Y
 |_=>.bad
theorem Gs:∀{is:List Nat} {ts:List Tr} {Y q:bV},EO is ts Y=.ok q->ts.length=is.length
 |[],[],_,_,_=>rfl
 |[],_::_,_,_,h=>by cases h
 |_::_,[],_,_,h=>by cases h
 |_::is,_::ts,_,_,h=>by rw[dB,dB,Gs (is:=is) (ts:=ts) h]
theorem zV:∀{is:List Nat} {ts:List Tr} {Y:bV} {c:Tr},EO is ts Y≠ .exc c
 |[],[],_,_=>λh=>by cases h
 |[],_::_,_,_=>λh=>by cases h
 |_::_,[],_,_=>λh=>by cases h
 |_::is,_::ts,_,_=>zV (is:=is) (ts:=ts)
theorem WG{is:List Nat}(h:Nj X es (U_ X (EO is)))(hc:X.calm=true:=by rfl) (hn:(assignEach es X.env).length=is.length:=by rfl) (cG:(assignEach es X.env).findIdx? (·.1)=none:=by rfl):PG X (.Tuple es i pos) (tG X (gT is)):=by
 intro U s Z H v u Q I r ⟨B,Y,t,hb,rs,rt,q⟩;cases rt with
 |tup g rv=>
  refine Rn hc h hn cG U s Z H _ u Q I r ⟨_,_,rfl,(bg.tup bI g),?_,B,Y,_,hb,rs,rv,q⟩;have b:Fi X H (EO is _ Y) _:=q;cases e:EO is _ Y with
  |ok l=>rw[rv.length];exact Gs e
  |exc c=>exact(zV e).elim
  |bad=>rw[e]at b;exact b.elim
 |_=>exact q.elim
def Ku(T:oQ)(r:Rs Tr)(Y:bV):Rs Out:=r.bind λt=>(T t Y).bind λb=>.ok (.nx b)
theorem WH{T:oQ}(hg:PG X tg (tG X T))(he:PE X e (tP X F))(hs:swapsWithSole [tg] e pos.line X.env=pure false:=by rfl) (hw:swappedStores [tg] e X.env=pure none:=by rfl)
  (h1:(assignEach [tg] X.env).map (·.2)=[assign tg X.env]:=by rfl):PS X (.Assign [tg] e pos) (tS X λY=>Ku T (F Y) Y):=
 (JS he hg hs hw h1).weak λD Z H ⟨C,B0,H0,B,Y,g,r,q⟩=>Gr g r q.bind λt v H1 l s1 b r1 rv=>⟨B,Y,t,b.hb,r1,rv,(l.bind.here b).mono λM n I H2 s2 L=>n I B H2 (b.go s2) L⟩
structure lV(K:Frag)(B:fh)(J:It)(H:Hp)(ts:List Tr):Prop where
 go:∀i B' H',i<ts.length->e_ (cj B H) (cj B' H')->HB B' H'->J.go i H'
 F8:∀i B' H' x M4,i<ts.length->e_ (cj B H) (cj B' H')->HB B' H'->J.F8 i H' x M4->bg H' M4/\∃t,ts[i]?=some t/\Rep K (cj B' M4) x t
 stop:∀B' H',e_ (cj B H) (cj B' H')->J.stop ts.length H'
inductive tI(X:Cx)(W:bV->Rs (List Tr))(Z:St)(H:Hp)(R:It->Hp->Prop):Prop
 |mk (B:fh) (Y:bV):HB B H->cI X.K B H Z Y->(Fi X H (W Y) fun ts=>∀J H',bg H H'->lV X.K B J H' ts->R J H')->tI X W Z H R
def zr(T:oQ)(G:bV->Rs Out):List Tr->bV->Rs Out
 |[],Y=>.ok (.nx Y)
 |t::ts,Y=>(T t Y).bind λg=>(G g).bind λo=>match o with
  |.nx b=>zr T G ts b
  |.ct b=>zr T G ts b
  |.bk b=>.ok (.nx b)
  |.ret t=>.ok (.ret t)
def Gu(T:oQ)(G:bV->Rs Out)(l:Rs (List Tr))(Y:bV):Rs Out:=l.bind λts=>zr T G ts Y
noncomputable def Ih(z:Str):List Tr:=z.cps.toList.map λc=>Tr.str ⟨#[c]⟩
def Kv(r:Rs Tr):Rs (List Tr):=r.bind λt=>match t with
 |.tup ts=>.ok ts
 |.lst ts=>.ok ts
 |.str z=>.ok (Ih z)
 |_=>.bad
def ya(h:cj B H au=some (.lst ar))(r:bP K (cj B H) ar ts):lV K B (Itl K au) H ts where
 go:=λi B' H' hi s hb=>by
  have b:i<ar.length:=by rw[r.length];exact hi
  exact⟨ar,ar[i],lR.of (bI _ _ (s.h _ _ h)),by simp[b]⟩
 F8:=λi B' H' x l hi s hb ⟨e,y⟩=>by
  subst e;have q:=y ar (lR.of (bI _ _ (s.h _ _ h)));obtain⟨t,g,r1⟩:=r.xW q;exact⟨bg.refl _,t,g,r1.same s⟩
 stop:=λB' H' s=>⟨ar,lR.of (bI _ _ (s.h _ _ h)),by rw[r.length];exact bz _⟩
def Ii(h:js K (cj B H) au ar)(r:bP K (cj B H) ar ts):lV K B (Itt K au) H ts where
 go:=λi B' H' hi s hb=>by
  have b:i<ar.length:=by rw[r.length];exact hi
  exact⟨ar,ar[i],bg.tup bI (s.h.tup h),by simp[b]⟩
 F8:=λi B' H' x l hi s hb ⟨e,y⟩=>by
  subst e;have q:=y ar (bg.tup bI (s.h.tup h));obtain⟨t,g,r1⟩:=r.xW q;exact⟨bg.refl _,t,g,r1.same s⟩
 stop:=λB' H' s=>⟨ar,bg.tup bI (s.h.tup h),by rw[r.length];exact bz _⟩
def Ij(z:Str):lV K B (ZN z) H (Ih z) where
 go:=λi B' H' hi _ _=>by
  have h:i<z.cps.size:=by simpa[Ih]using hi
  exact h
 F8:=λi B' H' x l hi s hb ⟨e,c,b,g⟩=>by
  subst e;subst g;refine⟨bg.refl _,.str ⟨#[c]⟩,?_,.str _ (by show 1<=dc;decide)⟩;unfold Ih;rw[ck,nH,b]
  rfl
 stop:=λB' H' s=>by simp[Ih,ZN]
def NV{s1:Shared}{R:It->Hp->Prop}{t:Tok}(I1:Inv X U Z H s1)(q:R (ZN x) H):wpAny (model X.prog X.w) X.A (pyIter (.str x t)) (ZD X U Z tg R) X.xe s1:=by
 have fin:∀b∈[s1.heap.objs.size],kU X U H b:=λb hb=>by
  have e:b=s1.heap.objs.size:=by simpa using hb
  rw[e];exact I1.xE (bz _) (I1.cY.fresh (bz _))
 cases r:x.cps.all (· <128)
 ·exact wpAny_pyIter_wide r ⟨s1.heap.objs.size,[s1.heap.objs.size],_,_,H,rfl,I1.kept (t':=s1.toks) λb o e=>bR _ e,
   CJ (n:="str_iterator") (t:=t) (by decide) (λA' g=>Walks.strWide g _ x t) λ_ _ _ _ _ ai l=>wpAny_pyIter_striter_wide ai l,⟨_,cz _ rfl,rfl,rfl⟩,fin,q⟩
 ·exact wpAny_pyIter_ascii r ⟨s1.heap.objs.size,[s1.heap.objs.size],_,_,H,rfl,I1.kept (t':=s1.toks) λb o e=>bR _ e,
   CJ (n:="str_ascii_iterator") (t:=t) (by decide) (λA' g=>Walks.strAscii g _ x t) λ_ _ _ _ _ ai l=>wpAny_pyIter_striter_ascii ai l,⟨_,cz _ rfl,rfl,rfl⟩,fin,q⟩
theorem WI(hl:PE X am (tP X F)):PI X tg am (tI X λY=>Kv (F Y)):=by
 intro U s Z H R I ⟨B,Y,hb,r,q⟩;refine eK (hl U s Z H (λx H1=>∃t,bg H H1/\Rep X.K (cj B H1) x t/\Fi X H (Kv (.ok t)) λts=>∀J H',bg H H'->lV X.K B J H' ts->R J H') I ⟨B,Y,hb,r,q.bind.mono λt n v H1 s1 r1=>⟨t,s1,r1,n⟩⟩) λv s1 ⟨x,H1,g,r1,t,l,rt,k⟩=>?_
 have k:Fi X H (match t with
  |.tup ts=>.ok ts
  |.lst ts=>.ok ts
  |.str z=>.ok (Ih z)
  |_=>.bad) _:=k
 have fin:∀b∈[s1.heap.objs.size],kU X U H1 b:=λb hb=>by
  rw[cV.mp hb];exact g.xE (bz _) (g.cY.fresh (bz _))
 split at k
 ·obtain⟨a,vs,rfl,h,rr⟩:=rt.dY;cases r1;obtain⟨cy,rv,p,hz⟩:=g.tuple (bg.tup bI h);exact wpAny_pyIter_tuple (show s1.heap.IsTuple a cy.toArray from p) ⟨s1.heap.objs.size,[s1.heap.objs.size],_,_,H1,rfl,g.kept (t':=s1.toks) λb o e=>bR _ e,Eu a _,⟨_,cz _ rfl,rfl,rfl⟩,fin,k _ H1 l (Ii h rr)⟩
 ·obtain⟨a,vs,rfl,h,rr⟩:=rt.lst_inv;cases r1;obtain⟨cy,rv,p,hz⟩:=g.list (lR.of (bI _ _ h));exact kN p.isList ⟨s1.heap.objs.size,[s1.heap.objs.size],_,_,H1,rfl,g.kept (t':=s1.toks) λb o e=>bR _ e,zI a _,⟨_,cz _ rfl,rfl,rfl⟩,fin,k _ H1 l (ya h rr)⟩
 ·obtain⟨rfl,_⟩:=rt.str_inv;obtain⟨t,rfl⟩:=(show∃t,v=Value.str _ t from r1);exact NV g (k _ H1 l (Ij _))
 ·exact k.elim
noncomputable def CQ(lo:Int)(n:Nat):List Tr:=(List.range n).map λk=>Tr.int (lo+(k:Nat))
def pU(lo:Int)(n:Nat):(CQ lo n).length=n:=by simp[CQ]
theorem CT(lo:Int)(n:Nat):lV K B (ZG lo n) H (CQ lo n) where
 go:=λi B' H' hi _ _=>by rw[pU]at hi;exact hi
 F8:=λi B' H' x b hi s hb ⟨e,y⟩=>by
  subst e;subst y;rw[pU]at hi;refine⟨bg.refl _,.int (lo+i),?_,.int _⟩;unfold CQ;rw[ck,List.getElem?_range hi]
  rfl
 stop:=λB' H' s=>by rw[pU];exact bz _
def Gv(l:Rs (List Tr)):Rs (List Tr):=l.bind λts=>match ts with
 |[.int j]=>if-4611686018427387904<=j/\j<4611686018427387904 then .ok (CQ 0 j.toNat)else .bad
 |_=>.bad
def PI.weak {c5:Expr}{t t':TI}(h:PI X tg c5 t)(w:∀Z H R,t' Z H R->t Z H R):PI X tg c5 t':=λU s Z H R I q=>h U s Z H R I (w Z H R q)
theorem Kw(hm:X.mg "range"=none)(ha:PA X [a] (CM X L))(hg:Gl X "range":=by rfl) (hs:bA [a]=true:=by rfl):PI X tg (.Call (.Name "range" p) [a] [] pos) (tI X λY=>Gv (L Y)):=
 (HN hg hm ha (by rw[bL _ _ (bq hs).1];rfl)).weak λZ H R ⟨B,Y,hb,r,q⟩=>⟨B,Y,hb,r,q.bind.mono λts b vs H1 s1 g=>by
  split at b
  ·rename_i j;cases g with
   |cons l g=>
    cases l;cases g;split at b
    ·rename_i n;exact⟨j,rfl,by omega,by omega,b _ H1 s1 (CT 0 _)⟩
    ·exact b.elim
  ·exact b.elim⟩
def NW{α:Type}(r:Rs α):Rs α:=match r with
 |.ok a=>.ok a
 |_=>.bad
noncomputable def ur(ix:List (Option Nat))(Y:bV):bV:=ix.map λo=>match o with
 |none=>.no
 |some j=>match Y[j]? with
  |some (.sh t)=>.sh t
  |_=>.no
def cI.comp {B':fh}{H':Hp}{Y:bV}(ix:List (Option Nat))(h:cI K B H Z Y)(s:e_ (cj B H) (cj B' H')):cI K B' H' (ju ix Z) (ur ix Y):=by
 have no:∀(i:Nat) (c:Cell),(ur ix Y)[i]?=some c->c=.no\/∃j t,ix[i]?=some (some j)/\Y[j]?=some (.sh t)/\c=.sh t:=λi c e=>by
  unfold ur at e;rw[ck]at e;cases q:ix[i]? with
  |none=>rw[q]at e;cases e
  |some o=>
   rw[q]at e;cases o with
   |none=>exact .inl (Option.some.inj e).symm
   |some j=>
    have l:(match Y[j]? with|some (Cell.sh t)=>Cell.sh t|_=>Cell.no)=c:=Option.some.inj e;split at l
    ·rename_i t b;exact .inr ⟨j,t,rfl,b,l.symm⟩
    ·exact .inl l.symm
 refine⟨by unfold ur ju;rw[bu,bu],λi t e=>?_,λi ts e=>?_,λi j ts us D _ e=>?_⟩
 ·rcases no i _ e with q|⟨j,u,n,b,g⟩
  ·cases q
  ·cases g;obtain⟨v,r,r1⟩:=h.sh j t b;refine⟨v,?_,r1.same s⟩;unfold ju;rw[ck,n];show some ((Z[j]?).join)=_;rw[r]
   rfl
 ·rcases no i _ e with q|⟨j,u,n,b,g⟩
  ·cases q
  ·cases g
 ·rcases no i _ e with q|⟨j,u,n,b,g⟩
  ·cases q
  ·cases g
def ER(T:oQ)(A:bV->Rs Bool)(F:bV->Rs Tr):List Tr->bV->Rs (List Tr)
 |[],_=>.ok []
 |t::ts,Y=>(NW (T t Y)).bind λb=>(NW (A b)).bind λk=>if k then(NW (F b)).bind λy=>(ER T A F ts b).bind λys=>.ok (y::ys)else ER T A F ts b
def vI(ix:List (Option Nat))(T:oQ)(A:bV->Rs Bool)(F:bV->Rs Tr)(l:Rs (List Tr))(Y:bV):Rs Tr:=l.bind λts=>if ts.length<=ee then(ER T A F ts (ur ix Y)).bind λys=>.ok (.lst ys)else .bad
def mX(B:fh)(D:Addr):fh:=⟨λb=>B.hd b||b==D,B.ix⟩
def kX{D:Addr}{o:HO}(hD:H D=none):e_ (cj B H) (cj (mX B D) (upd H D o)):=⟨λb u e=>by
 have g:=bI b u e;have l:b≠D:=bS g hD;have r:B.hd b=false:=by
  cases q:B.hd b with
  |false=>rfl
  |true=>
   have n:(if B.hd b=true then none else H b)=some u:=e;rw[q,aW rfl]at n;cases n
 rw[gf (show(B.hd b||b==D)=false by rw[r,kn l];rfl),bp l];exact g,λ_ _ e=>e⟩
def Gw{o:HO}(h:HB B H)(hD:H au=none):HB (mX B au) (upd H au o):=λb e=>by
 by_cases q:b=au
 ·subst q;exact⟨o,bM⟩
 ·have g:(B.hd b||b==au)=true:=e;rw[kn q,mK]at g;rw[bp q];exact h b g
def zW:(mX B au).hd au=true:=by show(B.hd au||au==au)=true;rw[bU,tV]
def uu{o:HO}:cj (mX B au) (upd H au o)=cj (mX B au) H:=by
 unfold cj;congr 1;funext b;by_cases q:b=au
 ·subst q;rw[aW zW,aW zW]
 ·rw[bp q]
def Gx:vH B (mX B au):=⟨λb e=>by show(B.hd b||b==au)=true;rw[e,tU],λ_ _ e=>e⟩
def CU:e_ (cj (mX B au) H) (cj B H):=xX Gx
def fT(Y:bV):Prop:=∀(i:Nat) (ts:List Tr),Y[i]? ≠some (.ow ts)
def jV(T:oQ):Prop:=∀t Y b,fT Y->T t Y=.ok b->fT b
theorem fT.set {Y:bV}(h:fT Y)(i:Nat)(t:Tr):fT (Y.set i (.sh t)):=λj ts e=>by
 rcases fR e with⟨_,_,q⟩|⟨_,q⟩
 ·cases q
 ·exact h j ts q
def fU(i:Nat):jV (gN i):=λt Y b h e=>by cases e;exact h.set i t
theorem Gy:∀{is:List Nat} {ts:List Tr} {Y q:bV},fT Y->EO is ts Y=.ok q->fT q
 |[],[],_,_,h,e=>by cases e;exact h
 |[],_::_,_,_,_,e=>by cases e
 |_::_,[],_,_,_,e=>by cases e
 |i::is,t::ts,_,_,h,e=>Gy (is:=is) (ts:=ts) (h.set i t) e
def ES(is:List Nat):jV (gT is):=λt Y b h e=>by
 cases t with
 |tup ts=>exact Gy h e
 |_=>cases e
def wA(ix:List (Option Nat))(Y:bV):fT (ur ix Y):=λi ts e=>by
 unfold ur at e;rw[ck]at e;cases q:ix[i]? with
 |none=>rw[q]at e;cases e
 |some o=>
  rw[q]at e;cases o with
  |none=>cases e
  |some j=>
   have b:(match Y[j]? with|some (Cell.sh t)=>Cell.sh t|_=>Cell.no)=.ow ts:=Option.some.inj e;split at b<;>cases b
def ET{r:Rs ag}{k:ag->Prop}(h:qQ aB (NW r) k):∃a,r=.ok a/\k a:=by
 cases r with
 |ok a=>exact⟨a,rfl,h⟩
 |_=>exact h.elim
inductive Qf(K:Frag)(F:bV->Rs Tr)(Z:St)(H:Hp)(Q:VK):Prop
 |mk (B:fh) (Y:bV):HB B H->cI K B H Z Y->(∃t,F Y=.ok t/\∀v H',bg H H'->Rep K (cj B H') v t->Q v H')->Qf K F Z H Q
inductive Qg(K:Frag)(F:bV->Rs Bool)(Z:St)(H:Hp)(Q:Bool->Hp->Prop):Prop
 |mk (B:fh) (Y:bV):HB B H->cI K B H Z Y->(∃b,F Y=.ok b/\∀H',bg H H'->Q b H')->Qg K F Z H Q
inductive Qh(K:Frag)(T:oQ)(v:V)(Z:St)(H:Hp)(Q:St->Hp->Prop):Prop
 |mk (B:fh) (Y:bV) (t:Tr):HB B H->cI K B H Z Y->Rep K (cj B H) v t->(∃iB,T t Y=.ok iB/\∀dF H',bg H H'->cI K B H' dF iB->Q dF H')->Qh K T v Z H Q
def Se{Q:VK}:Qf X.K F Z H Q->tP X F Z H Q:=λ⟨B,Y,hb,r,t,e,q⟩=>⟨B,Y,hb,r,by rw[e];exact q⟩
def Sf{Q:Bool->Hp->Prop}:Qg X.K aF Z H Q->tQ X aF Z H Q:=λ⟨B,Y,hb,r,t,e,q⟩=>⟨B,Y,hb,r,by rw[e];exact q⟩
def Sg{T:oQ}{v:V}{Q:St->Hp->Prop}:Qh X.K T v Z H Q->tG X T v Z H Q:=λ⟨B,Y,t,hb,r,rt,iB,e,q⟩=>⟨B,Y,t,hb,r,rt,by rw[e];exact q⟩
theorem wB{J:It}{D:Addr}{ZJ:St}{NX:bV}{T:oQ}{Q:Hp->Prop}(hT:jV T)(h0:fT NX)(hb:HB B H)(gt:lV K B J H ts)(hz:ts.length<=ee)(r:cI K (mX B D) (upd H D (.lst [])) ZJ NX)(hD:H D=none)
  {k:List Tr->Prop} (q:qQ aB (ER T A F ts NX) k) (hQ:∀ys H',k ys->bg H H'->Rep K (cj B H') (.ref D) (.lst ys)->Q H'):LcW J D ZJ (upd H D (.lst [])) (Qh K T) (Qg K A) (Qf K F) Q:=by
 refine⟨λi m Z H'=>m=ts.length - i/\i<=ts.length/\bg H H'/\HB (mX B D) H'/\e_ (cj B H) (cj (mX B D) H')/\∃Y vs us,fT Y/\cI K (mX B D) H' Z Y/\H' D=some (.lst vs)/\vs.length<=i/\bP K (cj (mX B D) H') vs us/\qQ aB (ER T A F (ts.drop i) Y) (λys=>k (us++ys)),
  ⟨_,rfl,d9 _,bg.upd hD,Gw hb hD,kX hD,NX,[],[],h0,r,bM,bz _,.nil,q⟩,?_⟩
 rintro i m Z H' ⟨rfl,hi,sm,g,jU,Y,vs,us,no,rs,hd,hl,rv,M⟩
 by_cases S:i<ts.length
 ·rw[oW S]at M;refine .inr ⟨gt.go i _ H' S jU g,λwy H2=>bg H H2/\HB (mX B D) H2/\e_ (cj B H) (cj (mX B D) H2)/\∃Y vs us,fT Y/\cI K (mX B D) H2 wy Y/\H2 D=some (.lst vs)/\vs.length<=i+1/\bP K (cj (mX B D) H2) vs us/\qQ aB (ER T A F (ts.drop (i+1)) Y) (λys=>k (us++ys)),
   λwy H2 h=>⟨ts.length - (i+1),by omega,rfl,S,h⟩,λx H2 hx=>?_⟩
  obtain⟨s2,t,et,rt⟩:=gt.F8 i _ H' x H2 S jU g hx;have Si:ts[i]=t:=by rw[bY S]at et;exact Option.some.inj et
  rw[Si]at M;obtain⟨L,eT,q1⟩:=ET (qQ.bind M);have l:=hT t Y L no eT;refine⟨_,Y,t,g.same s2,rs.same s2,rt,L,eT,λNm H3 s3 r3=>?_⟩;have s23:=s2.trans s3;obtain⟨c,eA,qc⟩:=ET (qQ.bind q1);refine⟨_,L,g.same s23,r3,c,eA,λH4 s4=>?_⟩;have n:=s23.trans s4;have g4:bg H H4:=sm.trans n;cases c with
  |false=>
   exact RY ⟨g4,g.same n,jU.trans (bJ n),L,vs,us,l,r3.same s4,n _ _ hd,by omega,rv.same (bJ n),qc⟩
  |true=>
   obtain⟨y,eF,qy⟩:=ET (qQ.bind qc);refine RZ ⟨_,L,g.same n,r3.same s4,y,eF,λv H5 s5 r5=>?_⟩;have WJ:=n.trans s5;refine⟨vs,WJ _ _ hd,by rw[<-i_];omega,(sm.trans WJ).A7 hD,?_,?_,L,vs++[v],us++[y],l,?_,bM,by rw[eR];exact Nat.add_le_add_right hl 1,?_,?_⟩
   ·intro b e;by_cases q:b=D
    ·subst q;exact⟨_,bM⟩
    ·rw[bp q];exact(g.same WJ) b e
   ·rw[uu];exact jU.trans (bJ WJ)
   ·have I:=(r3.same s4).same s5;refine⟨I.len,λi t e=>?_,λi ts e=>(l i ts e).elim,I.ap⟩;rw[uu];exact I.sh i t e
   ·rw[uu];exact(rv.same (bJ WJ)).append (.cons r5 .nil)
   ·exact(qQ.bind qy).mono λys q=>by rw[xj];exact q
 ·have e:i=ts.length:=by omega
  subst e;rw[pj]at M;refine .inl ⟨gt.stop _ H' jU,hQ us H' (by have:=(show k (us++[])from M);rw[kl]at this;exact this) sm (.lst ?_ (rv.same CU))⟩;rw[gf (hb.free hD)];exact hd
variable {scope:Scope}{N':List Str}{ix:List (Option Nat)}{elt c5:Expr}{ifs:List Expr}{T:oQ}{W:bV->Rs (List Tr)}
theorem WK:PF X [] (tQ X λ_=>.ok true):=λU s Z H Q I ⟨B,Y,hb,r,q⟩=>R3 U s Z H Q I (q H (bg.refl H))
def WL(h:PT X c (tQ X A)):PF X [c] (tQ X A):=R4 h
def CV{Q:VK}(hT:jV T)(q:tP X (λY=>vI ix T A F (W Y) Y) Z H Q):U7 (tI X W) ix (Qh X.K T) (Qg X.K A) (Qf X.K F) Z H Q:=by
 obtain⟨B,Y,hb,r,q⟩:=q;refine⟨B,Y,hb,r,q.bind.mono λts b J H1 s1 gt D g=>?_⟩;by_cases hz:ts.length<=ee
 ·rw[aW hz]at b;exact wB hT (wA ix Y) (hb.same s1) gt hz ((r.same s1).comp ix (kX g)) g (Fi.bind b) λys H' k s' l=>k _ H' (s1.trans s') l
 ·rw[bc hz]at b;exact b.elim
structure NY(X:Cx)(scope:Scope)(N':List Str)(tg elt:Expr)(ifs:List Expr)(T:oQ)(A:bV->Rs Bool)(F:bV->Rs Tr):Prop where
 all:∀s H ex,PG (uo X scope N' s H ex) tg (tG (uo X scope N' s H ex) T)/\PF (uo X scope N' s H ex) ifs (tQ (uo X scope N' s H ex) A)/\PE (uo X scope N' s H ex) elt (tP (uo X scope N' s H ex) F)
theorem NY.U' {F:bV->Rs Tr}(h:NY X scope N' tg elt ifs T A F):∀s H ex,PG (uo X scope N' s H ex) tg (Qh X.K T)/\PF (uo X scope N' s H ex) ifs (Qg X.K A)/\PE (uo X scope N' s H ex) elt (Qf X.K F):=λs H ex=>by
 obtain⟨b,h2,g⟩:=h.all s H ex;exact⟨λU s Z H v u Q I r q=>b U s Z H v u Q I r (Sg q),λU s Z H Q I q=>h2 U s Z H Q I (Sf q),λU s Z H Q I q=>g U s Z H Q I (Se q)⟩
theorem aaS(Lk:gY X N' ix scope)(hi:PI X tg c5 (tI X W))(lJ:NY X scope N' tg elt ifs T A F)(hT:jV T)(hc:X.calm=true:=by rfl) (hs:isSet c5=false:=by rfl):
  PE X (.ListComp elt [⟨tg,c5,ifs,0⟩] scope pos) (tP X λY=>vI ix T A F (W Y) Y):=
 (Km Lk hc hi lJ.U' (gC hs)).weak λZ H Q q=>CV hT q
theorem NZ(Lk:gY X N' ix scope)(hit:PI X tg c5 (tI X W))(lJ:NY X scope N' tg elt ifs T A F)(hT:jV T)(hN:X.N.Nodup:=by assumption) (hc:X.calm=true:=by rfl) (hi:X.N[i]?=some x:=by rfl) (hx:Loc X.env.scope x:=by first|exact Or.inl rfl|exact Or.inr rfl)
  (HZ:swapsWith (.ListComp elt [⟨tg,c5,ifs,0⟩] scope pos) (some (.Name x p)) b8.line X.env=pure true:=by rfl) (hs:isSet c5=false:=by rfl) (hf:zf X x:=by first|exact .inl rfl|exact .inr rfl|assumption):
  PS X (.Assign [.Name x p] (.ListComp elt [⟨tg,c5,ifs,0⟩] scope pos) b8) (tS X λY=>Ks i (vI ix T A F (W Y) Y) Y):=
 (xV Lk hc hN hi hx hit lJ.U' HZ (gC hs) hf).weak λD Z H ⟨C,B0,H0,B,Y,b,r,q⟩=>CV hT (Gr (F:=λY=>vI ix T A F (W Y) Y) b r q.bind λt v H1 g s1 l n I=>g _ B H1 l (n.set i I))
def dI(r:Rs Out):Rs Tr:=r.bind λo=>match o with
 |.nx _=>.ok .cA
 |.ret t=>.ok t
 |_=>.bad
def zg.okT {base:Heap}{qual:Str}{f:Addr}{fd:FuncData}{N:List Str}{k:Nat}(Fn:zg K x qual ai f fd)(S:hW N ps (bH ai))(len:∀ts t,h ts=.ok t->ts.length=ps.length)
  (kW:∀(f_:Value) (A:Around) (outer:List Env) (s:Shared) (H:Hp) (E:XK),di k (A.deeper (envOfC qual (bH ai) s.heap.objs.size f f_))->
   ∃G,oU (oP mw P w K mg base N qual (bH ai) f f_ A outer s H E).Jz (fZ ai) (tS (oP mw P w K mg base N qual (bH ai) f f_ A outer s H E).Jz G)/\∀ts t,h ts=.ok t->dI (G (startT N.length ts))=.ok t):eI P w K mg base mw (k+1) f fd ps (spT K h):=by
 refine Fn.ok S (λvs H Q E q=>?_) (λf_ A outer s H vs Q E I q=>?_)
 ·obtain⟨B,ts,hb,r,t,e,_⟩:=q;rw[r.length];exact len ts t e
 ·obtain⟨B,ts,hb,r,t,e,q⟩:=q;obtain⟨G,L,M⟩:=kW f_ A outer s H E I;refine⟨_,L,B,B,H,B,startT N.length ts,eE.refl hb vH.refl,cI.start r,?_⟩;have b:=M ts t e;cases l:G (startT N.length ts)with
  |ok o=>
   rw[l]at b;cases o with
   |nx Y=>cases b;exact λdF B' H' g n=>q .cA H' g.same .cA
   |ret u=>cases b;exact λv B' H' g n=>q v H' g.same n
   |_=>cases b
  |_=>rw[l]at b;cases b
end
theorem N0:u6 X (binaryOp .Add) (λx y H Q=>∃(a b:Addr) (xs ys:List V),x=.ref a/\y=.ref b/\js X.K H a xs/\js X.K H b ys/\xs.length+ys.length<=sizeLine/\(xs=[]->Q (.ref b) H)/\(ys=[]->Q (.ref a) H)/\∀p,H p=none->Q (.ref p) (upd H p (.tup (xs++ys)))):=by
 intro U s Z H x y v u Q I g l h;obtain⟨a,b,xs,ys,rfl,rfl,ha,hb,hz,L,M,S⟩:=h;by_cases r:xs=[]
 ·subst r;cases(show v=Value.ref a from g);cases(show u=Value.ref b from l);obtain⟨i1,r1,p1,_⟩:=I.tuple ha;obtain⟨i2,r2,p2,_⟩:=I.tuple hb;cases r1;obtain⟨dd,n,sl,h1⟩:=vd p1;obtain⟨q,n2,Zp,h2⟩:=vd p2;exact concat_meets ⟨_,h1,rfl⟩ ⟨_,h2,rfl⟩ noFill_tuple_add seq_tuple_add PySem.F.slot_tuple_add PySem.F.entry_tuple_add (PySem.F.args_tuple_add_2 _ _) (tuple_addW0 a b _ _ n n2 dd q sl Zp rfl) ⟨h1,h2,⟨.ref b,H,I,rfl,L rfl⟩⟩
 ·exact Ny U s Z H _ _ v u Q I g l ⟨a,b,xs,ys,rfl,rfl,ha,hb,r,hz,M,λ_ p hp=>S p hp⟩
def Rep.up {v:V}{t:Tr}(r:Rep K (cj B H) v t):Rep K (raw B H) v t:=r.same fH
def js.up {xs:List V}(h:js K (cj B H) a xs):js K H a xs:=bg.tup bI h
def eB{o:HO}(h:cj B H a=some o):H a=some o:=bI _ _ h
def Rep.Sk {p:Addr}{vs:List V}(hb:HB B H)(hp:H p=none)(r:bP K (cj B H) vs ts):Rep K (cj B (upd H p (.tup vs))) (.ref p) (.tup ts):=.tup (.of (hb.new hp)) (r.same (bJ (bg.upd hp)))
def Rep.zt {p:Addr}{vs:List V}(hb:HB B H)(hp:H p=none)(r:bP K (cj B H) vs ts):Rep K (cj B (upd H p (.lst vs))) (.ref p) (.lst ts):=.lst (hb.new hp) (r.same (bJ (bg.upd hp)))
def CW{H:Vw}(h:bP K H [] ts):ts=[]:=by cases h;rfl
def Sl(h:x.length+av.length<=dc):(x++av).length<=dc:=by rw[oX];exact h
def wa:Tr->Tr->Rs Tr
 |.int i,.int j=>.ok (.int (i+j))
 |.str a,.str b=>if a.length+b.length<=dc then .ok (.str (a++b))else .bad
 |.tup a,.tup b=>if a.length+b.length<=ee then .ok (.tup (a++b))else .bad
 |.lst a,.lst b=>if a.length+b.length<=ee then .ok (.lst (a++b))else .bad
 |_,_=>.bad
def gM{c:Prop}[Decidable c]{t:ag}{k:ag->Prop}(h:Fi X H (if c then Rs.ok t else .bad) k):c/\k t:=by
 by_cases b:c
 ·rw[aW b]at h;exact⟨b,h⟩
 ·rw[bc b]at h;exact h.elim
theorem iI:Cg X (binaryOp .Add) wa:=by
 intro U s Z H x y v u Q I n r ⟨B,tx,ty,hb,r1,r2,q⟩;unfold wa at q;split at q
 ·exact Rr U s Z H _ _ v u Q I n r ⟨_,_,r1.int_inv,r2.int_inv,q _ H (bg.refl H) (.int _)⟩
 ·have f:=gM q;exact EA U s Z H _ _ v u Q I n r ⟨_,_,r1.str_inv.1,r2.str_inv.1,cF f.1 lT,f.2 _ H (bg.refl H) (.str _ (Sl f.1))⟩
 ·have f:=gM q;obtain⟨a,as,L,h1,g⟩:=r1.dY;obtain⟨b,bs,M,h2,l⟩:=r2.dY;exact N0 U s Z H _ _ v u Q I n r ⟨_,_,_,_,L,M,h1.up,h2.up,by rw[g.length,l.length,<-i_];exact f.1,λe=>f.2 _ H (bg.refl H) (by subst e;rw[CW g,<-M];exact r2),λe=>f.2 _ H (bg.refl H) (by subst e;rw[CW l,kl,<-L];exact r1),λp hp=>f.2 _ _ (bg.upd hp) (.Sk hb hp (g.append l))⟩
 ·have f:=gM q;obtain⟨a,as,L,h1,g⟩:=r1.lst_inv;obtain⟨b,bs,M,h2,l⟩:=r2.lst_inv;exact Kb U s Z H _ _ v u Q I n r ⟨_,_,_,_,L,M,eB h1,eB h2,by rw[g.length,l.length,<-i_];exact f.1,λp hp=>f.2 _ _ (bg.upd hp) (.zt hb hp (g.append l))⟩
 ·exact fe q
noncomputable def Ik:Tr->Tr->Rs Tr
 |.int i,.int j=>if 0<j then .ok (.int (i % j))else .bad
 |_,_=>.bad
theorem CY:Cg X (binaryOp .Mod) Ik:=by
 intro U s Z H x y v u Q I b g ⟨B,tx,ty,hb,r1,r2,q⟩;unfold Ik at q;split at q
 ·have f:=gM q;exact Ru U s Z H _ _ v u Q I b g ⟨_,_,r1.int_inv,r2.int_inv,f.1,f.2 _ H (bg.refl H) (.int _)⟩
 ·exact fe q
def yb(i j:Int):Prop:=(-18446744073709551616<i/\i<18446744073709551616)\/(-18446744073709551616<j/\j<18446744073709551616)
def yb.cm {i j:Int}(h:yb i j):JW i j:=by
 unfold yb at h;unfold JW;omega
instance (i j:Int):Decidable (yb i j):=by unfold yb;infer_instance
def Il:Tr->Tr->Rs Tr
 |.int i,.int j=>if yb i j then .ok (.int (i*j))else .bad
 |.str z,.int n=>if 0<=n/\n<=1000/\z.length<=1000 then .ok (.str (Txt.mul z n))else .bad
 |.lst ts,.int n=>if 0<=n/\n<=1000/\ts.length*n.toNat<=ee then .ok (.lst (List.replicate n.toNat ts).flatten)else .bad
 |_,_=>.bad
def N1:u6 X (binaryOp .Mult) (λx y H Q=>∃(l:Addr) (k:Int) (xs:List V),x=.ref l/\y=.int k/\H l=some (.lst xs)/\-(2 ^63)<=k/\k<2 ^63/\xs.length*k.toNat<=sizeLine/\∀p,H p=none->Q (.ref p) (upd H p (.lst (List.replicate k.toNat xs).flatten))):=RM
def N2{n:Int}(h0:0<=n)(q:n<=1000)(hz:x.length<=1000):(Txt.mul x n).length<=dc:=by
 have e:=PyProof.Rows.len_mul x n;split at e
 ·have:((Txt.mul x n).length:Int)=0:=e;unfold dc;omega
 ·have h2:(x.length:Int)*n<=1000*1000:=Int.mul_le_mul (by omega) q h0 (by decide);have b:((Txt.mul x n).length:Int)=(x.length:Int)*n:=e;unfold dc;omega
theorem Kx:Cg X (binaryOp .Mult) Il:=by
 intro U s Z H x y v u Q I b g ⟨B,tx,ty,hb,r1,r2,q⟩;unfold Il at q;split at q
 ·have f:=gM q;exact Rt U s Z H _ _ v u Q I b g ⟨_,_,r1.int_inv,r2.int_inv,f.1.cm,f.2 _ H (bg.refl H) (.int _)⟩
 ·have f:=gM q;exact NP U s Z H _ _ v u Q I b g ⟨_,_,r1.str_inv.1,r2.int_inv,PyProof.Rows.mulOk_of 1000 1000 f.1.2.2 f.1.2.1 (Int.le_trans (by decide) f.1.1) (by decide) (by decide),f.2 _ H (bg.refl H) (.str _ (N2 f.1.1 f.1.2.1 f.1.2.2))⟩
 ·have f:=gM q;obtain⟨a,as,n,h1,l⟩:=r1.lst_inv;exact N1 U s Z H _ _ v u Q I b g ⟨_,_,_,n,r2.int_inv,eB h1,Int.le_trans (by decide) f.1.1,Int.lt_of_le_of_lt f.1.2.1 (by decide),by rw[l.length,<-i_];exact f.1.2.2,λp hp=>f.2 _ _ (bg.upd hp) (.zt hb hp (l.rep _))⟩
 ·exact fe q
mutual
noncomputable def eqT:Tr->Tr->Bool
 |.cA,.cA=>true
 |.bl a,.bl b=>a==b
 |.bl a,.int b=>(if a then 1 else 0)==b
 |.int a,.bl b=>a==(if b then 1 else 0)
 |.int a,.int b=>a==b
 |.str a,.str b=>a==b
 |.tup a,.tup b=>EU a b
 |.lst a,.lst b=>EU a b
 |_,_=>false
noncomputable def EU:List Tr->List Tr->Bool
 |[],[]=>true
 |x::xs,y::ys=>eqT x y&&EU xs ys
 |_,_=>false
end
mutual
noncomputable def sk:Tr->Bool
 |.cA=>true
 |.bl _=>true
 |.int _=>true
 |.str _=>true
 |.tup ts=>yc ts
 |.lst ts=>yc ts
 |_=>false
noncomputable def yc:List Tr->Bool
 |[]=>true
 |t::ts=>sk t&&yc ts
end
mutual
noncomputable def dT:Tr->Nat
 |.tup ts=>Sm ts+1
 |.lst ts=>Sm ts+1
 |_=>0
noncomputable def Sm:List Tr->Nat
 |[]=>0
 |t::ts=>max (dT t) (Sm ts)
end
theorem pV:∀{ts:List Tr},yc ts=true->∀t∈ts,sk t=true
 |[],_,t,h=>nomatch h
 |u::us,h,t,m=>by
  rw[yc,bW]at h;rcases bG.mp m with rfl|m
  ·exact h.1
  ·exact pV h.2 t m
theorem Bc:∀{ts:List Tr},∀t∈ts,dT t<=Sm ts
 |[],t,h=>nomatch h
 |u::us,t,m=>by
  rw[Sm];rcases bG.mp m with rfl|m
  ·exact Nat.le_max_left _ _
  ·exact cF (Bc t m) (Nat.le_max_right _ _)
theorem C0:∀(xs ys:List Tr),((List.range (min xs.length ys.length)).all (λj=>eqT (xs.getD j .cA) (ys.getD j .cA))&&xs.length==ys.length)=EU xs ys
 |[],[]=>rfl
 |[],y::ys=>rfl
 |x::xs,[]=>rfl
 |x::xs,y::ys=>by
  have b:=C0 xs ys;rw[EU,<-b,dB,dB,Nat.succ_min_succ,List.range_succ_eq_map,iG,pF,Bool.and_assoc];congr 1;have g:(xs.length+1==ys.length+1)=(xs.length==ys.length):=by rw[mI,fg,fg];omega
  rw[g]
  rfl
def N3{u:Value}{k:Bool}(q:∀b t,af≠Value.float b t)(hs:af=u->k=true)(h:SeqAt.RcAt A s af u k):SeqAt.EqAt A s af u k:=λprog w E Q g=>by
 unfold eqBool;refine fG ?_
 refine mJ (λl=>?_) (λ_=>?_)
 ·rw[hs (eq_of_beq l)]at g;exact aT (fL (bf g))
 ·cases af with
  |float b t=>exact absurd rfl (q b t)
  |_=>exact aT (h prog w E _ (pq g))
section
variable {rL:Addr->Option Nat}
theorem vJ(I:Inv X U Z H s){ws:List V}(q:js X.K H a ar)(h2:H a=some (.lst ws)):False:=by
 obtain⟨_,_,⟨o,e,c,_⟩,_⟩:=I.tuple q;obtain⟨_,cy,n,_,b⟩:=I.cY a _ h2;rw[e]at b;cases b;exact absurd c (by show¬(Value.type "list"=.type "tuple");decide+kernel)
noncomputable def vT:V->Tr
 |.cA=>.cA
 |.bl b=>.bl b
 |.int i=>.int i
 |.str z=>.str z
 |_=>.at 0
def pW{W:Vw}{x:V}{t:Tr}(r:Rep K W x t)(p:sk t=true):(∃ts,t=.tup ts)\/(∃ts,t=.lst ts)\/t=vT x:=by
 cases r<;>first|(cases p;done)|exact .inr (.inr rfl)|exact .inl ⟨_,rfl⟩|exact .inr (.inl ⟨_,rfl⟩)
def uv{W:Vw}{x:V}{t':Tr}(e:aC=vT x)(p:sk aC=true)(p':sk t'=true)(q:Rep K W x t'):aC=t':=by
 rcases pW q p' with⟨ts,rfl⟩|⟨ts,rfl⟩|b
 ·obtain⟨a,_,rfl,_⟩:=q.dY;rw[e]at p;cases p
 ·obtain⟨a,_,rfl,_⟩:=q.lst_inv;rw[e]at p;cases p
 ·rw[e,b]
theorem N4(I:Inv X U Z H s):∀(n:Nat) {x:V} {t t':Tr},dT t<=n->sk t=true->sk t'=true->Rep X.K (⟨H,rL⟩:Vw) x t->Rep X.K (⟨H,rL⟩:Vw) x t'->t=t':=by
 intro n
 induction n with
 |zero=>
  intro x t t' hd p p' r b;rcases pW r p with⟨ts,rfl⟩|⟨ts,rfl⟩|e
  ·exact absurd hd (Nat.not_succ_le_zero _)
  ·exact absurd hd (Nat.not_succ_le_zero _)
  ·exact uv e p p' b
 |succ n ih=>
  intro x t t' hd p p' r b;have go:∀{vs:List V} {ts zX:List Tr},Sm ts<=n->yc ts=true->yc zX=true->bP X.K (⟨H,rL⟩:Vw) vs ts->bP X.K (⟨H,rL⟩:Vw) vs zX->ts=zX:=by
   intro vs ts zX k1 k2 k3;have l:=λt m=>cF (Bc (ts:=ts) t m) k1;have h2:=pV k2;have L:=pV k3
   clear hd p p' r b k1 k2 k3
   induction vs generalizing ts zX with
   |nil=>intro q q';cases q;cases q';rfl
   |cons v vs M=>
    intro(.cons qh qr) (.cons S qr');rw[List.forall_mem_cons]at l h2 L;rw[ih l.1 h2.1 L.1 qh S,M l.2 h2.2 L.2 qr qr']
  rcases pW r p with⟨ts,rfl⟩|⟨ts,rfl⟩|e
  ·rcases pW b p' with⟨zX,rfl⟩|⟨zX,rfl⟩|e
   ·obtain⟨a,vs,rfl,h,rr⟩:=r.dY;obtain⟨_,N5,e,h',g⟩:=b.dY;cases e;cases I.qP h h';rw[go (w4 hd) p p' rr g]
   ·obtain⟨a,vs,rfl,h,rr⟩:=r.dY;obtain⟨_,N5,e,h',g⟩:=b.lst_inv;cases e;exact(vJ I h h').elim
   ·exact(uv e p' p r).symm
  ·rcases pW b p' with⟨zX,rfl⟩|⟨zX,rfl⟩|e
   ·obtain⟨a,vs,rfl,h,rr⟩:=r.lst_inv;obtain⟨_,N5,e,h',g⟩:=b.dY;cases e;exact(vJ I h' h).elim
   ·obtain⟨a,vs,rfl,h,rr⟩:=r.lst_inv;obtain⟨_,N5,e,h',g⟩:=b.lst_inv;cases e;cases h.symm.trans h';rw[go (w4 hd) p p' rr g]
   ·exact(uv e p' p r).symm
  ·exact uv e p p' b
mutual
theorem C5:∀{t:Tr},sk t=true->eqT t t=true
 |.cA,_=>rfl
 |.bl b,_=>by rw[eqT];exact bU b
 |.int i,_=>by rw[eqT];exact bU i
 |.str z,_=>by rw[eqT];exact bU z
 |.tup ts,h=>by rw[eqT];rw[sk]at h;exact ve h
 |.lst ts,h=>by rw[eqT];rw[sk]at h;exact ve h
 |.ty _,h=>by cases h
 |.vF _,h=>by cases h
 |.bX _,h=>by cases h
 |.at _,h=>by cases h
 |.vG _,h=>by cases h
 |.ob _ _,h=>by cases h
 |.zR _,h=>by cases h
theorem ve:∀{ts:List Tr},yc ts=true->EU ts ts=true
 |[],_=>rfl
 |t::ts,h=>by
  rw[yc,bW]at h;rw[EU,C5 h.1,ve h.2]
  rfl
end
def GA{l:List ag}{x d:ag}(h:l[i]?=some x):l.getD i d=x:=by rw[eN,h];rfl
inductive Sh(K:Frag)(G:Vw)(h:Heap):Tr->Value->Prop
 |cA:Sh K G h .cA .none
 |bl (b:Bool):Sh K G h (.bl b) (.bool b)
 |int (b:Int) (w:Tok):Sh K G h (.int b) (.int b w)
 |str (b:Str) (w:Tok):Sh K G h (.str b) (.str b w)
 |tup {a:Addr} {vs:List V} {ts:List Tr} {us:List Value} (q:h.IsTuple a us.toArray) (rr:bP K G vs ts) (rv:Vals vs us):Sh K G h (.tup ts) (.ref a)
 |lst {a:Addr} {vs:List V} {ts:List Tr} {us:List Value} (q:h.IsList a us.toArray) (rr:bP K G vs ts) (rv:Vals vs us):Sh K G h (.lst ts) (.ref a)
def Be(I:Inv X U Z H s){x:V}{v:Value}{t:Tr}(p:sk t=true)(r:Rep X.K (⟨H,rL⟩:Vw) x t)(rx:RelV x v):Sh X.K ⟨H,rL⟩ s.heap t v:=by
 cases r with
 |cA=>cases(show v=Value.none from rx);exact .cA
 |bl b=>cases(show v=Value.bool b from rx);exact .bl b
 |int b=>obtain⟨w,rfl⟩:=(show∃t,v=Value.int b t from rx);exact .int b w
 |str b _=>obtain⟨w,rfl⟩:=(show∃t,v=Value.str b t from rx);exact .str b w
 |@tup a _ _ h g=>cases(show v=Value.ref a from rx);obtain⟨_,rv,q,_⟩:=I.tuple h;exact .tup q g rv
 |@lst a _ _ h g=>cases(show v=Value.ref a from rx);obtain⟨_,rv,q,_⟩:=I.list (.of h);exact .lst q.isList g rv
 |_=>cases p
def GB(I:Inv X U Z H s)(n:Nat){x y:V}{u:Value}{t:Tr}(hd:dT t<=n)(p:sk t=true)(p':sk aC=true)(r:Rep X.K (⟨H,rL⟩:Vw) x t)(r':Rep X.K (⟨H,rL⟩:Vw) y aC)(rx:RelV x af)(ry:RelV y u)(q:SeqAt.RcAt A s af u (eqT t aC)):SeqAt.EqAt A s af u (eqT t aC):=by
 refine N3 (λb t e=>?_) (λe=>?_) q
 ·subst e;cases r<;>first|(obtain⟨_,z⟩:=rx;cases z;done)|(cases rx;done)
 subst e;rw[rx.inj ry]at r;rw[<-N4 I n hd p p' r r'];exact C5 p
def GC{G:Vw}{A:Around}{u:Value}{t:Tr}(S:Sh K G s.heap t af)(S':Sh K G s.heap aC u)(q:A.units<cLine):(SeqAt.RcAt A s af u (eqT t aC)/\SeqAt.RcNeAt A s af u (!eqT t aC))\/∃ts zX,(t=.tup ts/\aC=.tup zX)\/(t=.lst ts/\aC=.lst zX):=by
 cases S<;>cases S'<;>first|exact .inr ⟨_,_,.inl ⟨rfl,rfl⟩⟩|exact .inr ⟨_,_,.inr ⟨rfl,rfl⟩⟩|(refine .inl ⟨?_,?_⟩<;>simp only[eqT,d8,dA]<;>with_reducible first|exact .none_none|exact .none_bool _|exact .none_int _ _|exact .none_str _ _|exact .none_tuple ‹_› q|exact .none_list ‹_› q|exact .bool_none _|exact .bool_bool _ _|exact .bool_int _ _ _|exact .bool_str _ _ _|exact .bool_tuple _ ‹_› q|exact .bool_list _ ‹_› q|exact .int_none _ _|exact .int_bool _ _ _|exact .int_int _ _ _ _|exact .int_str _ _ _ _|exact .int_tuple _ _ ‹_› q|exact .int_list _ _ ‹_› q|exact .str_none _ _|exact .str_bool _ _ _|exact .str_int _ _ _ _|exact .str_str _ _ _ _|exact .str_tuple _ _ ‹_› q|exact .str_list _ _ ‹_› q|exact .tuple_none ‹_› q|exact .tuple_bool _ ‹_› q|exact .tuple_int _ _ ‹_› q|exact .tuple_str _ _ ‹_› q|exact .tuple_list ‹_› ‹_› q|exact .list_none ‹_› q|exact .list_bool _ ‹_› q|exact .list_int _ _ ‹_› q|exact .list_str _ _ ‹_› q|exact .list_tuple ‹_› ‹_› q)
theorem Sn(I:Inv X U Z H s):∀(n:Nat) {A:Around} {x y:V} {v u:Value} {t t':Tr},dT t<=n->sk t=true->sk t'=true->Rep X.K (⟨H,rL⟩:Vw) x t->Rep X.K (⟨H,rL⟩:Vw) y t'->RelV x v->RelV y u->A.units+n<cLine->SeqAt.RcAt A s v u (eqT t t')/\SeqAt.RcNeAt A s v u (!eqT t t'):=by
 intro n
 induction n with
 |zero=>
  intro A x y v u t t' hd p p' r r' rx ry hu;rcases GC (Be I p r rx) (Be I p' r' ry) (A:=A) (by omega)with h|⟨_,_,⟨rfl,_⟩|⟨rfl,_⟩⟩
  ·exact h
  all_goals exact absurd hd (by rw[dT];omega)
 |succ n ih=>
  intro A x y v u t t' hd p p' r r' rx ry hu;have M:A.units<cLine:=by omega
  have a8:∀{vs N5:List V} {us EW:List Value} {ts zX:List Tr},Sm ts<=n->yc ts=true->yc zX=true->bP X.K (⟨H,rL⟩:Vw) vs ts->bP X.K (⟨H,rL⟩:Vw) N5 zX->Vals vs us->Vals N5 EW->∀(j:Nat) (h1:j<us.toArray.size) (h2:j<EW.toArray.size),
    SeqAt.EqAt A.in1 s us.toArray[j] EW.toArray[j] (eqT (ts.getD j .cA) (zX.getD j .cA)):=by
   intro vs N5 us EW ts zX d1 q1 q2 g L rv b j h1 h2;replace h1:j<us.length:=h1;replace h2:j<EW.length:=h2;have k1:=bY (Nat.lt_of_lt_of_eq h1 rv.length.symm);have k2:=bY (Nat.lt_of_lt_of_eq h2 b.length.symm);obtain⟨t1,e1,p1⟩:=g.xW k1;obtain⟨t2,e2,p2⟩:=L.xW k2;obtain⟨w1,f1,g1⟩:=rv.get k1;obtain⟨w2,f2,g2⟩:=b.get k2;rw[bY h1]at f1;rw[bY h2]at f2;rw[List.getElem_toArray,List.getElem_toArray,Option.some.inj f1,Option.some.inj f2,GA e1,GA e2];have m1:=d7 e1;have q2:=pV q2 _ (d7 e2);have q1:=pV q1 _ m1;have d:=cF (Bc _ m1) d1;exact GB I n d q1 q2 p1 p2 g1 g2 (ih d q1 q2 p1 p2 g1 g2 (by show A.units+1+n<cLine;omega)).1
  have S:=Be I p r rx;have S':=Be I p' r' ry;rcases GC S S' M with h|⟨ts,zX,⟨rfl,rfl⟩|⟨rfl,rfl⟩⟩
  ·exact h
  all_goals
   rw[dT]at hd;have it:=λ{vs N5 us EW}=>@a8 vs N5 us EW _ _ (Nat.le_of_add_le_add_right hd) p p';have e:=C0 ts zX;rw[eqT]
  ·cases S with|tup q g rv=>
   cases S' with|tup q' L b=>
   rw[<-e,<-g.length,<-L.length,rv.length,b.length];exact⟨.tuples q q' M (it g L rv b),.tuples q q' M (it g L rv b)⟩
  cases S with|lst q g rv=>
  cases S' with|lst q' L b=>
  have l:=g.length;have l':=L.length;rw[rv.length]at l;rw[b.length]at l';by_cases hz:ts.length=zX.length
  ·rw[hz,Nat.min_self,bU,Bool.and_true,<-hz,<-l]at e;rw[<-e];exact⟨.lists q q' (by simp;omega) M (it g L rv b),.lists q q' (by simp;omega) M (it g L rv b)⟩
  ·rw[kn hz,xw]at e;rw[<-e];exact⟨.lists_lengths q q' (by simp;omega) M,.lists_lengths q q' (by simp;omega) M⟩
end
def eqC(a b:Tr):Rs Tr:=if sk a=true/\sk b=true/\dT a<=40 then .ok (.bl (eqT a b))else .bad
theorem d5(hu:X.A.units+40<cLine):Cg X (compareOp .Eq) eqC:=by
 intro U s Z H x y v u Q I b g ⟨B,tx,ty,hb,r1,r2,q⟩;obtain⟨⟨p1,p2,hd⟩,k⟩:=gM q;exact(Sn I 40 hd p1 p2 r1.up r2.up b g hu).1 _ _ _ _ ⟨.bl _,H,I,rfl,k _ H (bg.refl H) (.bl _)⟩
section
variable {rL:Addr->Option Nat}
def Ky(I:Inv X U Z H s)(n:Nat){x y:V}{u:Value}{t:Tr}(hd:dT t<=n)(p:sk t=true)(p':sk aC=true)(r:Rep X.K (⟨H,rL⟩:Vw) x t)(q:Rep X.K (⟨H,rL⟩:Vw) y aC)(rx:RelV x af)(ry:RelV y u)(hu:A.units+n<cLine):SeqAt.EqAt A s af u (eqT t aC):=
 GB I n hd p p' r q rx ry (Sn I n hd p p' r q rx ry hu).1
end
def Nf(a b:Tr):Rs Tr:=if sk a=true/\sk b=true/\dT a<=40 then .ok (.bl (!eqT a b))else .bad
theorem Io(hu:X.A.units+40<cLine):Cg X (compareOp .NotEq) Nf:=by
 intro U s Z H x y v u Q I b g ⟨B,tx,ty,hb,r1,r2,q⟩;obtain⟨⟨p1,p2,hd⟩,k⟩:=gM q;exact(Sn I 40 hd p1 p2 r1.up r2.up b g hu).2 _ _ _ _ ⟨.bl _,H,I,rfl,k _ H (bg.refl H) (.bl _)⟩
noncomputable def ltC:Tr->Tr->Rs Tr
 |.int i,.int j=>.ok (.bl (decide (i<j)))
 |.str a,.str b=>.ok (.bl (decide (a.cps.toList<b.cps.toList)))
 |_,_=>.bad
noncomputable def leC:Tr->Tr->Rs Tr
 |.int i,.int j=>.ok (.bl (decide (i<=j)))
 |.str a,.str b=>.ok (.bl (!(decide (b.cps.toList<a.cps.toList))))
 |_,_=>.bad
def gtC:Tr->Tr->Rs Tr
 |.int i,.int j=>.ok (.bl (decide (j<i)))
 |_,_=>.bad
def geC:Tr->Tr->Rs Tr
 |.int i,.int j=>.ok (.bl (decide (j<=i)))
 |_,_=>.bad
theorem Kz:Cg X (compareOp .Lt) ltC:=by
 intro U s Z H x y v u Q I b g ⟨B,tx,ty,hb,r1,r2,q⟩;unfold ltC at q;split at q
 ·exact VN U s Z H _ _ v u Q I b g ⟨_,_,r1.int_inv,r2.int_inv,q _ H (bg.refl H) (.bl _)⟩
 ·exact HQ U s Z H _ _ v u Q I b g ⟨_,_,r1.str_inv.1,r2.str_inv.1,q _ H (bg.refl H) (.bl _)⟩
 ·exact fe q
theorem aaT:Cg X (compareOp .LtE) leC:=by
 intro U s Z H x y v u Q I b g ⟨B,tx,ty,hb,r1,r2,q⟩;unfold leC at q;split at q
 ·exact VO U s Z H _ _ v u Q I b g ⟨_,_,r1.int_inv,r2.int_inv,q _ H (bg.refl H) (.bl _)⟩
 ·exact H_ U s Z H _ _ v u Q I b g ⟨_,_,r1.str_inv.1,r2.str_inv.1,q _ H (bg.refl H) (.bl _)⟩
 ·exact fe q
theorem So:Cg X (compareOp .Gt) gtC:=by
 intro U s Z H x y v u Q I b g ⟨B,tx,ty,hb,r1,r2,q⟩;unfold gtC at q;split at q
 ·exact VP U s Z H _ _ v u Q I b g ⟨_,_,r1.int_inv,r2.int_inv,q _ H (bg.refl H) (.bl _)⟩
 ·exact fe q
theorem WM:Cg X (compareOp .GtE) geC:=by
 intro U s Z H x y v u Q I b g ⟨B,tx,ty,hb,r1,r2,q⟩;unfold geC at q;split at q
 ·exact VQ U s Z H _ _ v u Q I b g ⟨_,_,r1.int_inv,r2.int_inv,q _ H (bg.refl H) (.bl _)⟩
 ·exact fe q
noncomputable def ZP:Tr->Bool
 |.cA=>true
 |_=>false
def GD{H:Vw}{x:V}{t:Tr}(r:Rep K H x t):decide (x=.cA)=ZP t:=by
 cases r<;>rfl
def GF:Tr->Tr->Rs Tr
 |a,.cA=>.ok (.bl (ZP a))
 |.bl a,.bl b=>.ok (.bl (a==b))
 |_,_=>.bad
theorem C6:Cg X (compareOp .Is) GF:=by
 intro U s Z H x y v u Q I b g ⟨B,tx,ty,hb,r1,r2,q⟩;unfold GF at q;split at q
 ·exact Rw U s Z H _ _ v u Q I b g ⟨r2.NQ,by rw[GD r1];exact q _ H (bg.refl H) (.bl _)⟩
 ·exact R6 U s Z H _ _ v u Q I b g ⟨_,_,r1.x8,r2.x8,q _ H (bg.refl H) (.bl _)⟩
 ·exact fe q
noncomputable def fc(bC:List (Key×Tr))(k:Key):Option Tr:=(bC.find? λb=>decide (b.1=k)).map (·.2)
noncomputable def kr:Tr->Option Key
 |.int i=>some (.inl i)
 |.str z=>some (.inr z)
 |_=>none
def nQ{H:Vw}{x:V}{k:Key}(r:Rep K H x aC)(e:kr aC=some k):x=kV k:=by
 cases r with
 |int i=>cases e;rfl
 |str z h=>cases e;rfl
 |_=>cases e
theorem qS{H:Vw}(k:Key):∀{kvs:List (Key×V)} {bC:List (Key×Tr)},kvs.map (·.1)=bC.map (·.1)->bP K H (kvs.map (·.2)) (bC.map (·.2))->(fc bC k=none/\mU kvs k=none)\/∃t v,fc bC k=some t/\mU kvs k=some v/\Rep K H v t
 |[],[],_,_=>.inl ⟨rfl,rfl⟩
 |[],_::_,e,_=>by cases e
 |_::_,[],e,_=>by cases e
 |(k1,v1)::kvs,(k2,b)::bC,e,r=>by
  rw[bO,bO]at e;injection e with g l
  have n:k1=k2:=g;subst n;cases r with
  |cons h r=>
   by_cases q:k1=k
   ·refine .inr ⟨b,v1,?_,ug q,h⟩;unfold fc;rw[km,iF (show(k1,b).1=k from q)]
    rfl
   ·rw[uh q];have I:fc ((k1,b)::bC) k=fc bC k:=by
     unfold fc;rw[km,fF (show¬(k1,b).1=k from q)]
    rw[I];exact qS k l r
def yd{H:Vw}{y:V}{t:Tr}{k:Key}(h:Rd H.H a (.dK kvs))(e:kvs.map (·.1)=aG.map (·.1))(r:bP K H (kvs.map (·.2)) (aG.map (·.2)))(q:Rep K H y t)(hk:kr t=some k):
  ∃o,pR H a y o/\((fc aG k=none/\o=none)\/∃t v,fc aG k=some t/\o=some v/\Rep K H v t):=by
 have b:=nQ q hk;subst b;refine⟨_,.inl ⟨kvs,k,h,rfl,rfl⟩,?_⟩;rcases qS k e r with⟨h1,h2⟩|⟨t,v,h1,h2,g⟩
 ·exact .inl ⟨h1,h2⟩
 ·exact .inr ⟨t,v,h1,h2,g⟩
def ye:Tr->Bool
 |.cA=>true
 |.bl _=>true
 |.int _=>true
 |.str _=>true
 |_=>false
def eU(x:Tr)(u:Value):Bool:=match u with
 |.none=>eqT .cA x
 |.bool b=>eqT (.bl b) x
 |.int i _=>eqT (.int i) x
 |.str z _=>eqT (.str z) x
 |_=>false
theorem EY{H:Vw}{y:V}{t x:Tr}(r:Rep K H y t)(f:ye t=true)(q:RelV y af):eU x af=eqT t x:=by
 cases r with
 |cA=>cases(show af=Value.none from q);rfl
 |bl b=>cases(show af=Value.bool b from q);rfl
 |int i=>obtain⟨w,rfl⟩:=(show∃t,af=Value.int i t from q);rfl
 |str z _=>obtain⟨w,rfl⟩:=(show∃t,af=Value.str z t from q);rfl
 |_=>cases f
theorem yf{H:Vw}{x:Tr}:∀{vs:List V} {ts:List Tr} {us:List Value},bP K H vs ts->ts.all ye=true->Vals vs us->us.any (eU x)=ts.any λy=>eqT y x
 |[],_,_,r,_,rv=>by cases r;cases rv;rfl
 |_::_,_,_,r,f,rv=>by
  cases r with
  |cons h r=>
   cases rv with
   |cons b rv=>
    rw[iG,bW]at f;rw[jr,jr,EY h f.1 b,yf r f.2 rv]
def N7{t:Tr}(f:ye t=true):dT t<=0/\sk t=true:=by cases t<;>first|exact⟨bz _,rfl⟩|cases f
theorem pX{rL:Addr->Option Nat}{A:Around}{x:V}{t:Tr}{v:Value}(I:Inv X U Z H s)(hu:A.units<cLine)(rx:Rep X.K (⟨H,rL⟩:Vw) x t)(p:sk t=true)(rv:RelV x v):∀{vs:List V} {ts:List Tr} {us:List Value},bP X.K (⟨H,rL⟩:Vw) vs ts->ts.all ye=true->Vals vs us->∀u∈us,SeqAt.EqAt A s u v (eU t u)
 |[],_,_,r,_,q=>λu m=>by cases q;cases m
 |_::_,_,_,r,f,q=>λu m=>by
  cases r with
  |cons h r=>
   cases q with
   |cons b q=>
    rw[iG,bW]at f;rcases bG.mp m with rfl|m
    ·rw[EY h f.1 b];obtain⟨g,l⟩:=N7 f.1;exact Ky I 0 g l p h rx b rv hu
    ·exact pX I hu rx p rv r f.2 q u m
def KA(x:Tr)(ts:List Tr):Rs Bool:=if sk x=true/\ts.all ye=true then .ok (ts.any λy=>eqT y x)else .bad
def Bf:Tr->Tr->Rs Tr
 |x,.tup ts=>R' (KA x ts)
 |x,.lst ts=>R' (KA x ts)
 |x,.bX bC=>match kr x with
  |some k=>.ok (.bl (fc bC k).isSome)
  |none=>.bad
 |.str i,.str j=>.ok (.bl (!(Builtin.Str.occurrences j i 0 j.length 1).isEmpty))
 |_,_=>.bad
def N8:Tr->Tr->Rs Tr
 |x,.tup ts=>R' (Ic (KA x ts))
 |x,.lst ts=>R' (Ic (KA x ts))
 |x,.bX bC=>match kr x with
  |some k=>.ok (.bl (!(fc bC k).isSome))
  |none=>.bad
 |.str i,.str j=>.ok (.bl (!(!(Builtin.Str.occurrences j i 0 j.length 1).isEmpty)))
 |_,_=>.bad
def wC{k:Bool->Prop}(q:Fi X H (KA aC ts) k):sk aC=true/\ts.all ye=true/\k (ts.any λy=>eqT y aC):=by
 unfold KA at q;split at q
 ·rename_i h;exact⟨h.1,h.2,q⟩
 ·exact q.elim
def GG{x y:V}{k:Key}(r:Rep K (cj B H) y (.bX aG))(q:Rep K (cj B H) x aC)(ek:kr aC=some k):∃a,y=.ref a/\∃o,pR H a x o/\o.isSome=(fc aG k).isSome:=by
 cases r with
 |bX h e b=>
  obtain⟨o,g,l⟩:=yd (H:=raw _ _) (h.same bI) e (b.same fH) q.up ek;refine⟨_,rfl,o,g,?_⟩;rcases l with⟨h1,rfl⟩|⟨_,_,h1,rfl,_⟩
  ·rw[h1];rfl
  ·rw[h1];rfl
theorem mY(hu:X.A.units+1<cLine):Cg X (compareOp .In) Bf:=by
 intro U s Z H x y v u Q I b l ⟨B,tx,ty,hb,r1,r2,q⟩;unfold Bf at q;split at q
 ·have f:=wC (Fi.bind q);obtain⟨a,vs,rfl,h,rr⟩:=r2.dY;cases(show u=Value.ref a from l);obtain⟨cy,rv,pl,_⟩:=I.tuple h.up;refine SeqAt.in_tupleAt (eU tx) pl (λw hw=>pX I hu r1.up f.1 b (rr.same fH) f.2.1 rv w (by simpa using hw)) ⟨.bl _,H,I,rfl,?_⟩;rw[show cy.toArray.any (eU tx)=cy.any (eU tx) by simp,yf rr f.2.1 rv];exact f.2.2 _ H (bg.refl H) (.bl _)
 ·have f:=wC (Fi.bind q);obtain⟨a,vs,rfl,h,rr⟩:=r2.lst_inv;cases(show u=Value.ref a from l);obtain⟨cy,rv,pl,_⟩:=I.list (.of (eB h));refine SeqAt.in_listAt (eU tx) pl.isList (λw hw=>pX I hu r1.up f.1 b (rr.same fH) f.2.1 rv w (by simpa using hw)) ⟨.bl _,H,I,rfl,?_⟩;rw[show cy.toArray.any (eU tx)=cy.any (eU tx) by simp,yf rr f.2.1 rv];exact f.2.2 _ H (bg.refl H) (.bl _)
 ·split at q
  ·rename_i n;obtain⟨a,rfl,g⟩:=GG r2 r1 n;cases(show u=Value.ref a from l);obtain⟨o,g,r⟩:=g;refine aaH hu I g b λs' L=>⟨.bl _,H,L,rfl,?_⟩;rw[r];exact q _ H (bg.refl H) (.bl _)
  ·exact fe q
 ·exact HR U s Z H _ _ v u Q I b l ⟨_,_,r1.str_inv.1,r2.str_inv.1,q _ H (bg.refl H) (.bl _)⟩
 ·exact fe q
theorem uw(hu:X.A.units+1<cLine):Cg X (compareOp .NotIn) N8:=by
 intro U s Z H x y v u Q I b l ⟨B,tx,ty,hb,r1,r2,q⟩;unfold N8 at q;split at q
 ·have f:=wC (Fi.bind (Fi.bind q));obtain⟨a,vs,rfl,h,rr⟩:=r2.dY;cases(show u=Value.ref a from l);obtain⟨cy,rv,pl,_⟩:=I.tuple h.up;refine SeqAt.notIn_tupleAt (eU tx) pl (λw hw=>pX I hu r1.up f.1 b (rr.same fH) f.2.1 rv w (by simpa using hw)) ⟨.bl _,H,I,rfl,?_⟩;rw[show cy.toArray.any (eU tx)=cy.any (eU tx) by simp,yf rr f.2.1 rv];exact f.2.2 _ H (bg.refl H) (.bl _)
 ·have f:=wC (Fi.bind (Fi.bind q));obtain⟨a,vs,rfl,h,rr⟩:=r2.lst_inv;cases(show u=Value.ref a from l);obtain⟨cy,rv,pl,_⟩:=I.list (.of (eB h));refine SeqAt.notIn_listAt (eU tx) pl.isList (λw hw=>pX I hu r1.up f.1 b (rr.same fH) f.2.1 rv w (by simpa using hw)) ⟨.bl _,H,I,rfl,?_⟩;rw[show cy.toArray.any (eU tx)=cy.any (eU tx) by simp,yf rr f.2.1 rv];exact f.2.2 _ H (bg.refl H) (.bl _)
 ·split at q
  ·rename_i n;obtain⟨a,rfl,g⟩:=GG r2 r1 n;cases(show u=Value.ref a from l);obtain⟨o,g,r⟩:=g;refine NG hu I g b λs' L=>⟨.bl _,H,L,rfl,?_⟩;rw[r];exact q _ H (bg.refl H) (.bl _)
  ·exact fe q
 ·exact AU U s Z H _ _ v u Q I b l ⟨_,_,r1.str_inv.1,r2.str_inv.1,q _ H (bg.refl H) (.bl _)⟩
 ·exact fe q
noncomputable def kY{α:Type}:Option α->Rs α
 |some a=>.ok a
 |none=>.bad
def jW:Tr->Tr->Rs Tr
 |.tup ts,.int i=>kY (vc ts i)
 |.lst ts,.int i=>kY (vc ts i)
 |.str z,.int i=>(kY (vc z.cps.toList i)).bind λc=>.ok (.str ⟨#[c]⟩)
 |.vF ns,.int i=>(kY (vc ns i)).bind λn=>.ok (.int n)
 |.bX bC,t=>(kY (kr t)).bind λk=>kY (fc bC k)
 |_,_=>.bad
theorem bP.vc {H:Vw}{vs:List V}{i:Int}{t:Tr}(r:bP K H vs ts)(e:L2.vc ts i=some t):∃v,L2.vc vs i=some v/\Rep K H v t:=by
 unfold L2.vc at e⊢;rw[r.length];cases q:M3 ts.length i with
 |none=>rw[q]at e;cases e
 |some j=>
  rw[q]at e;obtain⟨v,b,r1⟩:=r.get (show ts[j]?=some t from e);exact⟨v,b,r1⟩
def gE{X:Cx}{H:Hp}{o:Option ag}{k:ag->Prop}(h:Fi X H (kY o) k):∃a,o=some a/\k a:=by
 cases o with
 |none=>exact h.elim
 |some a=>exact⟨a,rfl,h⟩
section
variable {b:Expr}
def N9{β:Type}(f:ag->β)(xs:List ag)(i:Int):L2.vc (xs.map f) i=(L2.vc xs i).map f:=by
 unfold L2.vc;rw[bu];cases M3 xs.length i with
 |none=>rfl
 |some j=>show(xs.map f)[j]?=_;rw[ck];rfl
def N_(c:Nat):(⟨#[c]⟩:Str).length<=dc:=by show 1<=dc;decide
def Oa{x y:V}{t:Tr}{k:Key}(r:Rep K (cj B H) x (.bX aG))(r2:Rep K (cj B H) y aC)(ek:kr aC=some k)(q:fc aG k=some t):∃tg w,x=.ref tg/\pR H tg y (some w)/\Rep K (cj B H) w t:=by
 obtain⟨tg,kvs,b,h,e,rr⟩:=r.nO;refine⟨tg,?_⟩;rcases qS k e rr with⟨h1,_⟩|⟨t',w,h1,h2,g⟩
 ·cases q.symm.trans h1
 ·cases q.symm.trans h1;exact⟨w,b,.inl ⟨kvs,k,h.same bI,nQ r2 ek,h2.symm⟩,g⟩
theorem WN(hu:X.A.units+1<cLine):V2 X (rT X jW):=by
 intro value slice U s Z H x y v u Q I l r ⟨B,tx,ty,hb,r1,r2,q⟩ hs;unfold jW at q;split at q
 ·obtain⟨tg,vs,e,h,rr⟩:=r1.dY;obtain⟨t,b,k⟩:=gE q;obtain⟨w,M,L⟩:=rr.vc b;exact RI value slice U s Z H _ _ v u Q I l r ⟨_,_,_,w,e,r2.int_inv,h.up,M,k w H (bg.refl H) L⟩ hs
 ·obtain⟨tg,vs,e,h,rr⟩:=r1.lst_inv;obtain⟨t,b,k⟩:=gE q;obtain⟨w,M,L⟩:=rr.vc b;exact Gb value slice U s Z H _ _ v u Q I l r ⟨_,_,_,w,e,r2.int_inv,.of (eB h),M,k w H (bg.refl H) L⟩ hs
 ·obtain⟨c,b,k⟩:=gE (Fi.bind q);exact RJ value slice U s Z H _ _ v u Q I l r ⟨_,_,c,r1.str_inv.1,r2.int_inv,cF r1.str_inv.2 lT,b,k _ H (bg.refl H) (.str _ (N_ c))⟩ hs
 ·obtain⟨n,b,k⟩:=gE (Fi.bind q);obtain⟨tg,e,h⟩:=r1.Gp;exact Gb value slice U s Z H _ _ v u Q I l r ⟨_,_,_,.int n,e,r2.int_inv,bg.seq bI h,by rw[N9,b];rfl,k _ H (bg.refl H) (.int n)⟩ hs
 ·obtain⟨k,S,qk⟩:=gE (Fi.bind q);obtain⟨t,b,qt⟩:=gE qk;obtain⟨tg,w,rfl,g,L⟩:=Oa r1 r2 S b;cases(show v=Value.ref tg from l);exact tail_any (CG I g) PySem.F.slot_dict_getitem.lookup (HX hu I g r λw' s' I' rv=>⟨w,H,I',rv,qt w H (bg.refl H) L⟩) hs
 ·exact fe q
def aaU(hu:X.A.units+1<cLine)(ha:PE X tg (tP X F))(hb:PE X b (tP X G))(hs:ue b:=by exact λ_ _=>rfl):PE X (.Subscript tg b pos) (tP X λY=>Ib jW (F Y) (G Y)):=
 (P_ (WN hu) ha hb hs).weak λ_ _ _ q=>uq q
inductive tO(X:Cx)(P:bV->Rs (Option Int))(Z:St)(H:Hp)(Q:Option Int->Hp->Prop):Prop
 |mk (B:fh) (Y:bV):HB B H->cI X.K B H Z Y->(Fi X H (P Y) fun o=>∀H',bg H H'->Q o H')->tO X P Z H Q
def EZ(r:Rs Tr):Rs (Option Int):=r.bind λt=>match t with
 |.int i=>.ok (some i)
 |_=>.bad
theorem Sq:PO X none (tO X λ_=>.ok none):=λU s Z H Q I ⟨B,Y,hb,r,q⟩=>Nw U s Z H Q I (q H (bg.refl H))
theorem Sr(h:PE X e (tP X F)):PO X (some e) (tO X λY=>EZ (F Y)):=λU s Z H Q I ⟨B,Y,hb,r,q⟩=>
 Nx h U s Z H Q I ⟨B,Y,hb,r,q.bind.mono λt b v H' s' g=>by
  split at b
  ·exact⟨_,g.int_inv,b H' s'⟩
  ·exact b.elim⟩
def Bg{α:Type}(xs:List α)(lo hi:Option Int):List α:=(xs.drop (HT.iA xs.length 0 lo)).take (HT.iA xs.length xs.length hi - HT.iA xs.length 0 lo)
def bP.cut {H:Vw}{vs:List V}(r:bP K H vs ts)(lo hi:Option Int):bP K H (CC vs lo hi) (Bg ts lo hi):=by
 unfold CC Bg;rw[r.length];exact(r.drop _).take _
def nR(n:Nat)(lo hi:Option Int):Bool:=HT.iA n 0 lo==0&&HT.iA n n hi==n
def slT:Tr->Option Int->Option Int->Rs Tr
 |.tup ts,lo,hi=>if nR ts.length lo hi=true then .bad else .ok (.tup (Bg ts lo hi))
 |.lst ts,lo,hi=>.ok (.lst (Bg ts lo hi))
 |.str z,lo,hi=>if(Txt.slice z lo hi).length<=dc then .ok (.str (Txt.slice z lo hi))else .bad
 |_,_,_=>.bad
inductive rSl(X:Cx)(x:V)(lo:Option Int)(hi:Option Int)(H:Hp)(Q:VK):Prop
 |mk (B:fh) (t:Tr):HB B H->Rep X.K (cj B H) x t->(Fi X H (slT t lo hi) fun t=>∀v H',bg H H'->Rep X.K (cj B H') v t->Q v H')->rSl X x lo hi H Q
theorem aaV:U4 X (rSl X):=by
 intro U s Z H x v l n lo hi sl Q I L hs pl pu ⟨B,t,hb,r,q⟩;cases r with
 |tup h b=>
  rename_i tg vs ts;have g:Fi X H (if nR ts.length lo hi=true then Rs.bad else .ok (Tr.tup (Bg ts lo hi))) _:=q;by_cases hw:nR ts.length lo hi=true
  ·rw[aW hw]at g;exact fe g
  ·rw[bc hw]at g;refine RG U s Z H _ v l n lo hi sl Q I L hs pl pu ⟨_,_,rfl,h.up,λz=>hw ?_,λp hp=>g _ _ (bg.upd hp) (.Sk hb hp (b.cut lo hi))⟩;rw[b.length]at z;unfold nR;rw[z.1,z.2,bU,bU];rfl
 |lst h b=>exact NA U s Z H _ v l n lo hi sl Q I L hs pl pu ⟨_,_,rfl,.of (eB h),λp hp=>q _ _ (bg.upd hp) (.zt hb hp (b.cut lo hi))⟩
 |str z hz=>
  obtain⟨M,k⟩:=gM q;exact R8 U s Z H _ v l n lo hi sl Q I L hs pl pu ⟨z,rfl,cF hz lT,k _ H (bg.refl H) (.str _ M)⟩
 |_=>exact fe q
variable {P1 P2:bV->Rs (Option Int)}{lo hi:Option Expr}{p2:Pos}
noncomputable def Ob:List Tr->Rs Tr
 |[.str z]=>.ok (.int (z.length:Int))
 |[.tup ts]=>.ok (.int (ts.length:Int))
 |[.lst ts]=>.ok (.int (ts.length:Int))
 |[.vF ns]=>.ok (.int (ns.length:Int))
 |_=>.bad
theorem WO:lU X (.builtin "len") Ob:=by
 intro U s Z H xs us Q I b ⟨B,ts,hb,r,q⟩;unfold Ob at q;split at q
 ·obtain⟨x,e,r⟩:=gg r;exact ub U s Z H _ us Q I b ⟨_,_,e,by rw[r.str_inv.1];exact⟨cF r.str_inv.2 lT,rfl⟩,q _ H (bg.refl H) (.int _)⟩
 ·obtain⟨x,e,r⟩:=gg r;obtain⟨tg,vs,rfl,h,rr⟩:=r.dY;exact ub U s Z H _ us Q I b ⟨_,_,e,.inr ⟨_,h.up,rfl⟩,q _ H (bg.refl H) (by rw[rr.length];exact .int _)⟩
 ·obtain⟨x,e,r⟩:=gg r;obtain⟨tg,vs,rfl,h,rr⟩:=r.lst_inv;exact ub U s Z H _ us Q I b ⟨_,_,e,.inl ⟨_,.of (eB h),rfl⟩,q _ H (bg.refl H) (by rw[rr.length];exact .int _)⟩
 ·obtain⟨x,e,r⟩:=gg r;obtain⟨tg,rfl,h⟩:=r.Gp;exact ub U s Z H _ us Q I b ⟨_,_,e,.inl ⟨_,bg.seq bI h,rfl⟩,q _ H (bg.refl H) (by rw[bu];exact .int _)⟩
 ·exact fe q
noncomputable def Qi:List Tr->Rs Tr
 |[.tup ts]=>.ok (.lst ts)
 |[.lst ts]=>.ok (.lst ts)
 |_=>.bad
noncomputable def E1:List Tr->Rs Tr
 |[.tup ts]=>.ok (.tup ts)
 |[.lst ts]=>.ok (.tup ts)
 |_=>.bad
theorem hX:lU X (.type "tuple") E1:=by
 intro U s Z H xs us Q I b ⟨B,ts,hb,r,q⟩;unfold E1 at q;split at q
 ·obtain⟨x,e,r⟩:=gg r;obtain⟨tg,vs,rfl,h,rr⟩:=r.dY;exact rH U s Z H _ us Q I b ⟨_,_,e,.inr ⟨h.up,q _ H (bg.refl H) (.tup h rr)⟩⟩
 ·obtain⟨x,e,r⟩:=gg r;obtain⟨tg,vs,rfl,h,rr⟩:=r.lst_inv;exact rH U s Z H _ us Q I b ⟨_,_,e,.inl ⟨.of (eB h),λp hp=>q _ _ (bg.upd hp) (.Sk hb hp rr)⟩⟩
 ·exact q.elim
noncomputable def yg:Tr->String
 |.cA=>"NoneType"
 |.bl _=>"bool"
 |.int _=>"int"
 |.str _=>"str"
 |.ty _=>"type"
 |.tup _=>"tuple"
 |.lst _=>"list"
 |.vF _=>"list"
 |.bX _=>"dict"
 |.at _=>"object"
 |.vG _=>"dict"
 |.ob _ _=>"object"
 |.zR _=>"object"
def ZQ(t:Tr)(c:String):Bool:=yg t==c||(yg t=="bool"&&c=="int")
noncomputable def kinds:List String:=["int","str","bool","tuple","list","dict"]
def GH(K:Frag):∀tg∈["NoneType","bool","int","str","tuple","list","dict"],∀c∈kinds,PySem.W.kitOne K (.type tg) (.type c)=some (tg==c||(tg=="bool"&&c=="int")):=by
 intro tg b c g;simp only[kinds,bG,cP,cQ]at b g;rcases b with rfl|rfl|rfl|rfl|rfl|rfl|rfl<;>rcases g with rfl|rfl|rfl|rfl|rfl|rfl<;>first|rfl|(unfold PySem.W.kitOne;exact aW (by decide))
def WQ:Tr->Bool
 |.ty _|.at _|.ob _ _|.zR _=>true
 |_=>false
def Ss:List Tr->Rs Tr
 |[t,.ty c]=>if WQ t=false/\kinds.contains c=true then .ok (.bl (ZQ t c))else .bad
 |_=>.bad
theorem Oc{rL:Addr->Option Nat}{x:V}(I:Inv X U Z H s)(r:Rep X.K (⟨H,rL⟩:Vw) x aC)(h0:WQ aC=false)(q:RelV x af)(hc:ay∈kinds)(h:∀tk,Q (.bool (ZQ aC ay)) {s with toks:=tk}):
  wpAny (model X.prog X.w) A (call (.builtin "isinstance") [af,.type ay]) Q E s:=by
 have g:=λtg M=>GH X.K tg M ay hc;cases r with
 |cA=>exact mT I q .cA (g _ (by decide)) h
 |bl b=>exact mT I q (.bl b) (g _ (by decide)) h
 |int i=>exact mT I q (.int i) (g _ (by decide)) h
 |str z hz=>exact mT I q (.str z) (g _ (by decide)) h
 |ty n=>cases h0
 |«at» h=>cases h0
 |ob h e L=>cases h0
 |zR h ay=>cases h0
 |@vG tg kvs bC l e L=>
  cases(show af=Value.ref tg from q);obtain⟨_,_,xs,_,o,es,ep,h1,h2,_⟩:=(show cZ X.prog X.w H s.heap tg (.dT kvs)from I.cY tg _ l);exact ff s_ I.l9 ⟨o,h1,h2.1⟩ (g "dict" (by decide)) (λz=>nomatch z) h
 |@tup tg vs ts l L=>
  cases(show af=Value.ref tg from q);obtain⟨cy,rv,⟨o,h1,h2,_⟩,_⟩:=I.tuple l;exact ff PySem.W.kitx_tuple I.l9 ⟨o,h1,h2⟩ (g "tuple" (by decide)) (λz=>nomatch z) h
 |lst l L=>exact mT I q (.lst l) (g _ (by decide)) h
 |@vF tg ns l=>
  cases(show af=Value.ref tg from q);obtain⟨cy,rv,⟨o,n,h1,h2,_⟩,_⟩:=I.list l;exact ff xi I.l9 ⟨o,h1,h2⟩ (g "list" (by decide)) (λz=>nomatch z) h
 |@bX tg kvs bC l e L=>
  cases(show af=Value.ref tg from q);obtain⟨_,_,vs,_,p⟩:=(show cZ X.prog X.w H s.heap tg (.dK kvs)from l.ok I.cY);obtain⟨o,es,ep,h1,h2,_⟩:=p;exact ff s_ I.l9 ⟨o,h1,h2.1⟩ (g "dict" (by decide)) (λz=>nomatch z) h
theorem zY:lU X (.builtin "isinstance") Ss:=by
 intro U s Z H xs us Q I b ⟨B,ts,hb,r,q⟩;unfold Ss at q;split at q
 ·obtain⟨⟨h0,h1⟩,k⟩:=gM q;obtain⟨x,y,rfl,r1,r2⟩:=zT r;obtain⟨v,u,rfl,v1,v2⟩:=vals2 b;cases r2;cases v2;exact Oc I r1.up h0 v1 (by simpa using h1) λg=>⟨.bl _,H,I.tok _,rfl,k _ H (bg.refl H) (.bl _)⟩
 ·exact q.elim
variable {name:Str}{dM:Pos}{id:String}{h:Str->List Tr->Rs Tr}
end
def Su:Tr->Rs Tr
 |.int i=>.ok (.int (-i))
 |_=>.bad
theorem WR(ha:PE X e (tP X F)):PE X (.UnaryOp .USub e pos) (tP X λY=>(F Y).bind Su):=
 (VM Rv ha).weak λZ H Q ⟨B,Y,hb,r,q⟩=>⟨B,Y,hb,r,q.bind.mono λt b v H' s' g=>by
  cases g with
  |int i=>exact⟨i,rfl,b _ H' s' (.int _)⟩
  |_=>exact fe b⟩
def dJ(q:di i A):A.units+40<cLine:=by have:=q.units;omega
def rM(n m:Nat)(G:bV->Rs Out)(ts:List Tr):Rs Tr:=if ts.length=n then dI (G (startT m ts))else .bad
def Oe{n:Nat}{G:bV->Rs Out}(h:rM n i G ts=.ok aC):ts.length=n:=by
 unfold rM at h;split at h
 ·assumption
 ·cases h
def Sv{G:bV->Rs Out}{t:Tr}(h:rM i az G ts=.ok t):dI (G (startT az ts))=.ok t:=by
 unfold rM at h;split at h
 ·exact h
 ·cases h
noncomputable def kZ(bC:List (Key×Tr))(k:Key)(t:Tr):List (Key×Tr):=
 if(bC.any λb=>decide (b.1=k))=true then bC.map (λb=>if b.1=k then(b.1,t)else b)else bC++[(k,t)]
def md(bC more:List (Key×Tr)):List (Key×Tr):=more.foldl (λacc b=>kZ acc b.1 b.2) bC
structure d6(K:Frag)(H:Vw)(kvs:List (Key×V))(bC:List (Key×Tr)):Prop where
 keys:kvs.map (·.1)=bC.map (·.1)
 vals:bP K H (kvs.map (·.2)) (bC.map (·.2))
section
variable {H H':Vw}
theorem d6.nil:d6 K H [] []:=⟨rfl,.nil⟩
theorem d6.same {bC:List (Key×Tr)}(s:e_ H H')(h:d6 K H kvs bC):d6 K H' kvs bC:=⟨h.keys,h.vals.same s⟩
theorem d6.cons {k:Key}{v:V}{t:Tr}{bC:List (Key×Tr)}(r:Rep K H v t)(h:d6 K H kvs bC):d6 K H ((k,v)::kvs) ((k,t)::bC):=⟨by rw[bO,bO,h.keys],.cons r h.vals⟩
def d6.inv {k:Key}{v:V}{bC:List (Key×Tr)}(h:d6 K H ((k,v)::kvs) bC):∃t r,bC=(k,t)::r/\Rep K H v t/\d6 K H kvs r:=by
 obtain⟨e,r⟩:=h
 match bC,e,r with
 |(k2,t)::c9,e,r=>
  rw[bO,bO]at e;injection e with b g
  have l:k=k2:=b;subst l;cases r with
  |cons h1 h2=>exact⟨t,c9,rfl,h1,g,h2⟩
theorem d6.any (k:Key):∀{kvs:List (Key×V)} {bC:List (Key×Tr)},d6 K H kvs bC->(kvs.any λq=>decide (q.1=k))=bC.any λq=>decide (q.1=k)
 |[],bC,h=>by
  have e:=h.keys;cases bC with
  |nil=>rfl
  |cons a b=>cases e
 |(j,v)::kvs,bC,h=>by
  obtain⟨t,r,rfl,_,h2⟩:=h.inv;rw[jr,jr,d6.any k h2]
theorem d6.map (k:Key){y:V}{u:Tr}(ry:Rep K H y u):∀{kvs:List (Key×V)} {bC:List (Key×Tr)},d6 K H kvs bC->d6 K H (kvs.map λq=>if q.1=k then(q.1,y)else q) (bC.map λq=>if q.1=k then(q.1,u)else q)
 |[],bC,h=>by
  have e:=h.keys;cases bC with
  |nil=>exact .nil
  |cons a b=>cases e
 |(j,v)::kvs,bC,h=>by
  obtain⟨t,r,rfl,h1,h2⟩:=h.inv;rw[bO,bO];by_cases e:j=k
  ·rw[aW (show(j,v).1=k from e),aW (show(j,t).1=k from e)];exact .cons ry (d6.map k ry h2)
  ·rw[bc (show¬(j,v).1=k from e),bc (show¬(j,t).1=k from e)];exact .cons h1 (d6.map k ry h2)
theorem d6.snoc (k:Key){y:V}{u:Tr}(q:Rep K H y u):∀{kvs:List (Key×V)} {bC:List (Key×Tr)},d6 K H kvs bC->d6 K H (kvs++[(k,y)]) (bC++[(k,u)])
 |[],bC,h=>by
  have e:=h.keys;cases bC with
  |nil=>exact .cons q .nil
  |cons a b=>cases e
 |(j,v)::kvs,bC,h=>by
  obtain⟨t,r,rfl,h1,h2⟩:=h.inv;exact .cons h1 (d6.snoc k q h2)
def d6.put (k:Key){y:V}{u:Tr}(q:Rep K H y u){bC:List (Key×Tr)}(h:d6 K H kvs bC):d6 K H (putK kvs k y) (kZ bC k u):=by
 unfold putK kZ;rw[h.any k];by_cases e:(bC.any λb=>decide (b.1=k))=true
 ·rw[aW e,aW e];exact h.map k q
 ·rw[bc e,bc e];exact h.snoc k q
theorem d6.merge:∀{more:List (Key×V)} {E2:List (Key×Tr)} {kvs:List (Key×V)} {bC:List (Key×Tr)},d6 K H more E2->d6 K H kvs bC->d6 K H (i9 kvs more) (md bC E2)
 |[],E2,kvs,bC,h,q=>by
  have e:=h.keys;cases E2 with
  |nil=>exact q
  |cons a b=>cases e
 |(k,v)::more,E2,kvs,bC,h,q=>by
  obtain⟨t,r,rfl,h1,h2⟩:=h.inv;exact d6.merge (more:=more) (E2:=r) h2 (q.put k h1)
end
def cI.bar {Y:bV}{p:Addr}{o:HO}(h:cI K B H Z Y)(hp:H p=none):cI K (mX B p) (upd H p o) Z Y:=by
 refine⟨h.len,λi t e=>?_,λi ts e=>?_,h.ap⟩
 ·obtain⟨v,b,r⟩:=h.sh i t e;exact⟨v,b,r.same (kX hp)⟩
 ·obtain⟨D,ys,b,l,g,r⟩:=h.ow i ts e;exact⟨D,ys,b,Gx.hd _ l,by rw[bp (bS g hp)];exact g,r.same (kX hp)⟩
def Qj(k v:Rs Tr)(r:Rs (List (Tr×Tr))):Rs (List (Tr×Tr)):=k.bind λx=>v.bind λy=>r.bind λps=>.ok ((x,y)::ps)
def yh:List (Tr×Tr)->Rs (List (Key×Tr))
 |[]=>.ok []
 |(k,t)::r=>(kY (kr k)).bind λk=>(yh r).bind λl=>.ok ((k,t)::l)
def WS(r:Rs (List (Tr×Tr))):Rs Tr:=r.bind λps=>if ps.length<=15 then(yh ps).bind λbC=>.ok (.bX (md [] bC))else .bad
inductive yi(K:Frag)(H:Vw):List (V×V)->List (Tr×Tr)->Prop where
 |nil:yi K H [] []
 |cons {x y:V} {t u:Tr} {ps:List (V×V)} {qs:List (Tr×Tr)} (h1:Rep K H x t) (h2:Rep K H y u) (r:yi K H ps qs):yi K H ((x,y)::ps) ((t,u)::qs)
theorem yi.length {H:Vw}{ps:List (V×V)}{qs:List (Tr×Tr)}(h:yi K H ps qs):ps.length=qs.length:=by
 induction h with
 |nil=>rfl
 |cons _ _ _ b=>rw[dB,dB,b]
def zZ{X:Cx}{H:Vw}{H0:Hp}{k:List (Key×Tr)->Prop}{ps:List (V×V)}{qs:List (Tr×Tr)}(h:yi K H ps qs):Fi X H0 (yh qs) k->∃kvs bC,k bC/\ps=kvs.map (λkv=>(kV kv.1,kv.2))/\d6 K H kvs bC:=by
 induction h generalizing k with
 |nil=>exact λq=>⟨[],[],q,rfl,.nil⟩
 |cons b h2 r g=>
  intro q;obtain⟨key,l,n⟩:=gE (Fi.bind q);obtain⟨kvs,bC,k1,I,L⟩:=g (Fi.bind n);have e:=nQ b l;subst e;exact⟨(key,_)::kvs,_,k1,by rw[bO,I],.cons h2 L⟩
section
variable {a f:Expr}{dM:Pos}{E:bV->Rs Tr}{keys:List (Option Expr)}{P:bV->Rs (List (Tr×Tr))}
structure QP(X:Cx)(pos:Pos)(keys:List (Option Expr))(es:List Expr)(P:bV->Rs (List (Tr×Tr))):Prop where
 h:∃A5,U5 X pos keys es A5/\∀Z H Q,(∃B Y,HB B H/\cI X.K B H Z Y/\Fi X H (P Y) fun Sw=>∀Of H',bg H H'->yi X.K (cj B H') Of Sw->Q Of H')->xN A5 Z H Q
theorem Qk:QP X pos [] [] λ_=>.ok []:=⟨[],Gh,λZ H Q ⟨B,Y,hb,r,q⟩=>q [] H (bg.refl H) .nil⟩
theorem yi.same {H H':Vw}(s:e_ H H'){ps:List (V×V)}{qs:List (Tr×Tr)}(h:yi K H ps qs):yi K H' ps qs:=by
 induction h with
 |nil=>exact .nil
 |cons b h2 r g=>exact .cons (b.same s) (h2.same s) g
theorem Og(hk:PE X e (tP X F))(hv:PE X o (tP X G))(hr:QP X pos keys es P):QP X pos (some e::keys) (o::es) λY=>Qj (F Y) (G Y) (P Y):=by
 obtain⟨S,h1,h2⟩:=hr.h;refine⟨_,CI hk hv h1,λZ H Q ⟨B,Y,hb,r,q⟩=>?_⟩;refine⟨B,Y,hb,r,q.bind.mono λx b u H1 s1 g=>⟨B,Y,hb.same s1,r.same s1,(b.bind.same s1).mono λy l w H2 s2 n=>h2 _ _ _ ⟨B,Y,hb.same (s1.trans s2),r.same (s1.trans s2),(l.bind.same (s1.trans s2)).mono λps I Of L s3 M=>?_⟩⟩⟩;exact I _ L ((s1.trans s2).trans s3) (.cons (g.same (bJ (s2.trans s3))) (n.same (bJ s3)) M)
theorem Sx(h:QP X pos keys es P)(u4:keys.all (·.isSome)=true:=by rfl) (hl:keys.length=es.length:=by rfl) (h0:keys.isEmpty=false:=by rfl) (NK:keys.length<=15:=by decide):PE X (.Dict keys es pos) (tP X λY=>WS (P Y)):=by
 obtain⟨A5,h1,h2⟩:=h.h;refine(Gi h1 u4 hl (λz=>by rw[z]at h0;cases h0) NK).weak λZ H Q ⟨B,Y,hb,r,q⟩ p hp=>?_
 refine h2 Z _ _ ⟨mX B p,Y,Gw hb hp,r.bar hp,(q.bind.same (bg.upd hp)).mono λL b Of H2 s2 r2=>?_⟩;by_cases hz:L.length<=15
 ·rw[aW hz]at b;obtain⟨kvs,bC,k1,l,M⟩:=zZ r2 (Fi.bind b);refine⟨s2 _ _ bM,kvs,l,?_,?_⟩
  ·have n:=cX List.length l;rw[bu,r2.length]at n;rw[<-n];exact hz
  ·have g:=hb.free hp;have I:=(d6.merge M d6.nil);refine k1 _ _ (((bg.upd hp).trans s2).A7 hp) (.bX (.inl (by rw[gf g];exact bM)) I.keys (I.vals.same ?_));have S:cj (mX B p) (upd H2 p (.dK (i9 [] kvs)))=cj (mX B p) H2:=uu;rw[<-S];exact CU
 ·rw[bc hz]at b;exact fe b
def KC(a b:Rs Tr):Rs Tr:=a.bind λx=>match x with
 |.bX bC=>b.bind λy=>(kY (kr y)).bind λk=>.ok ((fc bC k).getD .cA)
 |_=>.bad
def C7(a b c:Rs Tr):Rs Tr:=a.bind λx=>match x with
 |.bX bC=>b.bind λy=>c.bind λz=>(kY (kr y)).bind λk=>.ok ((fc bC k).getD z)
 |_=>.bad
def Ql(hb:isCall o=false)(cG:bA [e]=true)(q:(b8.endLine==dM.line)=true):M1 X o x b8 e dM:=
 ⟨gD hb,by rw[jH cG];rfl,q,by rw[bL _ _ (bq cG).1,starEach];rfl⟩
def Qm(hb:isCall o=false)(cG:bA [e,f]=true)(q:(b8.endLine==dM.line)=true):M2 X o x b8 e f dM:=
 ⟨gD hb,by rw[jH cG];rfl,q,by rw[bL _ _ (bq cG).1,bL _ _ (bq (bq cG).2).1,starEach];rfl⟩
def GI{y:V}{ov:Option V}(g:pR (cj B H) au y ov):pR H au y ov:=by
 rcases g with⟨kvs,k,l,n,r⟩|⟨kvs,k,b,l,n,r,I⟩
 ·exact .inl ⟨kvs,k,l.same bI,n,r⟩
 ·exact .inr ⟨kvs,k,b,l.same bI,n,bI _ _ r,I⟩
theorem Sy(hu:X.A.units+1<cLine)(ho:PE X o (tP X F))(he:PE X e (tP X G))(hb:isCall o=false:=by rfl) (cG:bA [e]=true:=by rfl) (hl:(b8.endLine==dM.line)=true:=by rfl):PE X (.Call (.Attribute o "get" b8) [e] [] dM) (tP X λY=>KC (F Y) (G Y)):=
 (Kf hu ho he (Ql hb cG hl)).weak λZ H Q ⟨B,Y,hb,r,q⟩=>⟨B,Y,hb,r,q.bind.mono λx b v H1 s1 l=>by
  split at b
  ·obtain⟨_,_,rfl,h,e,rr⟩:=l.nO;refine⟨_,rfl,.inl ⟨_,h.same bI⟩,B,Y,hb.same s1,r.same s1,(Fi.bind b|>.same s1).mono λy n w H2 s2 I=>?_⟩;obtain⟨k,L,M⟩:=gE (Fi.bind n);obtain⟨S,g,ho⟩:=yd (Rd.same (bJ s2).h h) e (rr.same (bJ s2)) I L;refine⟨S,GI g,M _ H2 (s1.trans s2) ?_⟩;rcases ho with⟨h1,rfl⟩|⟨t,w',h1,rfl,h3⟩
   ·rw[h1];exact .cA
   ·rw[h1];exact h3
  ·exact b.elim⟩
theorem Sz(hu:X.A.units+1<cLine)(ho:PE X o (tP X F))(he:PE X e (tP X G))(hf:PE X f (tP X E))(hb:isCall o=false:=by rfl) (cG:bA [e,f]=true:=by rfl) (hl:(b8.endLine==dM.line)=true:=by rfl):PE X (.Call (.Attribute o "get" b8) [e,f] [] dM) (tP X λY=>C7 (F Y) (G Y) (E Y)):=
 (Kg hu ho he hf (Qm hb cG hl)).weak λZ H Q ⟨B,Y,hb,r,q⟩=>⟨B,Y,hb,r,q.bind.mono λx b v H1 s1 l=>by
  split at b
  ·obtain⟨_,_,rfl,h,e,rr⟩:=l.nO;refine⟨_,rfl,.inl ⟨_,h.same bI⟩,B,Y,hb.same s1,r.same s1,(Fi.bind b|>.same s1).mono λy n w H2 s2 I=>⟨B,Y,hb.same (s1.trans s2),r.same (s1.trans s2),(Fi.bind n|>.same (s1.trans s2)).mono λz L w3 M s3 S=>?_⟩⟩;obtain⟨k,ek,qk⟩:=gE (Fi.bind L);obtain⟨ov,g,ho⟩:=yd (Rd.same (bJ (s2.trans s3)).h h) e (rr.same (bJ (s2.trans s3))) (I.same (bJ s3)) ek;refine⟨ov,GI g,qk _ M ((s1.trans s2).trans s3) ?_⟩;rcases ho with⟨h1,rfl⟩|⟨t,w',h1,rfl,h3⟩
   ·rw[h1];exact S
   ·rw[h1];exact h3
  ·exact b.elim⟩
def Bh(K:Frag)(w:World)(mg:Str->Option Value)(x:Str)(bC:List (Str×Tr)):Prop:=
 ∃a kvs,mg x=some (.ref a)/\CL K w a kvs/\∀z,(valueAt kvs z=none/\bC.lookup z=none)\/∃u v t,valueAt kvs z=some u/\RelV v u/\bC.lookup z=some t/\∀H,Rep K H v t
def SA(bC:List (Str×Tr)):Tr->Rs Tr
 |.str z=>kY (bC.lookup z)
 |_=>.bad
variable {bC:List (Str×Tr)}
theorem WT(g:Bh X.K X.w X.mg x bC)(ha:PE X a (tP X F))(hg:Gl X x:=by rfl) (hd:Db x:=by decide) (hs:NH a:=by exact λ_ _=>rfl):PE X (.Subscript (.Name x p) a pos) (tP X λY=>(F Y).bind (SA bC)):=by
 obtain⟨ad,kvs,hm,D,hz⟩:=g;refine(Ko (AS (v:=.ref ad) hg hm rfl hd) ha hs).weak λZ H Q ⟨B,Y,hb,r,q⟩=>?_
 refine⟨B,Y,hb,r,q.bind.mono λt b v H1 s1 r1=>?_⟩;unfold SA at b;split at b
 ·rename_i z;obtain⟨t,l,k⟩:=gE b;rcases hz z with⟨h1,h2⟩|⟨u,v,t',h1,n,h2,I⟩
  ·cases l.symm.trans h2
  ·cases l.symm.trans h2;exact⟨ad,z,kvs,u,v,rfl,r1.str_inv.1,D,h1,n,k v H1 s1 (I _)⟩
 ·exact b.elim
def Ip:List Tr->Rs (List Bool)
 |[]=>.ok []
 |.bl b::ts=>(Ip ts).bind λzs=>.ok (b::zs)
 |_=>.bad
theorem GJ{H:Vw}{H0:Hp}{k:List Bool->Prop}:∀{ts:List Tr} {vs:List V},bP K H vs ts->Fi X H0 (Ip ts) k->∃bs,k bs/\vs=bs.map V.bl
 |[],_,r,q=>by cases r;exact⟨[],q,rfl⟩
 |t::ts,_,r,q=>by
  cases r with
  |cons h r=>
   cases h with
   |bl b=>
    obtain⟨bs,k1,e⟩:=GJ (k:=λzs=>k (b::zs)) r (Fi.bind q);exact⟨b::bs,k1,by rw[e];rfl⟩
   |_=>exact fe q
def Oh:List Tr->Rs Tr
 |[.lst ts]=>(Ip ts).bind λbs=>.ok (.bl (bs.all id))
 |_=>.bad
theorem WU(hc:X.calm=true):lU X (.builtin "all") Oh:=by
 intro U s Z H xs us Q I b ⟨B,ts,hb,r,q⟩;unfold Oh at q;split at q
 ·obtain⟨x,rfl,h⟩:=gg r;obtain⟨a,vs,rfl,g,rr⟩:=h.lst_inv;obtain⟨bs,k,rfl⟩:=GJ rr (Fi.bind q);exact Kn hc U s Z H _ us Q I b ⟨_,bs,rfl,.of (eB g),k _ H (bg.refl H) (.bl _)⟩
 ·exact fe q
end
inductive E3(K:Frag)(w:World):List DictEntry->List (Str×Value)->List (Str×Tr)->Prop
 |nil:E3 K w [] [] []
 |cons {z:Str} {t:Tok} {v:V} {u:Value} {tr:Tr} {es:List DictEntry} {kvs:List (Str×Value)} {bC:List (Str×Tr)}:RelV v u->(∀H,Rep K H v tr)->E3 K w es kvs bC->
   E3 K w (⟨PyData.keyHash w.params z,.str z t,u⟩::es) ((z,u)::kvs) ((z,tr)::bC)
variable {es:List DictEntry}{kvs:List (Str×Value)}{bC:List (Str×Tr)}
theorem E3.keys (prog:Program)(h:E3 K w es kvs bC):∀e∈es,∃k,(PySem.strKind prog w).is k e.key=true/\e.hash=(PySem.strKind prog w).hash k:=by
 induction h with
 |nil=>intro e he;cases he
 |@cons z t v u g es kvs bC _ _ _ b=>
  intro e he;rcases bG.mp he with rfl|he
  ·exact⟨z,by simp[PySem.strKind,Value.isStrOf],rfl⟩
  ·exact b e he
theorem E3.pairs (prog:Program)(h:E3 K w es kvs bC):Pairs (PySem.strKind prog w) es kvs:=by
 induction h with
 |nil=>exact .nil
 |cons _ _ _ b=>exact .cons (by simp[PySem.strKind,Value.isStrOf]) rfl b
theorem E3.at (h:E3 K w es kvs bC)(y:Str):(valueAt kvs y=none/\bC.lookup y=none)\/∃u v t,valueAt kvs y=some u/\RelV v u/\bC.lookup y=some t/\∀H,Rep K H v t:=by
 induction h with
 |nil=>exact .inl ⟨rfl,rfl⟩
 |@cons z t v u tr es kvs bC b hp _ g=>
  by_cases e:z=y
  ·subst e;exact .inr ⟨u,v,tr,by simp[valueAt],b,by simp[List.lookup],hp⟩
  ·have l:valueAt ((z,u)::kvs) y=valueAt kvs y:=by simp[valueAt,e]
   have n:List.lookup y ((z,tr)::bC)=bC.lookup y:=by
    have:(y==z)=false:=jn.mpr λk=>e k.symm;simp[List.lookup,this]
   rw[l,n];exact g
def E3.gd {ep:Nat}(h:E3 K w es kvs bC)(hm:mg x=some (.ref a))(q:K.lookup a=some ⟨.type "dict",none,.dict es.toArray ep,#[]⟩) (hs:(a==sysModules)=false) (hn:(kvs.map (·.1)).Nodup):Bh K w mg x bC:=
 ⟨a,kvs,hm,⟨hs,_,_,_,q,⟨rfl,rfl,rfl⟩,rfl,λprog=>⟨λe he=>h.keys prog e (by simpa using he),h.pairs prog,hn⟩⟩,h.at⟩
inductive Ao where
 |lst (ts:List Tr)|bX (bC:List (Key×Tr))|ins (x:Str) (fs:List (Str×Tr))|vG (bC:List (List Key×Tr))|Em (x:Str)
abbrev Ab:=List Ao
def sq(K:Frag)(B:fh)(H:Hp)(a:Addr):Ao->Prop
 |.lst ts=>B.hd a=true/\∃vs,H a=some (.lst vs)/\bP K (cj B H) vs ts
 |.bX bC=>B.hd a=true/\∃kvs,H a=some (.dK kvs)/\d6 K (cj B H) kvs bC
 |.vG bC=>B.hd a=true/\∃kvs,H a=some (.dT kvs)/\kvs.map (·.1)=bC.map (·.1)/\bP K (cj B H) (kvs.map (·.2)) (bC.map (·.2))
 |.ins x fs=>B.hd a=true/\∃dx b,H a=some (.ins (clsAt K x) dx b)/\H dx=some (.own a)/\B.ix dx=none/\b.map (·.1)=fs.map (·.1)/\bP K (cj B H) (b.map (·.2)) (fs.map (·.2))
 |.Em x=>B.hd a=true/\∃g:Obj,H a=some (.ext λh=>h.get? a=some g)/\g.cls=.ref (clsAt K x)
structure HA(K:Frag)(B:fh)(A:Ab)(H:Hp):Prop where
 hb:HB B H
 ob:∀i o,A[i]?=some o->∃a,B.ix a=some i/\sq K B H a o
 inj:∀a b i,B.ix a=some i->B.ix b=some i->a=b
 lt:∀a i,B.ix a=some i->i<A.length
structure Grows(B:fh)(H:Hp)(B':fh)(H':Hp):Prop where
 jU:e_ (cj B H) (cj B' H')
 kp:∀b o,B.ix b=none->H b=some o->H' b=some o
 hd:∀b,B.ix b=none->B.hd b=true->B'.hd b=true
 nw:∀b i,B'.ix b=some i->B.ix b=none->H b=none
section
variable {B' B1 B2:fh}{H' H2:Hp}{A:Ab}
theorem sq.same {o:Ao}(h:sq K B H a o)(s:bg H H'):sq K B H' a o:=by
 cases o with
 |lst ts=>obtain⟨h0,vs,h1,h2⟩:=h;exact⟨h0,vs,s _ _ h1,h2.same (bJ s)⟩
 |bX bC=>obtain⟨h0,vs,h1,h2⟩:=h;exact⟨h0,vs,s _ _ h1,h2.same (bJ s)⟩
 |vG bC=>obtain⟨h0,vs,h1,h2,b⟩:=h;exact⟨h0,vs,s _ _ h1,h2,b.same (bJ s)⟩
 |Em x=>obtain⟨h0,oe,h1,h2⟩:=h;exact⟨h0,oe,s _ _ h1,h2⟩
 |ins c fs=>obtain⟨h0,dx,iu,h1,h2,b,g,l⟩:=h;exact⟨h0,dx,iu,s _ _ h1,s _ _ h2,b,g,l.same (bJ s)⟩
theorem sq.hd {o:Ao}(h:sq K B H a o):B.hd a=true:=by cases o<;>exact h.1
def sq.mem {o:Ao}(h:sq K B H a o):∃x,H a=some x/\(∀vs,x≠ .tup vs)/\∀q u,x≠ .lH q u:=by
 cases o with
 |lst ts=>obtain⟨h0,vs,h1,h2⟩:=h;exact⟨_,h1,(λ_ e=>by cases e),(λ_ _ e=>by cases e)⟩
 |bX bC=>obtain⟨h0,vs,h1,h2⟩:=h;exact⟨_,h1,(λ_ e=>by cases e),(λ_ _ e=>by cases e)⟩
 |vG bC=>obtain⟨h0,vs,h1,h2⟩:=h;exact⟨_,h1,(λ_ e=>by cases e),(λ_ _ e=>by cases e)⟩
 |Em x=>obtain⟨h0,oe,h1,h2⟩:=h;exact⟨_,h1,(λ_ e=>by cases e),(λ_ _ e=>by cases e)⟩
 |ins c fs=>obtain⟨h0,dx,iu,h1,h2⟩:=h;exact⟨_,h1,(λ_ e=>by cases e),(λ_ _ e=>by cases e)⟩
theorem HA.same (h:HA K B A H)(s:bg H H'):HA K B A H':=
 ⟨h.hb.same s,λi o e=>by obtain⟨a,h1,h2⟩:=h.ob i o e;exact⟨a,h1,h2.same s⟩,h.inj,h.lt⟩
def HA.get (h:HA K B A H){i:Nat}{o:Ao}(e:B.ix a=some i)(q:A[i]?=some o):sq K B H a o:=by
 obtain⟨b,h1,h2⟩:=h.ob i o q;rw[h.inj a b i e h1];exact h2
def HA.ex (h:HA K B A H){i:Nat}(e:B.ix a=some i):∃o,A[i]?=some o/\sq K B H a o:=by
 have l:=h.lt a i e;exact⟨A[i],bY l,h.get e (bY l)⟩
def HA.free (h:HA K B A H){p:Addr}(hp:H p=none):B.ix p=none:=by
 cases e:B.ix p with
 |none=>rfl
 |some i=>
  obtain⟨o,_,q⟩:=h.ex e;obtain⟨x,b,_⟩:=q.mem;rw[hp]at b;cases b
def Grows.of (s:bg H H'):Grows B H B H':=⟨bJ s,λb o _ e=>s b o e,λ_ _ e=>e,λb i e n=>by rw[n]at e;cases e⟩
theorem Grows.refl:Grows B H B H:=.of (bg.refl H)
theorem Grows.trans (hb:HB B H)(a:Grows B H B1 ac)(b:Grows B1 ac B2 H2):Grows B H B2 H2:=by
 have key:∀c,B.ix c=none->(∃o,H c=some o)->B1.ix c=none:=λc n ⟨o,e⟩=>by
  cases q:B1.ix c with
  |none=>rfl
  |some i=>have:=a.nw c i q n;rw[e]at this;cases this
 refine⟨a.jU.trans b.jU,λc o n e=>b.kp c o (key c n ⟨o,e⟩) (a.kp c o n e),λc n e=>?_,λc i e n=>?_⟩
 ·exact b.hd c (key c n (hb c e)) (a.hd c n e)
 ·cases q:B1.ix c with
  |none=>
   have:=b.nw c i e q;cases g:H c with
   |none=>rfl
   |some o=>rw[a.kp c o n g]at this;cases this
  |some j=>exact a.nw c j q n
noncomputable def pY(B:fh)(p:Addr)(i:Nat):fh:=⟨λb=>B.hd b||b==p,λb=>if b=p then some i else B.ix b⟩
def qT:(pY B a i).hd a=true:=by show(B.hd a||a==a)=true;rw[bU,tV]
def iJ{p:Addr}:(pY B p i).ix p=some i:=aW rfl
def iK{b:Addr}(h:b≠a):(pY B a i).ix b=B.ix b:=bc h
def ux{b:Addr}(h:b≠a):(pY B a i).hd b=B.hd b:=by show(B.hd b||b==a)=_;rw[kn h,mK]
def KD{p:Addr}(hp:H p=none)(hx:B.ix p=none)(s:bg H H'):e_ (cj B H) (cj (pY B p i) H'):=⟨λb u e=>by
 have l:=bI b u e;have g:b≠p:=bS l hp;have r:B.hd b=false:=by
  cases q:B.hd b with
  |false=>rfl
  |true=>
   have n:(if B.hd b=true then none else H b)=some u:=e;rw[q,aW rfl]at n;cases n
 rw[gf (by rw[ux g];exact r)];exact s b u l,λb j e=>by
 have g:b≠p:=λz=>by rw[z]at e;rw[show(cj B H).ix p=B.ix p from rfl,hx]at e;cases e
 show(pY B p i).ix b=some j;rw[iK g];exact e⟩
theorem HA.push {p:Addr}{o:Ao}(h:HA K B A H)(hp:H p=none)(s:bg H H')(ho:sq K (pY B p A.length) H' p o):Grows B H (pY B p A.length) H'/\HA K (pY B p A.length) (A++[o]) H':=by
 have hx:=h.free hp;have r:e_ (cj B H) (cj (pY B p A.length) H'):=KD hp hx s;have up:∀{a:Addr} {u:Ao},a≠p->sq K B H a u->sq K (pY B p A.length) H' a u:=λ{a u} M q=>by
  have I:(pY B p A.length).hd a=true:=by rw[ux M];exact q.hd
  cases u with
  |lst ts=>obtain⟨h0,vs,h1,h2⟩:=q;exact⟨I,vs,s _ _ h1,h2.same r⟩
  |bX bC=>obtain⟨h0,vs,h1,h2⟩:=q;exact⟨I,vs,s _ _ h1,h2.same r⟩
  |vG bC=>obtain⟨h0,vs,h1,h2,h3⟩:=q;exact⟨I,vs,s _ _ h1,h2,h3.same r⟩
  |Em x=>obtain⟨h0,oe,h1,h2⟩:=q;exact⟨I,oe,s _ _ h1,h2⟩
  |ins c fs=>
   obtain⟨h0,dx,iu,h1,h2,h3,h4,h5⟩:=q;exact⟨I,dx,iu,s _ _ h1,s _ _ h2,by rw[iK (bS h2 hp)];exact h3,h4,h5.same r⟩
 refine⟨⟨r,λb u _ e=>s b u e,λb _ e=>?_,λb i e n=>?_⟩,⟨λb e=>?_,λi u e=>?_,λa b i l g=>?_,λa i e=>?_⟩⟩
 ·show(B.hd b||b==p)=true;rw[e,tU]
 ·by_cases q:b=p
  ·rw[q];exact hp
  ·rw[iK q,n]at e;cases e
 ·by_cases q:b=p
  ·rw[q];obtain⟨x,g,_⟩:=ho.mem;exact⟨x,g⟩
  ·rw[ux q]at e;obtain⟨x,g⟩:=h.hb b e;exact⟨x,s _ _ g⟩
 ·by_cases q:i<A.length
  ·rw[oV q]at e;obtain⟨a,l,g⟩:=h.ob i u e;have M:a≠p:=λz=>by rw[z,hx]at l;cases l
   exact⟨a,by rw[iK M];exact l,up M g⟩
  ·rw[wU (Nat.le_of_not_lt q)]at e;have hi:i - A.length=0:=by
    cases z:i - A.length with
    |zero=>rfl
    |succ k=>rw[z]at e;cases e
   rw[hi]at e;cases e;have:i=A.length:=by omega
   subst this;exact⟨p,iJ,ho⟩
 ·by_cases S:a=p
  ·by_cases L:b=p
   ·rw[S,L]
   ·rw[S,iJ]at l;cases l;rw[iK L]at g;exact absurd (h.lt b _ g) (eV _)
  ·by_cases L:b=p
   ·rw[L,iJ]at g;cases g;rw[iK S]at l;exact absurd (h.lt a _ l) (eV _)
   ·rw[iK S]at l;rw[iK L]at g;exact h.inj a b i l g
 ·rw[eR,List.length_singleton];by_cases q:a=p
  ·rw[q,iJ]at e;cases e;exact pd _
  ·rw[iK q]at e;exact lP (h.lt a i e)
def jv{u:HO}(h:B.hd a=true):cj B (upd H a u)=cj B H:=by
 unfold cj;congr 1;funext b;by_cases q:b=a
 ·subst q;rw[aW h,aW h]
 ·rw[bp q]
def HA.write {o:Ao}{u:HO}(h:HA K B A H)(e:B.ix a=some i)(ho:sq K B (upd H a u) a o):Grows B H B (upd H a u)/\HA K B (A.set i o) (upd H a u):=by
 have hd:B.hd a=true:=ho.hd;have l:cj B (upd H a u)=cj B H:=jv hd;refine⟨⟨by rw[l];exact e_.refl _,λb x n q=>?_,λ_ _ q=>q,λb j q n=>by rw[n]at q;cases q⟩,⟨λb q=>?_,λj x q=>?_,h.inj,λb j q=>by rw[kQ];exact h.lt b j q⟩⟩
 ·have g:b≠a:=λz=>by rw[z,e]at n;cases n
  rw[bp g];exact q
 ·by_cases z:b=a
  ·subst z;exact⟨u,bM⟩
  ·rw[bp z];exact h.hb b q
 ·rcases fR q with⟨rfl,_,rfl⟩|⟨S,q⟩
  ·exact⟨a,e,ho⟩
  ·obtain⟨b,L,r⟩:=h.ob j x q;have g:b≠a:=λz=>by rw[z,e]at L;cases L;exact S rfl
   refine⟨b,L,?_⟩;cases x with
   |lst ts=>obtain⟨h0,vs,h1,h2⟩:=r;exact⟨h0,vs,by rw[bp g];exact h1,by rw[l];exact h2⟩
   |bX bC=>obtain⟨h0,vs,h1,h2⟩:=r;exact⟨h0,vs,by rw[bp g];exact h1,by rw[l];exact h2⟩
   |vG bC=>obtain⟨h0,vs,h1,h2,I⟩:=r;exact⟨h0,vs,by rw[bp g];exact h1,h2,by rw[l];exact I⟩
   |Em x=>obtain⟨h0,oe,h1,h2⟩:=r;exact⟨h0,oe,by rw[bp g];exact h1,h2⟩
   |ins c fs=>
    obtain⟨h0,dx,iu,h1,h2,I,h4,h5⟩:=r;have M:dx≠a:=λz=>by rw[z,e]at I;cases I
    exact⟨h0,dx,iu,by rw[bp g];exact h1,by rw[bp M];exact h2,I,h4,by rw[l];exact h5⟩
end
mutual
def wb:Tr->Bool
 |.at _=>false
 |.tup ts=>jI ts
 |.lst ts=>jI ts
 |.bX bC=>GK bC
 |.vG bC=>GL bC
 |.ob _ fs=>GN fs
 |_=>true
def jI:List Tr->Bool
 |[]=>true
 |t::ts=>wb t&&jI ts
def GK:List (Key×Tr)->Bool
 |[]=>true
 |p::r=>Qn p&&GK r
def Qn:Key×Tr->Bool
 |(_,t)=>wb t
def GL:List (List Key×Tr)->Bool
 |[]=>true
 |p::r=>Qo p&&GL r
def Qo:List Key×Tr->Bool
 |(_,t)=>wb t
def GN:List (Str×Tr)->Bool
 |[]=>true
 |p::r=>Qp p&&GN r
def Qp:Str×Tr->Bool
 |(_,t)=>wb t
end
theorem z5:∀(bC:List (Key×Tr)),GK bC=jI (bC.map (·.2))
 |[]=>rfl
 |(k,t)::r=>by rw[GK,Qn,bO,jI,z5 r]
theorem z6:∀(bC:List (List Key×Tr)),GL bC=jI (bC.map (·.2))
 |[]=>rfl
 |(k,t)::r=>by rw[GL,Qo,bO,jI,z6 r]
theorem z7:∀(bC:List (Str×Tr)),GN bC=jI (bC.map (·.2))
 |[]=>rfl
 |(k,t)::r=>by rw[GN,Qp,bO,jI,z7 r]
mutual
noncomputable def JC:Tr->Bool
 |.cA=>true
 |.bl _=>true
 |.int _=>true
 |.str _=>true
 |.ty _=>true
 |.at _=>true
 |.tup ts=>mZ ts
 |_=>false
noncomputable def mZ:List Tr->Bool
 |[]=>true
 |t::ts=>JC t&&mZ ts
end
def aZ:Nat->Ab->Tr->Tr
 |0,_,t=>t
 |n+1,A,.at i=>match A[i]? with
  |some (.lst ts)=>.lst (ts.map (aZ n A))
  |some (.bX bC)=>.bX (bC.map λp=>(p.1,aZ n A p.2))
  |some (.vG bC)=>.vG (bC.map λp=>(p.1,aZ n A p.2))
  |some (.ins c fs)=>.ob c (fs.map λp=>(p.1,aZ n A p.2))
  |some (.Em x)=>.zR x
  |none=>.at i
 |_+1,_,t=>t
def fh.un (B:fh):fh:=⟨λb=>B.hd b&&(B.ix b).isNone,B.ix⟩
section
variable {B':fh}{A:Ab}
def Qq:vH B.un B:=⟨λb e=>by
 have g:(B.hd b&&(B.ix b).isNone)=true:=e;rw[bW]at g;exact g.1,λ_ _ e=>e⟩
def ja:e_ (cj B H) (cj B.un H):=xX Qq
def C8(h:HB B H):HB B.un H:=λb e=>h b (Qq.hd b e)
def C9(e:B.ix a=some i):(cj B.un H).H a=H a:=gf (by show(B.hd a&&(B.ix a).isNone)=false;rw[e];exact xw _)
theorem pZ{W W':Vw}{f:Tr->Tr}(h:∀{v t},Rep K W v t->Rep K W' v (f t)):∀{vs:List V} {ts:List Tr},bP K W vs ts->bP K W' vs (ts.map f)
 |[],_,r=>by cases r;exact .nil
 |_::_,_,r=>by cases r with|cons b r=>exact .cons (h b) (pZ h r)
theorem jJ(ha:HA K B A H):∀(n:Nat) {v:V} {t:Tr},Rep K (cj B H) v t->Rep K (cj B.un H) v (aZ n A t)
 |0,v,t,r=>by rw[aZ];exact r.same ja
 |n+1,v,t,r=>by
  cases r with
  |@«at» a i h=>
   have e:B.ix a=some i:=h;obtain⟨o,q,g⟩:=ha.ex e;rw[aZ,q];cases o with
   |lst ts=>
    obtain⟨h0,vs,h1,h2⟩:=g;exact .lst (by rw[C9 e];exact h1) (pZ (λr=>jJ ha n r) h2)
   |bX bC=>
    obtain⟨h0,kvs,h1,h2⟩:=g;refine .bX (.inl (by rw[C9 e];exact h1)) (by rw[h2.keys,cL];rfl) ?_
    have:=pZ (λr=>jJ ha n r) h2.vals;rw[cL]at this⊢;exact this
   |Em x=>obtain⟨h0,oe,h1,h2⟩:=g;exact .zR (by rw[C9 e];exact h1) h2
   |vG bC=>
    obtain⟨h0,kvs,h1,h2,l⟩:=g;refine .vG (by rw[C9 e];exact h1) (by rw[h2,cL];rfl) ?_
    have:=pZ (λr=>jJ ha n r) l;rw[cL]at this⊢;exact this
   |ins c fs=>
    obtain⟨h0,dx,iu,h1,h2,l,I,L⟩:=g;refine .ob (by rw[C9 e];exact h1) (by rw[I,cL];rfl) ?_
    have:=pZ (λr=>jJ ha n r) L;rw[cL]at this⊢;exact this
  |cA=>exact .cA
  |bl b=>exact .bl b
  |int i=>exact .int i
  |str z h=>exact .str z h
  |ty m=>exact .ty m
  |vF h=>exact .vF (ja.h.seq h)
  |tup h r=>exact .tup (ja.h.tup h) (r.same ja)
  |lst h r=>exact .lst (ja.h _ _ h) (r.same ja)
  |bX h e r=>exact .bX (h.same ja.h) e (r.same ja)
  |vG h e r=>exact .vG (ja.h _ _ h) e (r.same ja)
  |ob h e r=>exact .ob (ja.h _ _ h) e (r.same ja)
  |zR h c=>exact .zR (ja.h _ _ h) c
def SD(ha:HA K B A H){x:HO}(e:(cj B.un H).H a=some x)(hx:(∃vs,x=.tup vs)\/∃o u,x=.lH o u):(cj B H).H a=some x:=by
 have b:=bI a x e;cases q:B.hd a with
 |false=>rw[gf q];exact b
 |true=>
  cases z:B.ix a with
  |none=>
   have g:(if B.un.hd a=true then none else H a)=some x:=e;rw[show B.un.hd a=(B.hd a&&(B.ix a).isNone)from rfl,q,z]at g;cases g
  |some i=>
   obtain⟨o,_,n⟩:=ha.ex z;obtain⟨y,l,r,I⟩:=n.mem;rw[b]at l;cases l;rcases hx with⟨vs,rfl⟩|⟨o,u,rfl⟩
   ·exact absurd rfl (r vs)
   ·exact absurd rfl (I o u)
structure lW(W W':Vw):Prop where
 h:∀a x,W.H a=some x->((∃vs,x=.tup vs)\/∃o u,x=.lH o u)->W'.H a=some x
 x:∀a i,W.ix a=some i->W'.ix a=some i
theorem lW.un (q:HA K B A H):lW (cj B.un H) (cj B H):=⟨λa x e b=>SD q e b,λ_ _ e=>e⟩
def lW.trans {W W1 W2:Vw}(a:lW W W1)(b:lW W1 W2):lW W W2:=⟨λc x e g=>b.h c x (a.h c x e g) g,λc i e=>b.x c i (a.x c i e)⟩
def lW.new {p:Addr}{x:HO}(hx:B.ix p=none)(hp:H p=some x)(n1:∀vs,x≠ .tup vs)(n2:∀o u,x≠ .lH o u):lW (cj B H) (cj (pY B p i) H):=⟨λa y e n=>by
 have b:=bI a y e;have g:a≠p:=λz=>by
  rw[z,hp]at b;cases b;rcases n with⟨vs,z⟩|⟨o,u,z⟩
  ·exact n1 vs z
  ·exact n2 o u z
 have r:B.hd a=false:=by
  cases q:B.hd a with
  |false=>rfl
  |true=>
   have l:(if B.hd a=true then none else H a)=some y:=e;rw[q,aW rfl]at l;cases l
 rw[gf (by rw[ux g];exact r)];exact b,λa j e=>by
 have g:a≠p:=λz=>by rw[z]at e;rw[show(cj B H).ix p=B.ix p from rfl,hx]at e;cases e
 show(pY B p i).ix a=some j;rw[iK g];exact e⟩
def GO{W W':Vw}(s:lW W W'){v:V}{t:Tr}(h:Rep K W v t):JC t=true->Rep K W' v t:=by
 refine Rep.rec (motive_1:=λv t _=>JC t=true->Rep K W' v t) (motive_2:=λvs ts _=>mZ ts=true->bP K W' vs ts) ?_ ?_ ?_ ?_ ?_ ?_ ?_ ?_ ?_ ?_ ?_ ?_ ?_ ?_ ?_ h
 ·exact λ_=>.cA
 ·exact λb _=>.bl b
 ·exact λi _=>.int i
 ·exact λz h _=>.str z h
 ·exact λn _=>.ty n
 ·exact λh f=>nomatch f
 ·intro a vs ts h _ r f;refine .tup ?_ (r f)
  rcases h with(h|⟨o,h⟩)|h
  ·exact .inl (.inl (s.h _ _ h (.inl ⟨_,rfl⟩)))
  ·exact .inl (.inr ⟨o,s.h _ _ h (.inr ⟨_,_,rfl⟩)⟩)
  ·exact .inr h
 ·exact λh _ _ f=>nomatch f
 ·exact λh _ _ _ f=>nomatch f
 ·exact λh _=>.at (s.x _ _ h)
 ·exact λh _ _ _ f=>nomatch f
 ·exact λh _ _ _ f=>nomatch f
 ·exact λh c f=>nomatch f
 ·exact λ_=>.nil
 ·intro v t vs ts _ _ g l f;rw[mZ,bW]at f;exact .cons (g f.1) (l f.2)
theorem p4{W W':Vw}(s:lW W W'):∀{vs:List V} {ts:List Tr},bP K W vs ts->mZ ts=true->bP K W' vs ts
 |[],_,r,_=>by cases r;exact .nil
 |_::_,_,r,f=>by
  cases r with
  |cons h r=>
   rw[mZ,bW]at f;exact .cons (GO s h f.1) (p4 s r f.2)
def z8(q:HA K B A H){v:V}{t:Tr}(h:Rep K (cj B.un H) v t)(f:JC t=true):Rep K (cj B H) v t:=GO (.un q) h f
def Rep.KG {W W':Vw}(s:bg W.H W'.H){v:V}{t:Tr}(h:Rep K W v t):wb t=true->Rep K W' v t:=by
 refine Rep.rec (motive_1:=λv t _=>wb t=true->Rep K W' v t) (motive_2:=λvs ts _=>jI ts=true->bP K W' vs ts) ?_ ?_ ?_ ?_ ?_ ?_ ?_ ?_ ?_ ?_ ?_ ?_ ?_ ?_ ?_ h
 ·exact λ_=>.cA
 ·exact λb _=>.bl b
 ·exact λi _=>.int i
 ·exact λz h _=>.str z h
 ·exact λn _=>.ty n
 ·exact λh _=>.vF (s.seq h)
 ·exact λh _ g f=>.tup (s.tup h) (g f)
 ·exact λh _ g f=>.lst (s _ _ h) (g f)
 ·intro a kvs bC h e _ g f;refine .bX (Rd.same s h) e (g ?_);rw[wb,z5]at f;exact f
 ·exact λh f=>nomatch f
 ·intro a kvs bC h e _ g f;refine .vG (s _ _ h) e (g ?_);rw[wb,z6]at f;exact f
 ·intro a c dx I fs h e _ g f;refine .ob (s _ _ h) e (g ?_);rw[wb,z7]at f;exact f
 ·exact λh c _=>.zR (s _ _ h) c
 ·exact λ_=>.nil
 ·intro v t vs ts _ _ l r f;rw[jI,bW]at f;exact .cons (l f.1) (r f.2)
theorem bP.KG {W W':Vw}(s:bg W.H W'.H):∀{vs:List V} {ts:List Tr},bP K W vs ts->jI ts=true->bP K W' vs ts
 |[],_,r,_=>by cases r;exact .nil
 |_::_,_,r,f=>by
  cases r with
  |cons h r=>
   rw[jI,bW]at f;exact .cons (h.KG s f.1) (bP.KG s r f.2)
end
def WV(A:Ab):Cell->Cell
 |.sh t=>.sh (aZ 5 A t)
 |c=>c
def dv(A:Ab)(Y:bV):bV:=Y.map (WV A)
theorem cI.Oi {A:Ab}{Y:bV}(ha:HA K B A H)(n:fT Y)(h:cI K B H Z Y):cI K B.un H Z (dv A Y):=by
 have no:∀i ts,(dv A Y)[i]? ≠some (Cell.ow ts):=λi ts e=>by
  unfold dv at e;rw[ck]at e;cases q:Y[i]? with
  |none=>rw[q]at e;cases e
  |some c=>
   rw[q]at e;cases c with
   |no=>cases e
   |sh t=>cases e
   |ow us=>exact n i us q
 refine⟨by unfold dv;rw[bu];exact h.len,λi t e=>?_,λi ts e=>absurd e (no i ts),λi j ts us D _ e=>absurd e (no i ts)⟩;unfold dv at e;rw[ck]at e;cases q:Y[i]? with
 |none=>rw[q]at e;cases e
 |some c=>
  rw[q]at e;cases c with
  |no=>cases e
  |ow us=>exact absurd q (n i us)
  |sh u=>
   obtain⟨v,b,r⟩:=h.sh i u q;have g:aZ 5 A u=t:=by
    have l:=Option.some.inj e;exact(Cell.sh.inj l)
   rw[<-g];exact⟨v,b,jJ ha 5 r⟩
def cI.grow {B':fh}{H':Hp}{Y:bV}(h:cI K B H Z Y)(n:fT Y)(g:Grows B H B' H'):cI K B' H' Z Y:=
 ⟨h.len,λi t e=>by obtain⟨v,b,r⟩:=h.sh i t e;exact⟨v,b,r.same g.jU⟩,λi ts e=>absurd e (n i ts),λi j ts us D _ e=>absurd e (n i ts)⟩
theorem cZ.get {h:Heap}{o:HO}(x:cZ P w H h a o):∃u,h.get? a=some u:=by
 cases o with
 |lst xs=>obtain⟨_,_,_,_,e⟩:=x;exact⟨_,e⟩
 |tup xs=>obtain⟨_,_,_,o,e,_⟩:=x;exact⟨o,e⟩
 |dK kvs=>obtain⟨_,_,_,_,o,_,_,e,_⟩:=x;exact⟨o,e⟩
 |dT kvs=>obtain⟨_,_,_,_,o,_,_,e,_⟩:=x;exact⟨o,e⟩
 |set S n=>obtain⟨o,_,_,_,e,_⟩:=x;exact⟨o,e⟩
 |ins C dx fs=>obtain⟨_,_,_,e,_⟩:=x;exact⟨_,e⟩
 |own y=>exact x
 |xd fs=>obtain⟨_,⟨_,_,_,e,_⟩,_⟩:=x;exact⟨_,e⟩
 |Zw lo hi=>obtain⟨_,_,_,e⟩:=x;exact⟨_,e⟩
 |lH b u=>obtain⟨e,_⟩:=x;exact⟨_,e⟩
 |PU ps=>exact⟨_,(show h.get? a=some _ from x)⟩
 |met f y=>exact⟨_,(show h.get? a=some _ from x)⟩
 |ext g=>obtain⟨_,e,_⟩:=x;exact e
structure Qr(h0:Heap)(H:Hp)(h:Heap)(a:Addr)(cls:Value):Prop where
 ob:∃oe vs a0,h.get? a=some oe/\oe.cls=cls/\oe.data=.fields vs/\vs[0]?=some a0/\
  (vs[1]?=some .none\/∃T oT ts,vs[1]?=some (.ref T)/\T≠a/\h0.get? T=none/\H T=none/\h.get? T=some oT/\oT.data=.fields ts/\ts[3]?=some .none)
 fr:H a=none
 nw:h0.get? a=none
def XS(X:Cx)(H:Hp)(cls e:Value)(s:Shared):Prop:=∃a U Z h0,e=.ref a/\Inv X U Z H s/\Qr h0 H s.heap a cls/\(∀b,h0.get? b=none->X.gA.heap.get? b=none)/\(∀p∈X.pn,∃o,h0.get? p.1=some o)/\∀b,s.heap.get? b=none->h0.get? b=none
def EX(X:Cx):XK:=λcls _ H=>∀e s,XS X H cls e s->X.xe e s
def vf(P:Program)(w:World):Cy:=λouter H s E e s'=>∃a cls H',e=.ref a/\s'.os=s.os/\AllBare s'.gens/\Un (kc outer) [] H H' s.heap s'.heap/\r9 P w H' s'.heap/\Qr s.heap H' s'.heap a cls/\E cls none H'
def Qr.WW {h0 h1 h:Heap}{cls:Value}(u:Qr h1 H h a cls)(k:∀b,h1.get? b=none->h0.get? b=none):Qr h0 H h a cls:=by
 obtain⟨⟨l,vs,a0,r,I,L,M,g⟩,f,n⟩:=u;refine⟨⟨l,vs,a0,r,I,L,M,?_⟩,f,k a n⟩;rcases g with g|⟨T,oT,ts,S,q,q3,q4⟩
 ·exact .inl g
 ·exact .inr ⟨T,oT,ts,S,q,k T q3,q4⟩
def Inv.C_ (I:Inv X U Z H s)(hx:X.ex=[]){b:Addr}(n:s.heap.get? b=none):X.gA.heap.get? b=none:=by
 cases q:X.gA.heap.get? b with
 |none=>rfl
 |some o=>
  obtain⟨o',e⟩:=I.base.there b o q (by rw[hx];simp);rw[n]at e;cases e
theorem m3(hx:X.ex=[]):Passes (vf X.prog X.w) X (EX X):=by
 intro U Z H s e s' I z;obtain⟨a,cls,H',rfl,os,bare,un,cY,GP,q⟩:=z;have ce:CE X.stack X.prog X.w H s (λ_ H2=>H2=H') .none s':=⟨.cA,H',os,bare,un,cY,rfl,rfl⟩;obtain⟨v,H2,g,_,rfl⟩:=I.after ce;exact q (.ref a) s' ⟨a,U,Z,s.heap,rfl,g,GP,λb n=>I.C_ hx n,λp hp=>⟨_,(I.pin p (kj _ hp)).1⟩,λb n=>by
  cases z:s.heap.get? b with
  |none=>rfl
  |some o=>obtain⟨o',e⟩:=un.there b o z (by simp);rw[n]at e;cases e⟩
section
variable {base:Heap}{outer:List Env}{E:XK}
theorem KH{cls e:Value}{s':Shared}(x:XS (oP (vf P w) P w K mg base ps av ax au af A outer s H E) ac cls e s')(q:E cls none ac):(oP (vf P w) P w K mg base ps av ax au af A outer s H E).xe e s':=by
 obtain⟨a,U,Z,h00,rfl,I,aaW,old,_,_⟩:=x;have GP:=aaW.WW (h0:=s.heap) old;obtain⟨⟨oe,vs,a0,he,AR,hd,h0,h1⟩,fr,nw⟩:=GP
 let env:=envOfC av ax s.heap.objs.size au af
 have Va:(A.deeper env).frames=some (env::outer):=I.ok.frames;have hk:s'.heap.FunFrames base (env::outer):=I.stack;have Vb:∀L∈kc (env::outer),ac L=none/\∃o,s'.heap.get? L=some o/\∀ws,o.data≠ .fields ws:=λL r=>⟨I.wx L r,(hk.mem r).2⟩;have haf:a∉kc (env::outer):=λm=>by
  obtain⟨_,o,g,l⟩:=Vb a m;rw[he]at g;cases g;exact l vs hd
 have fin:∀(hs:List Addr) (h':Heap),(∀b∈hs,ac b=none/\(b∈kc (env::outer)\/s.heap.get? b=none))->(∀b∈kc (env::outer),b∈hs)->a∈hs->(∀b∈hs,b∈kc (env::outer)\/b=a\/ac b=none)->
   Heap.LeftW (PySem.W.hideAll s'.heap hs) (env::outer) a cls a0 s'.heap h'->vf P w outer H s E (.ref a) {s' with heap:=h'}:=by
  intro hs h' hh Q7 abQ _ ⟨k1,k2,k3,k4⟩;have kp:∀b o,b∉hs->s'.heap.get? b=some o->h'.get? b=some o:=λb o nb e=>k1 b o (mz _ e nb);have old:∀b o,s.heap.get? b=some o->b∉kc outer->b∉hs:=λb o e M m=>by
   rcases(hh b m).2 with z|z
   ·unfold kc at z;rw[o5]at z;have S:b∈s.heap.objs.size::kc outer:=z;rcases bG.mp S with S|S
    ·exact absurd (bx e) (by rw[S];exact eV _)
    ·exact M S
   ·rw[e]at z;cases z
  have sl:∀b o,s'.heap.get? b=some o->b∈kc outer->∃sl,h'.get? b=some {o with slots:=sl}:=λb o e m=>by
   obtain⟨_,o2,l,M⟩:=Vb b (by unfold kc at m⊢;rw[o5];exact cu _ m);rw[e]at l;cases l;exact k4 b o e M
  have pins:Un (kc outer) [] H ac s.heap s'.heap:=I.base;refine⟨a,cls,ac,rfl,I.os,I.bare,⟨λb o e n M nx=>?_,λb o e n m nx=>?_,pins.free,λb o e nx=>?_,pins.mR,pins.lI,pins.nM⟩,λb o e=>?_,⟨?_,fr,nw⟩,q⟩
  ·exact kp b o (old b o e M) (pins.keep b o e n M nx)
  ·obtain⟨s1,g⟩:=pins.slot b o e n m nx;obtain⟨s2,l⟩:=sl b _ g m;exact⟨s2,l⟩
  ·obtain⟨o1,g⟩:=pins.there b o e nx;by_cases m:b∈kc outer
   ·obtain⟨s2,l⟩:=sl b o1 g m;exact⟨_,l⟩
   ·exact⟨o1,kp b o1 (old b o e m) g⟩
  ·refine(I.cY b o e).pK (λc u hc z=>kp c u (λm=>?_) z) (λ_ z=>z) λ_ _ z=>z;have n:=(hh c m).1;rcases hc with rfl|hc
   ·rw[n]at e;cases e
   ·rw[n]at hc;cases hc
  ·obtain⟨oe2,vs2,T,oT,ts,q1,⟨q2,q3⟩,q4,q5,q6,q7,q8,q9,q10⟩:=k3;refine⟨oe2,vs2,a0,q1,q2,q4,q3,.inr ⟨T,oT,ts,q5,q7,?_,?_,q8,q9,q10⟩⟩
   ·by_cases m:T∈hs
    ·rcases(hh T m).2 with z|z
     ·obtain⟨o3,e3,n3⟩:=(k2.mem z).2;rw[q8]at e3;cases e3;exact absurd q9 (n3 ts)
     ·exact z
    ·cases z:s.heap.get? T with
     |none=>rfl
     |some o=>
      obtain⟨o1,g⟩:=pins.there T o z (by simp);rw[mz _ g m]at q6;cases q6
   ·by_cases m:T∈hs
    ·exact(hh T m).1
    ·cases z:ac T with
     |none=>rfl
     |some o=>
      obtain⟨u,g⟩:∃u,s'.heap.get? T=some u:=(I.cY T o z).get;rw[mz _ g m]at q6;cases q6
 have lJ:∀e∈(env::outer),∀b,e.frame=some b->b∈kc (env::outer):=λe he b hb=>lO.mpr ⟨e,he,hb⟩;show wpAny (model P w) (A.deeper env) (leaving env (.ref a)) (λ_ RF=>vf P w outer H s E (.ref a) RF) _ s';rcases h1 with h1|⟨T,oT,ts,h1,hTa,hT0,M5,hT,ZR,h3⟩
 ·let hs:=a::kc (env::outer)
  refine wpAny_leaving_firstW (base:=PySem.W.hideAll s'.heap hs) Va (oZ hk λe he b hb=>cu _ (lJ e he b hb)) rfl he (λb o z=>mB _ z) (lM _ (cD ..)) hd h1 h0 λh' r=>?_
  rw[AR]at r;refine fin hs h' (λb m=>?_) (λb m=>cu _ m) (cD ..) (λb m=>?_) r
  ·rcases bG.mp m with rfl|m
   ·exact⟨fr,.inr nw⟩
   ·exact⟨(Vb b m).1,.inl m⟩
  ·rcases bG.mp m with rfl|m
   ·exact .inr (.inl rfl)
   ·exact .inl m
 ·let hs:=a::T::kc (env::outer)
  refine wpAny_leaving_nextW (base:=PySem.W.hideAll s'.heap hs) (cls:=cls) (a0:=a0) Va (oZ hk λe he b hb=>cu _ (cu _ (lJ e he b hb))) rfl
   ⟨oe,vs,T,oT,ts,he,⟨AR,h0⟩,hd,h1,lM _ (cu _ (cD ..)),hTa,hT,ZR,h3⟩ (λb o z=>mB _ z) (lM _ (cD ..)) λh' r=>?_
  refine fin hs h' (λb m=>?_) (λb m=>cu _ (cu _ m)) (cD ..) (λb m=>?_) r
  ·rcases bG.mp m with rfl|m
   ·exact⟨fr,.inr nw⟩
   ·rcases bG.mp m with rfl|m
    ·exact⟨M5,.inr hT0⟩
    ·exact⟨(Vb b m).1,.inl m⟩
  ·rcases bG.mp m with rfl|m
   ·exact .inr (.inl rfl)
   ·rcases bG.mp m with rfl|m
    ·exact .inr (.inr M5)
    ·exact .inl m
end
inductive Rz(α:Type) where
 |bad|ok (a:α) (A:Ab)|exc (c:Tr) (A:Ab)
variable {aH:bV->Ab->Rz (List Tr)}{aI aJ:bV->Ab->Rz Tr}{aK:bV->Ab->Rz Out}
noncomputable def Rz.bind {α β:Type}(r:Rz α)(f:α->Ab->Rz β):Rz β:=match r with
 |.ok a A=>f a A
 |.exc c A=>.exc c A
 |.bad=>.bad
def gZ(xc:Tr->Ab->Prop){α:Type}(r:Rz α)(k:α->Ab->Prop):Prop:=match r with
 |.ok a A=>k a A
 |.exc c A=>xc c A
 |.bad=>False
section
variable {β:Type}{r:Rz ag}{k k':ag->Ab->Prop}{xc U8:Tr->Ab->Prop}
def gZ.mono (h:gZ xc r k)(w:∀a A,k a A->k' a A):gZ xc r k':=by
 cases r with
 |ok a A=>exact w a A h
 |_=>exact h
def gZ.imp (h:gZ xc r k)(w:∀c A,xc c A->U8 c A):gZ U8 r k:=by
 cases r with
 |ok a A=>exact h
 |exc c A=>exact w c A h
 |bad=>exact h
theorem gZ.bind {f:ag->Ab->Rz β}{k:β->Ab->Prop}(h:gZ xc (r.bind f) k):gZ xc r λa A=>gZ xc (f a A) k:=by
 cases r with
 |_=>exact h
end
def gO{α:Type}(r:Rs α)(A:Ab):Rz α:=match r with
 |.ok a=>.ok a A
 |_=>.bad
def m4{X:Cx}{H:Hp}{xc:Tr->Ab->Prop}{r:Rs ag}{A:Ab}{k:ag->Ab->Prop}(q:gZ xc (gO r A) k):Fi X H r λa=>k a A:=by
 cases r with
 |ok a=>exact q
 |exc c=>exact fe q
 |bad=>exact q
def WX(K:Frag):Tr->Value
 |.str x=>.ref (clsAt K x)
 |_=>.none
def XE(X:Cx)(B:fh)(H:Hp):Tr->Ab->Prop:=λc A=>∀B' H',Grows B H B' H'->HA X.K B' A H'->EX X (WX X.K c) none H'
def XE.grow {B':fh}{H':Hp}{c:Tr}{A:Ab}(hb:HB B H)(h:XE X B H c A)(g:Grows B H B' H'):XE X B' H' c A:=λB2 H2 g2 b=>h B2 H2 (g.trans hb g2) b
inductive tE(X:Cx)(F:bV->Ab->Rz Tr)(Z:St)(H:Hp)(Q:VK):Prop
 |mk (B:fh) (A:Ab) (Y:bV):HA X.K B A H->cI X.K B H Z Y->fT Y->(gZ (XE X B H) (F Y A) fun t A'=>∀v B' H',Grows B H B' H'->HA X.K B' A' H'->Rep X.K (cj B' H') v t->Q v H')->tE X F Z H Q
inductive Qs(X:Cx)(F:bV->Ab->Rz Bool)(Z:St)(H:Hp)(Q:Bool->Hp->Prop):Prop
 |mk (B:fh) (A:Ab) (Y:bV):HA X.K B A H->cI X.K B H Z Y->fT Y->(gZ (XE X B H) (F Y A) fun b A'=>∀B' H',Grows B H B' H'->HA X.K B' A' H'->Q b H')->Qs X F Z H Q
inductive M6(X:Cx)(F:bV->Ab->Rz (List Tr))(Z:St)(H:Hp)(Q:List V->Hp->Prop):Prop
 |mk (B:fh) (A:Ab) (Y:bV):HA X.K B A H->cI X.K B H Z Y->fT Y->(gZ (XE X B H) (F Y A) fun ts A'=>∀vs B' H',Grows B H B' H'->HA X.K B' A' H'->bP X.K (cj B' H') vs ts->Q vs H')->M6 X F Z H Q
def SE(H H':Hp)(p:Addr):Prop:=H p=none/\∀o u,H' p≠some (.lH o u)
theorem SE.lst {H':Hp}{p:Addr}(h:H p=none)(r:Rep K (cj B H') (.ref p) (.lst ts)):SE H H' p:=by
 cases r with
 |lst e _=>exact⟨h,λo u z=>by rw[bI _ _ e]at z;cases z⟩
theorem SE.upd {H1:Hp}{p:Addr}{x:HO}(h:H p=none)(q:∀o u,x≠ .lH o u):SE H (L2.upd H1 p x) p:=⟨h,λo u z=>by rw[bM]at z;cases z;exact q _ _ rfl⟩
inductive tF(X:Cx)(F:bV->Rs Tr)(Z:St)(H:Hp)(Q:VK):Prop
 |mk (B:fh) (Y:bV):HB B H->cI X.K B H Z Y->(Fi X H (F Y) fun t=>∀v H',bg H H'->Rep X.K (cj B H') v t->(∀p,v=.ref p->SE H H' p)->Q v H')->tF X F Z H Q
def sx(r:Rs Tr)(A:Ab):Rz Tr:=match r with
 |.ok t=>if JC t=true then .ok t A else .bad
 |_=>.bad
def vg(r:Rs Tr)(A:Ab):Rz Tr:=match r with
 |.ok (.lst ts)=>if mZ ts=true then .ok (.at A.length) (A++[.lst ts])else .bad
 |.ok (.bX bC)=>if mZ (bC.map (·.2))=true then .ok (.at A.length) (A++[.bX bC])else .bad
 |.ok (.vG bC)=>if mZ (bC.map (·.2))=true then .ok (.at A.length) (A++[.vG bC])else .bad
 |_=>.bad
def C'{Q:VK}(q:tE X (λY A=>gO (F Y) A) Z H Q):tP X F Z H Q:=by
 obtain⟨B,A,Y,ha,r,_,q⟩:=q;exact⟨B,Y,ha.hb,r,(m4 q).mono λt b v H' s g=>b v B H' (.of s) (ha.same s) g⟩
theorem SF(h:PE X e (tP X F)):PE X e (tE X λY A=>gO (F Y) A):=h.weak λZ H Q q=>C' q
theorem SG(h:PE X e (tP X F)):PE X e (tE X λY A=>sx (F (dv A Y)) A):=
 h.weak λZ H Q ⟨B,A,Y,ha,r,n,q⟩=>⟨B.un,dv A Y,C8 ha.hb,r.Oi ha n,by
   have q:gZ (XE X B H) (sx (F (dv A Y)) A) _:=q;cases e:F (dv A Y)with
   |bad=>rw[e]at q;exact q
   |exc c=>rw[e]at q;exact fe q
   |ok t=>
    rw[e]at q;intro v H' s g;by_cases f:JC t=true
    ·have b:gZ _ (if JC t=true then Rz.ok t A else .bad) _:=q;rw[aW f]at b;exact b v B H' (.of s) (ha.same s) (z8 (ha.same s) g f)
    ·have b:gZ _ (if JC t=true then Rz.ok t A else .bad) _:=q;rw[bc f]at b;exact fe b⟩
theorem Oj(h:PT X e (tQ X aF)):PT X e (Qs X λY A=>gO (aF (dv A Y)) A):=
 h.weak λZ H Q ⟨B,A,Y,ha,r,n,q⟩=>⟨B.un,dv A Y,C8 ha.hb,r.Oi ha n,(m4 q).mono λt b H' s=>b B H' (.of s) (ha.same s)⟩
def iw{c:Prop}[Decidable c]{xc:Tr->Ab->Prop}{r:Rz ag}{k:ag->Ab->Prop}(h:gZ xc (if c then r else .bad) k):c/\gZ xc r k:=by
 by_cases q:c
 ·rw[aW q]at h;exact⟨q,h⟩
 ·rw[bc q]at h;exact fe h
def sA{Q:VK}(q:tE X (λY A=>vg (F (dv A Y)) A) Z H Q):tF X F Z H Q:=by
  obtain⟨B,A,Y,ha,r,n,q⟩:=q;refine⟨B.un,dv A Y,C8 ha.hb,r.Oi ha n,?_⟩;have q:gZ (XE X B H) (vg (F (dv A Y)) A) _:=q;cases e:F (dv A Y)with
  |bad=>rw[e]at q;exact q
  |exc c=>rw[e]at q;exact fe q
  |ok t=>
   rw[e]at q;intro v H' s M fr;have I:=ha.same s;cases M with
   |@lst p vs ts h b=>
    have hp:=(fr p rfl).1;obtain⟨f,l⟩:=iw q;have h1:H' p=some (.lst vs):=bI _ _ h;obtain⟨g,h2⟩:=ha.push (o:=.lst ts) hp s ⟨qT,vs,h1,p4 ((lW.un I).trans (.new (ha.free hp) h1 (λ_ z=>by cases z) λ_ _ z=>by cases z)) b f⟩;exact l _ _ H' g h2 (.at iJ)
   |@bX p kvs bC h L b=>
    have hp:=(fr p rfl).1;obtain⟨f,l⟩:=iw q;have h1:H' p=some (.dK kvs):=by
     rcases h.same bI with h|⟨o,h⟩
     ·exact h
     ·exact((fr p rfl).2 _ _ h).elim
    obtain⟨g,h2⟩:=ha.push (o:=.bX bC) hp s ⟨qT,kvs,h1,L,p4 ((lW.un I).trans (.new (ha.free hp) h1 (λ_ z=>by cases z) λ_ _ z=>by cases z)) b f⟩;exact l _ _ H' g h2 (.at iJ)
   |@vG p kvs bC h L b=>
    have hp:=(fr p rfl).1;obtain⟨f,l⟩:=iw q;have h1:H' p=some (.dT kvs):=bI _ _ h;obtain⟨g,h2⟩:=ha.push (o:=.vG bC) hp s ⟨qT,kvs,h1,L,p4 ((lW.un I).trans (.new (ha.free hp) h1 (λ_ z=>by cases z) λ_ _ z=>by cases z)) b f⟩;exact l _ _ H' g h2 (.at iJ)
   |_=>exact fe q
theorem WY(h:PE X e (tF X F)):PE X e (tE X λY A=>vg (F (dv A Y)) A):=h.weak λZ H Q q=>sA q
def vK(X:Cx)(D:Ends)(B0:fh)(H0:Hp):Out->Ab->Prop
 |.nx Y,A=>∀b B' H',Grows B0 H0 B' H'->HA X.K B' A H'->cI X.K B' H' b Y->fT Y->D.nx b H'
 |.ret t,A=>∀v B' H',Grows B0 H0 B' H'->HA X.K B' A H'->Rep X.K (cj B' H') v t->D.rt v H'
 |.bk Y,A=>∀b B' H',Grows B0 H0 B' H'->HA X.K B' A H'->cI X.K B' H' b Y->fT Y->D.bk b H'
 |.ct Y,A=>∀b B' H',Grows B0 H0 B' H'->HA X.K B' A H'->cI X.K B' H' b Y->fT Y->D.ct b H'
inductive tZ(X:Cx)(G:bV->Ab->Rz Out)(D:Ends)(Z:St)(H:Hp):Prop
 |mk (B0:fh) (H0:Hp) (B:fh) (A:Ab) (Y:bV):HB B0 H0->Grows B0 H0 B H->HA X.K B A H->cI X.K B H Z Y->fT Y->gZ (XE X B0 H0) (G Y A) (vK X D B0 H0)->tZ X G D Z H
section
variable {b c:Expr}{F:bV->Ab->Rz Tr}{G':bV->Ab->Rz Out}{P:bV->Ab->Rz Bool}
def E4(r:Rz Out)(aK:bV->Ab->Rz Out):Rz Out:=r.bind λo A=>match o with
 |.nx Y=>aK Y A
 |.ret t=>.ok (.ret t) A
 |.bk Y=>.ok (.bk Y) A
 |.ct Y=>.ok (.ct Y) A
theorem WZ:oU X [] (tZ X λY A=>.ok (.nx Y) A):=F5.weak λD Z H ⟨B0,H0,B,A,Y,hb,g,ha,r,n,q⟩=>q Z B H g ha r n
theorem SH(h1:PS X ai (tZ X aK))(h2:oU X ah (tZ X G')):oU X (ai::ah) (tZ X λY A=>E4 (aK Y A) G'):=
 (Cv h1 h2).weak λD Z H ⟨B0,H0,B,A,Y,hb,g,ha,r,n,q⟩=>⟨B0,H0,B,A,Y,hb,g,ha,r,n,q.bind.mono λo A1 b=>by
  cases o with
  |nx iB=>exact λM B' H' g' l I L=>⟨B0,H0,B',A1,iB,hb,g',l,I,L,b⟩
  |ret t=>exact b
  |bk iB=>exact b
  |ct iB=>exact b⟩
def W0(q:PS X ai (tZ X aK)):oU X [ai] (tZ X aK):=F6 q
def W3:PE X e (tE X λ_ _=>.bad):=λ_ _ _ _ _ _ ⟨_,_,_,_,_,_,q⟩=>(show False from q).elim
def p5{B0:fh}{A:Ab}{Y:bV}{k:Tr->Ab->Prop}(hb:HB B0 ac)(g:Grows B0 ac B H)(ha:HA X.K B A H)(r:cI X.K B H Z Y)(n:fT Y)(q:gZ (XE X B0 ac) (F Y A) k){Q:VK}
  (hq:∀t A' v B' H',k t A'->Grows B0 ac B' H'->HA X.K B' A' H'->cI X.K B' H' Z Y->Rep X.K (cj B' H') v t->Grows B H B' H'->Q v H'):tE X F Z H Q:=
 ⟨B,A,Y,ha,r,n,(q.imp λc A' x=>x.grow hb g).mono λt A' b v B' H' g' l I=>hq t A' v B' H' b (g.trans hb g') l (r.grow n g') I g'⟩
def SI{B0:fh}{A:Ab}{Y:bV}{k:Bool->Ab->Prop}(hb:HB B0 ac)(g:Grows B0 ac B H)(ha:HA X.K B A H)(r:cI X.K B H Z Y)(n:fT Y)(q:gZ (XE X B0 ac) (P Y A) k){Q:Bool->Hp->Prop}
  (hq:∀t A' B' H',k t A'->Grows B0 ac B' H'->HA X.K B' A' H'->cI X.K B' H' Z Y->Q t H'):Qs X P Z H Q:=
 ⟨B,A,Y,ha,r,n,(q.imp λc A' x=>x.grow hb g).mono λt A' b B' H' g' l=>hq t A' B' H' b (g.trans hb g') l (r.grow n g')⟩
def Bi(i:Nat)(r:Rz Tr)(Y:bV):Rz Out:=r.bind λt A=>.ok (.nx (Y.set i (.sh t))) A
theorem W4(he:PE X e (tE X F))(hN:X.N.Nodup:=by assumption) (hi:X.N[i]?=some x:=by rfl) (hx:Loc X.env.scope x:=by first|exact Or.inl rfl|exact Or.inr rfl) (hs:sj e=false:=by rfl) (hf:zf X x:=by first|exact .inl rfl|exact .inr rfl|assumption):
  PS X (.Assign [.Name x p] e pos) (tZ X λY A=>Bi i (F Y A) Y):=
 (JT hN hi hx he (xY hs) hf).weak λD Z H ⟨B0,H0,B,A,Y,hb,g,ha,r,n,q⟩=>p5 hb g ha r n q.bind λt A' v B' H' b g' l I L _=>b _ B' H' g' l (I.set i L) (n.set i t)
def KI(r:Rz Tr):Rz Out:=r.bind λt A=>.ok (.ret t) A
theorem W5(he:PE X e (tE X F)):PS X (.Return (some e) pos) (tZ X λY A=>KI (F Y A)):=
 (JP he).weak λD Z H ⟨B0,H0,B,A,Y,hb,g,ha,r,n,q⟩=>p5 hb g ha r n q.bind λt A' v B' H' b g' l L I _=>b v B' H' g' l I
theorem SJ:PS X (.Return none pos) (tZ X λ_ A=>.ok (.ret .cA) A):=
 Ni.weak λD Z H ⟨B0,H0,B,A,Y,hb,g,ha,r,n,q⟩=>q .cA B H g ha .cA
def p7(r:Rz Tr)(Y:bV):Rz Out:=r.bind λ_ A=>.ok (.nx Y) A
theorem SK(he:PE X e (tE X F))(hs:sj e=false:=by rfl):PS X (.Expr e pos) (tZ X λY A=>p7 (F Y A) Y):=
 (Nh he (xY hs)).weak λD Z H ⟨B0,H0,B,A,Y,hb,g,ha,r,n,q⟩=>p5 hb g ha r n q.bind λt A' v B' H' b g' l I L _=>b _ B' H' g' l I n
def ZU(c:Rz Bool)(am b:Ab->Rz Out):Rz Out:=c.bind λk A=>if k then am A else b A
theorem aaX(hc:PT X c (Qs X P))(h1:oU X ah (tZ X aK))(h2:oU X aj (tZ X G')):PS X (.If c ah aj pos) (tZ X λY A=>ZU (P Y A) (aK Y) (G' Y)):=
 (P0 hc h1 h2).weak λD Z H ⟨B0,H0,B,A,Y,hb,g,ha,r,n,q⟩=>SI hb g ha r n q.bind λk A' B' H' b g' l I=>by
  cases k with
  |true=>exact RZ ⟨B0,H0,B',A',Y,hb,g',l,I,n,b⟩
  |false=>exact RY ⟨B0,H0,B',A',Y,hb,g',l,I,n,b⟩
def KJ(T:oQ)(r:Rz Tr)(Y:bV):Rz Out:=r.bind λt A=>(gO (T t Y) A).bind λb A=>.ok (.nx b) A
def KL{T:oQ}{B0:fh}{A:Ab}{Y:bV}{v:V}{t:Tr}{k:bV->Ab->Prop}(hT:jV T)(hb:HB B0 ac)(g:Grows B0 ac B H)(ha:HA X.K B A H)(r:cI X.K B H Z Y)(n:fT Y)(rv:Rep X.K (cj B H) v t){xc:Tr->Ab->Prop}(q:gZ xc (gO (T t Y) A) k){Q:St->Hp->Prop}
  (hq:∀iB dF H',k iB A->Grows B0 ac B H'->HA X.K B A H'->cI X.K B H' dF iB->fT iB->bg H H'->Q dF H'):tG X T v Z H Q:=by
 refine⟨B,Y,t,ha.hb,r,rv,?_⟩;cases e:T t Y with
 |ok iB=>rw[e]at q;exact λdF H' s b=>hq iB dF H' q (g.trans hb (.of s)) (ha.same s) b (hT t Y iB n e) s
 |exc c=>rw[e]at q;exact fe q
 |bad=>rw[e]at q;exact q
theorem W6{T:oQ}(hg:PG X tg (tG X T))(hT:jV T)(he:PE X e (tE X F))(hs:swapsWithSole [tg] e pos.line X.env=pure false:=by rfl) (hw:swappedStores [tg] e X.env=pure none:=by rfl)
  (h1:(assignEach [tg] X.env).map (·.2)=[assign tg X.env]:=by rfl):PS X (.Assign [tg] e pos) (tZ X λY A=>KJ T (F Y A) Y):=
 (JS he hg hs hw h1).weak λD Z H ⟨B0,H0,B,A,Y,hb,g,ha,r,n,q⟩=>p5 hb g ha r n q.bind λt A' v B' H' b g' l I L _=>
  KL hT hb g' l I n L (gZ.bind b) λiC M H2 S g2 p8 r2 n2 _=>S M B' H2 g2 p8 r2 n2
def sC(T:oQ)(aK:bV->Ab->Rz Out):List Tr->bV->Ab->Rz Out
 |[],Y,A=>.ok (.nx Y) A
 |t::ts,Y,A=>(gO (T t Y) A).bind λg A=>(aK g A).bind λo A=>match o with
  |.nx b=>sC T aK ts b A
  |.ct b=>sC T aK ts b A
  |.bk b=>.ok (.nx b) A
  |.ret t=>.ok (.ret t) A
def GQ(T:oQ)(aK:bV->Ab->Rz Out)(l:Rz (List Tr))(Y:bV):Rz Out:=l.bind λts A=>sC T aK ts Y A
theorem W7{T:oQ}(hi:PI X tg am (tI X L))(hg:PG X tg (tG X T))(hT:jV T)(hb:oU X ah (tZ X aK))(hp:PassesOwn (model X.prog X.w) X.A X.env X.xe:=by first|exact pC|exact xx) (hc:X.calm=true:=by rfl)
  (hs:isSet am=false:=by rfl):PS X (.For tg am ah [] pos) (tZ X λY A=>GQ T aK (gO (L Y) A) Y):=
 (Ex hp hc hi hg hb (gC hs)).weak λD Z H ⟨B0,H0,B,A,Y,Ci,g,ha,r,n,q⟩=>⟨B,Y,ha.hb,r,(m4 (gZ.bind q)).mono λts qt J H1 s1 gt=>by
  have g1:Grows B0 H0 B H1:=g.trans Ci (.of s1);have Bj:HB B H1:=ha.hb.same s1;refine⟨λi m dF H'=>m=ts.length - i/\i<=ts.length/\∃B' A' iB,Grows B H1 B' H'/\HA X.K B' A' H'/\cI X.K B' H' dF iB/\fT iB/\gZ (XE X B0 H0) (sC T aK (ts.drop i) iB A') (vK X D B0 H0),⟨_,rfl,d9 _,B,A,Y,.refl,ha.same s1,r.same s1,n,qt⟩,?_⟩
  rintro i m dF H' ⟨rfl,hi,B',A',iB,g',ke,r',n',q'⟩
  by_cases gB:i<ts.length
  ·rw[oW gB]at q';refine .inr ⟨gt.go i B' H' gB g'.jU ke.hb,λwy H2=>∃B2 A2 b,Grows B H1 B2 H2/\HA X.K B2 A2 H2/\cI X.K B2 H2 wy b/\fT b/\gZ (XE X B0 H0) (sC T aK (ts.drop (i+1)) b A2) (vK X D B0 H0),
    λwy H2 x=>⟨ts.length - (i+1),by omega,rfl,gB,x⟩,λx H2 hx=>?_⟩
   obtain⟨s2,t,et,rt⟩:=gt.F8 i B' H' x H2 gB g'.jU ke.hb hx;have Si:ts[i]=t:=by rw[bY gB]at et;exact Option.some.inj et
   rw[Si]at q';have g2:Grows B H1 B' H2:=g'.trans Bj (.of s2);refine KL hT Bj g2 (ke.same s2) (r'.same s2) n' rt (gZ.bind q') λrK Nm H3 q1 g3 GR r3 n3 _=>?_
   refine⟨B,H1,B',A',rK,Bj,g3,GR,r3,n3,((gZ.bind q1).imp λc A'' x=>x.grow Ci g1).mono λo A4 qo=>?_⟩;cases o with
   |nx b=>exact λKN l H4 I M S n4=>⟨l,A4,b,I,M,S,n4,qo⟩
   |ct b=>exact λKN l H4 I M S n4=>⟨l,A4,b,I,M,S,n4,qo⟩
   |bk b=>exact λKN l H4 I M S n4=>qo KN l H4 (g1.trans Ci I) M S n4
   |ret t=>exact λv l H4 I M S=>qo v l H4 (g1.trans Ci I) M S
  ·have e:i=ts.length:=by omega
   subst e;rw[pj]at q';exact .inl ⟨gt.stop B' H' g'.jU,q' dF B' H' (g1.trans Ci g') ke r' n'⟩⟩
end
section
variable {a:Expr}
def GS(r:Rz Tr)(l:Ab->Rz (List Tr)):Rz (List Tr):=r.bind λx A=>(l A).bind λxs A=>.ok (x::xs) A
theorem KO:PA X [] (M6 X λ_ A=>.ok [] A):=se.weak λZ H Q ⟨B,A,Y,ha,r,n,q⟩=>q [] B H .refl ha .nil
theorem GU(h1:PE X a (tE X aI))(hr:PA X aA (M6 X aH))(hs:isStar a=false:=by rfl):PA X (a::aA) (M6 X λY A=>GS (aI Y A) (aH Y)):=
 (lS h1 hr (bL _ _ hs)).weak λZ H Q ⟨B,A,Y,ha,r,n,q⟩=>⟨B,A,Y,ha,r,n,q.bind.mono λx A1 b v B1 H1 g1 g l=>⟨B1,A1,Y,g,r.grow n g1,n,((gZ.bind b).imp λc A' x=>x.grow ha.hb g1).mono λxs A2 I vs B2 H2 g2 L M=>I _ B2 H2 (g1.trans ha.hb g2) L (.cons (l.same g2.jU) M)⟩⟩
def WrZ(X:Cx)(r:V->List V->Hp->VK->Prop)(h:Nat->List Tr->Ab->Rz Tr):Prop:=
 ∀(B:fh) (A:Ab) (H:Hp) (a:Addr) (i:Nat) (xs:List V) (ts:List Tr) (Q:VK),HA X.K B A H->B.ix a=some i->bP X.K (cj B H) xs ts->
  gZ (XE X B H) (h i ts A) (λt A'=>∀v B' H',Grows B H B' H'->HA X.K B' A' H'->Rep X.K (cj B' H') v t->Q v H')->r (.ref a) xs H Q
def W8(A:Ab)(i:Nat):Bool:=match A[i]? with
 |some (.lst _)=>true
 |_=>false
def SM{A:Ab}(q:HA K B A H)(e:B.ix au=some i)(h:W8 A i=true):∃xs,H au=some (.lst xs):=by
 obtain⟨o,b,g⟩:=q.ex e;unfold W8 at h;rw[b]at h;cases o with
 |lst ts=>obtain⟨_,vs,h1,_⟩:=g;exact⟨vs,h1⟩
 |_=>cases h
def mtL(h:Nat->List Tr->Ab->Rz Tr)(r:Rz Tr)(l:Ab->Rz (List Tr)):Rz Tr:=r.bind λt A=>match t with
 |.at i=>if W8 A i=true then(l A).bind λts A=>h i ts A else .bad
 |_=>.bad
variable {r:V->List V->Hp->VK->Prop}{h:Nat->List Tr->Ab->Rz Tr}
theorem W9(slot:Slot "list" av ay)(NB:typeOf (.builtin ay)=pure (.type "method_descriptor"))(hm:MtM X ay r)(hz:WrZ X r h)(ho:PE X o (tE X aI))(ha:PA X (e::aA) (M6 X aH))(pa:PlainAttrs "list":=by exact sS)
  (pO:isCall o=false:=by rfl) (cG:bA (e::aA)=true:=by rfl) (hn:(e::aA).length<30:=by decide) (gb:(b8.endLine==p.line)=true:=by rfl):
  PE X (.Call (.Attribute o av b8) (e::aA) [] p) (tE X λY A=>mtL h (aI Y A) (aH Y)):=
 (Gd pa slot NB hm ho ha (gD pO) (by rw[jH cG,iF (show(e::aA).length+([]:List Keyword).length+(if([]:List Keyword).isEmpty then 0 else 1)<30 from hn)];rfl) gb (bL _ _ (bq cG).1) (cR (bq cG).2)).weak λZ H Q ⟨B,A,Y,ha,r,n,q⟩=>⟨B,A,Y,ha,r,n,q.bind.mono λt A1 b v B1 H1 g1 l L=>by
  split at b
  ·rename_i i;obtain⟨a,rfl,I⟩:=L.nP;obtain⟨M,S⟩:=iw b;obtain⟨xs,g⟩:=SM l I M;exact⟨.inl ⟨rfl,xs,lR.of g⟩,B1,A1,Y,l,r.grow n g1,n,((gZ.bind S).imp λc A' x=>x.grow ha.hb g1).mono λts A2 qs vs B2 H2 g2 p8 rs=>hz B2 A2 H2 a i vs ts Q p8 (g2.jU.x _ _ I) rs ((qs.imp λc A' x=>x.grow ha.hb (g1.trans ha.hb g2)).mono λt A3 b v B3 H3 g3 GR r3=>b v B3 H3 ((g1.trans ha.hb g2).trans ha.hb g3) GR r3)⟩
  ·exact b.elim⟩
def SN(i:Nat):List Tr->Ab->Rz Tr
 |[t],A=>match A[i]? with
  |some (.lst ts)=>if ts.length<ee then .ok .cA (A.set i (.lst (ts++[t])))else .bad
  |_=>.bad
 |_,_=>.bad
def vh:WrZ X Ge SN:=by
 intro B A H a i xs ts Q b l rs q;unfold SN at q;split at q
 ·obtain⟨y,rfl,r1⟩:=gg rs;split at q
  ·rename_i n;obtain⟨hz,q⟩:=iw q;obtain⟨hd,vs,h1,h2⟩:=b.get l n;obtain⟨g,r⟩:=b.write (o:=.lst (_++[_])) (u:=.lst (vs++[y])) l ⟨hd,_,bM,by rw[jv hd];exact h2.append (.cons r1 .nil)⟩;exact⟨a,vs,y,rfl,rfl,h1,by rw[h2.length,<-i_];exact hz,q .cA B _ g r .cA⟩
  ·exact q.elim
 ·exact q.elim
end
def yj(r:Rz Out):Rs Tr:=match r with
 |.ok (.nx _) _=>.ok .cA
 |.ok (.ret t) A=>if wb (aZ 3 A t)=true then .ok (aZ 3 A t)else .bad
 |_=>.bad
def yk:fT (startT az ts):=λi us e=>by
 rcases qR e with q|⟨u,_,q⟩<;>cases q
theorem zg.okZ {base:Heap}{qual:Str}{st:Stmt}{f:Addr}{fd:FuncData}{N:List Str}{k:Nat}(Fn:zg K x qual st f fd)(S:hW N ps (bH st))(len:∀ts t,h ts=.ok t->ts.length=ps.length)
  (kW:∀(f_:Value) (A:Around) (outer:List Env) (s:Shared) (H:Hp) (E:XK),di k (A.deeper (envOfC qual (bH st) s.heap.objs.size f f_))->
   ∃G,oU (oP mw P w K mg base N qual (bH st) f f_ A outer s H E).Jz (fZ st) (tZ (oP mw P w K mg base N qual (bH st) f f_ A outer s H E).Jz G)/\∀ts t,h ts=.ok t->jI ts=true/\yj (G (startT N.length ts) [])=.ok t):eI P w K mg base mw (k+1) f fd ps (spT K h):=by
 refine Fn.ok S (λvs H Q E q=>?_) (λf_ A outer s H vs Q E hr q=>?_)
 ·obtain⟨B,ts,hb,r,t,e,_⟩:=q;rw[r.length];exact len ts t e
 ·obtain⟨B,ts,hb,r,t,e,q⟩:=q;obtain⟨G,hG,hE⟩:=kW f_ A outer s H E hr;obtain⟨na,l⟩:=hE ts t e
  let B0:fh:=⟨B.hd,λ_=>none⟩
  have M:HB B0 H:=hb;have I:HA K B0 [] H:=⟨M,λi o z=>by simp at z,(λa b i z=>by cases(show(none:Option Nat)=some i from z)),(λa i z=>by cases(show(none:Option Nat)=some i from z))⟩;have r0:bP K (cj B0 H) vs ts:=bP.KG (W:=cj B H) (W':=cj B0 H) (λ_ _ e=>e) r na;have sm:∀{B':fh} {H':Hp},Grows B0 H B' H'->bg H H':=λg b o z=>g.kp b o rfl z;refine⟨_,hG,B0,H,B0,[],startT N.length ts,M,.refl,I,cI.start r0,yk,?_⟩;cases eo:G (startT N.length ts) []with
  |ok o A1=>
   rw[eo]at l;cases o with
   |nx Y=>cases l;exact λdF B' H' g ha r' n'=>q .cA H' (sm g) .cA
   |ret u=>
    have n:(if wb (aZ 3 A1 u)=true then Rs.ok (aZ 3 A1 u)else .bad)=.ok t:=l;by_cases z:wb (aZ 3 A1 u)=true
    ·rw[aW z]at n;cases n;intro v B' H' g ha r';refine q v H' (sm g) (Rep.KG (λb o z=>?_) (jJ ha 3 r') z);have z1:=bI b o z;cases L:B.hd b with
     |false=>rw[gf L];exact z1
     |true=>
      have h2:B'.hd b=true:=g.hd b rfl L;have h3:B'.ix b=none:=by
       cases h4:B'.ix b with
       |none=>rfl
       |some i=>have h5:=g.nw b i h4 rfl;obtain⟨o2,h6⟩:=hb b L;rw[h5]at h6;cases h6
      have z2:(if B'.un.hd b=true then none else H' b)=some o:=z;rw[show B'.un.hd b=(B'.hd b&&(B'.ix b).isNone)from rfl,h2,h3]at z2;cases z2
    ·rw[bc z]at n;cases n
   |_=>cases l
  |_=>rw[eo]at l;cases l
def Dc(n m:Nat)(G:bV->Ab->Rz Out)(ts:List Tr):Rs Tr:=if ts.length=n/\jI ts=true then yj (G (startT m ts) [])else .bad
def KQ{n:Nat}(h:Dc n i aK ts=.ok aC):ts.length=n:=by
 unfold Dc at h;split at h
 ·rename_i z;exact z.1
 ·cases h
def Ol{t:Tr}(h:Dc i az aK ts=.ok t):jI ts=true/\yj (aK (startT az ts) [])=.ok t:=by
 unfold Dc at h;split at h
 ·rename_i z;exact⟨z.2,h⟩
 ·cases h
section
theorem W_(h:PA X aA (CM X L)):PE X (.List aA pos) (tF X λY=>zq (L Y)):=
 (J7 h).weak λZ H Q ⟨B,Y,hb,r,q⟩=>⟨B,Y,hb,r,q.bind.mono λts b vs H1 s1 g=>by
  by_cases hz:ts.length<=ee
  ·rw[aW hz]at b;refine⟨by rw[g.length,<-i_];exact hz,λp hp=>b (.ref p) _ (s1.A7 (s1.free hp)) (.lst ((hb.same s1).new hp) (g.same (bJ (bg.upd hp)))) λp' e=>by cases e;exact .upd (s1.free hp) (λ_ _ z=>by cases z)⟩
  ·rw[bc hz]at b;exact b.elim⟩
theorem SO:PE X (.Dict [] [] pos) (tF X λ_=>.ok (.bX [])):=
 Ke.weak λZ H Q ⟨B,Y,hb,r,q⟩ p hp=>q (.ref p) _ (bg.upd hp) (.bX (.inl (hb.new hp)) rfl .nil) λp' e=>by cases e;exact .upd hp (λ_ _ z=>by cases z)
variable {scope:Scope}{N':List Str}{ix:List (Option Nat)}{elt c5:Expr}{ifs:List Expr}{T:oQ}{W:bV->Rs (List Tr)}
def z9{Q:VK}(hT:jV T)(q:tF X (λY=>vI ix T aF F (W Y) Y) Z H Q):U7 (tI X W) ix (Qh X.K T) (Qg X.K aF) (Qf X.K F) Z H Q:=by
 obtain⟨B,Y,hb,r,q⟩:=q;refine⟨B,Y,hb,r,q.bind.mono λts b J H1 s1 gt D g=>?_⟩;by_cases hz:ts.length<=ee
 ·rw[aW hz]at b;exact wB hT (wA ix Y) (hb.same s1) gt hz ((r.same s1).comp ix (kX g)) g (Fi.bind b) λys H' k s' l=>k _ H' (s1.trans s') l λp e=>by cases e;exact .lst (s1.free g) l
 ·rw[bc hz]at b;exact b.elim
theorem aaY(Lk:gY X N' ix scope)(hi:PI X tg c5 (tI X W))(lJ:NY X scope N' tg elt ifs T aF F)(hT:jV T)(hc:X.calm=true:=by rfl) (hs:isSet c5=false:=by rfl):
  PE X (.ListComp elt [⟨tg,c5,ifs,0⟩] scope pos) (tF X λY=>vI ix T aF F (W Y) Y):=
 (Km Lk hc hi lJ.U' (gC hs)).weak λZ H Q q=>z9 hT q
theorem Om(Lk:gY X N' ix scope)(hit:PI X tg c5 (tI X W))(lJ:NY X scope N' tg elt ifs T aF F)(hT:jV T)(hN:X.N.Nodup:=by assumption) (hc:X.calm=true:=by rfl) (hi:X.N[i]?=some x:=by rfl) (hx:Loc X.env.scope x:=by first|exact Or.inl rfl|exact Or.inr rfl)
  (HZ:swapsWith (.ListComp elt [⟨tg,c5,ifs,0⟩] scope pos) (some (.Name x p)) b8.line X.env=pure true:=by rfl) (hs:isSet c5=false:=by rfl) (hf:zf X x:=by first|exact .inl rfl|exact .inr rfl|assumption):
  PS X (.Assign [.Name x p] (.ListComp elt [⟨tg,c5,ifs,0⟩] scope pos) b8) (tZ X λY A'=>Bi i (vg (vI ix T aF F (W (dv A' Y)) (dv A' Y)) A') Y):=
 (xV Lk hc hN hi hx hit lJ.U' HZ (gC hs) hf).weak λD Z H ⟨B0,H0,B,A',Y,hb,g,ha,r,n,q⟩=>z9 hT (sA (F:=λY=>vI ix T aF F (W Y) Y) (p5 (F:=λY A'=>vg (vI ix T aF F (W (dv A' Y)) (dv A' Y)) A') hb g ha r n q.bind λt A2 v B' H' b g' l I L _=>b _ B' H' g' l (I.set i L) (n.set i t)))
inductive rF(X:Cx)(h:List Tr->Rs Tr)(xs:List V)(H:Hp)(Q:VK):Prop
 |mk (B:fh) (ts:List Tr):HB B H->bP X.K (cj B H) xs ts->(Fi X H (h ts) fun t=>∀v H',bg H H'->Rep X.K (cj B H') v t->(∀p,v=.ref p->SE H H' p)->Q v H')->rF X h xs H Q
theorem KR(hc:gL X (.type ay) (rF X h))(hm:X.mg x=none)(ha:PA X (e::aA) (CM X L))(hv:bootBuiltins x=some (.type ay):=by rfl) (hg:Gl X x:=by rfl) (hn:x≠"__name__":=by decide) (fM:Db x:=by decide)
  (cG:bA (e::aA)=true:=by rfl):PE X (.Call (.Name x p) (e::aA) [] pos) (tF X λY=>dO h (L Y)):=
 (u_ hc hg hm hv ha hn fM (bL _ _ (bq cG).1) (cR (bq cG).2)).weak λZ H Q ⟨B,Y,hb,r,q⟩=>⟨B,Y,hb,r,q.bind.mono λts b vs H1 s1 r1=>⟨B,ts,hb.same s1,r1,(b.same s1).mono λt b v H2 s2 g fr=>b v H2 (s1.trans s2) g λp e=>⟨s1.free (fr p e).1,(fr p e).2⟩⟩⟩
theorem Oo:gL X (.type "list") (rF X Qi):=by
 intro U s Z H xs us Q I b ⟨B,ts,hb,r,q⟩;unfold Qi at q;split at q
 ·obtain⟨x,e,r1⟩:=gg r;obtain⟨o,vs,rfl,h,rr⟩:=r1.dY;exact uf U s Z H _ us Q I b ⟨_,_,e,.inr h.up,λp hp=>q _ _ (bg.upd hp) (.zt hb hp rr) λp' e=>by cases e;exact .upd hp (λ_ _ z=>by cases z)⟩
 ·obtain⟨x,e,r1⟩:=gg r;obtain⟨o,vs,rfl,h,rr⟩:=r1.lst_inv;exact uf U s Z H _ us Q I b ⟨_,_,e,.inl (.of (eB h)),λp hp=>q _ _ (bg.upd hp) (.zt hb hp rr) λp' e=>by cases e;exact .upd hp (λ_ _ z=>by cases z)⟩
 ·exact q.elim
end
section
variable {H1 H':Hp}{o:Obj}{kvs:List (Key×V)}
theorem Inv.frozen (I:Inv X U Z H s)(ha:H a=some (.dK kvs))(ho:s.heap.get? a=some o):Inv X U Z (upd H a (.lH o (.dK kvs))) s:=by
 have ne:∀{b:Addr} {u:HO},H b=some u->u≠ .dK kvs->b≠a:=λ{b u} e d z=>by subst z;rw[ha]at e;cases e;exact d rfl
 have nn:∀{b:Addr},H b=none->b≠a:=λ{b} e z=>by subst z;rw[ha]at e;cases e
 refine⟨I.ok,I.os,I.bare,⟨I.base.keep,I.base.slot,λb g e n l=>?_,I.base.there,λb xs e=>?_,λb g u e=>?_,λb ps e=>?_⟩,I.loc,I.cell,?_,λx c e=>?_,λp hp=>?_,λb u e=>?_,I.len⟩
 ·have q:=I.base.free b g e n l;rw[bp (nn q)];exact q
 ·have q:=I.base.mR b xs e;rw[bp (ne q (λz=>by cases z))];exact q
 ·have q:=I.base.lI b g u e;rw[bp (ne q (λz=>by cases z))];exact q
 ·obtain⟨m,q⟩:=I.base.nM b ps e;exact⟨m,by rw[bp (ne q (λz=>by cases z))];exact q⟩
 ·rw[bp (nn I.free)];exact I.free
 ·rw[bp (nn (I.f' x c e))];exact I.f' x c e
 ·obtain⟨p1,p2,r⟩:=I.pin p hp;exact⟨p1,by rw[bp (nn p2)];exact p2,r⟩
 ·have ow:∀c d,H c=some (.own d)->upd H a (.lH o (.dK kvs)) c=some (.own d):=λc d q=>by rw[bp (ne q (λz=>by cases z))];exact q
  have tu:∀c xs,H c=some (.tup xs)->upd H a (.lH o (.dK kvs)) c=some (.tup xs):=λc d q=>by rw[bp (ne q (λz=>by cases z))];exact q
  by_cases z:b=a
  ·subst z;rw[bM]at e;cases e;exact⟨ho,(I.cY b _ ha).pK (λ_ _ _ q=>q) (λc q=>ow c b q) tu⟩
  ·rw[bp z]at e;exact(I.cY b u e).pK (λ_ _ _ q=>q) (λc q=>ow c b q) tu
theorem Inv.SQ (I:Inv X U Z H s)(ha:H a=some (.lH o (.dK kvs)))(h0:∀o' u,X.Ct a≠some (.lH o' u)):Inv X U Z (upd H a (.dK kvs)) s:=by
 have ne:∀{b:Addr} {u:HO},H b=some u->u≠ .lH o (.dK kvs)->b≠a:=λ{b u} e d z=>by subst z;rw[ha]at e;cases e;exact d rfl
 have nn:∀{b:Addr},H b=none->b≠a:=λ{b} e z=>by subst z;rw[ha]at e;cases e
 refine⟨I.ok,I.os,I.bare,⟨I.base.keep,I.base.slot,λb g e n l=>?_,I.base.there,λb xs e=>?_,λb g u e=>?_,λb ps e=>?_⟩,I.loc,I.cell,?_,λx c e=>?_,λp hp=>?_,λb u e=>?_,I.len⟩
 ·have q:=I.base.free b g e n l;rw[bp (nn q)];exact q
 ·have q:=I.base.mR b xs e;rw[bp (ne q (λz=>by cases z))];exact q
 ·have q:=I.base.lI b g u e;rw[bp (λz=>by subst z;exact h0 _ _ e)];exact q
 ·obtain⟨m,q⟩:=I.base.nM b ps e;exact⟨m,by rw[bp (ne q (λz=>by cases z))];exact q⟩
 ·rw[bp (nn I.free)];exact I.free
 ·rw[bp (nn (I.f' x c e))];exact I.f' x c e
 ·obtain⟨p1,p2,r⟩:=I.pin p hp;exact⟨p1,by rw[bp (nn p2)];exact p2,r⟩
 ·have ow:∀c d,H c=some (.own d)->upd H a (.dK kvs) c=some (.own d):=λc d q=>by rw[bp (ne q (λz=>by cases z))];exact q
  have tu:∀c xs,H c=some (.tup xs)->upd H a (.dK kvs) c=some (.tup xs):=λc d q=>by rw[bp (ne q (λz=>by cases z))];exact q
  by_cases z:b=a
  ·subst z;rw[bM]at e;cases e;exact(I.cY b _ ha).2.pK (λ_ _ _ q=>q) (λc q=>ow c b q) tu
  ·rw[bp z]at e;exact(I.cY b u e).pK (λ_ _ _ q=>q) (λc q=>ow c b q) tu
structure z_(H H':Hp)(a:Addr)(u u':HO)(kvs:List (Key×V)):Prop where
 fr:H a=some u
 to:H'=upd H a u'
 ok:(u=.dK kvs/\∃o,u'=.lH o (.dK kvs))\/(u'=.dK kvs/\∃o,u=.lH o (.dK kvs))
variable {u u':HO}
def z_.uy (w:z_ H H' a u u' kvs){b:Addr}{x:HO}(e:H b=some x)(q:∀k,x≠ .dK k)(h2:∀o k,x≠ .lH o (.dK k)):H' b=some x:=by
 rw[w.to,bp ?_]
 ·exact e
 ·intro z;subst z;rw[w.fr]at e;cases e;rcases w.ok with⟨g,_⟩|⟨_,o,g⟩
  ·exact q _ g
  ·exact h2 _ _ g
def me{x:HO}(e:(cj B H).H a=some x)(h:H a=some x->H' a=some x):(cj B H').H a=some x:=by
 have b:(if B.hd a=true then none else H a)=some x:=e;show(if B.hd a=true then none else H' a)=some x;split at b
 ·cases b
 ·rename_i n;rw[bc n];exact h b
def z_.seq (w:z_ H H' a u u' kvs){b:Addr}{xs:List V}(h:lR K (cj B H).H b xs):lR K (cj B H').H b xs:=by
 rcases h with(h|⟨o,h⟩)|h
 ·exact .inl (.inl (me h λe=>w.uy e (λ_ z=>by cases z) λ_ _ z=>by cases z))
 ·exact .inl (.inr ⟨o,me h λe=>w.uy e (λ_ z=>by cases z) λ_ _ z=>by cases z⟩)
 ·exact .inr h
def z_.tup (w:z_ H H' a u u' kvs){b:Addr}{xs:List V}(h:js K (cj B H).H b xs):js K (cj B H').H b xs:=by
 rcases h with(h|⟨o,h⟩)|h
 ·exact .inl (.inl (me h λe=>w.uy e (λ_ z=>by cases z) λ_ _ z=>by cases z))
 ·exact .inl (.inr ⟨o,me h λe=>w.uy e (λ_ z=>by cases z) λ_ _ z=>by cases z⟩)
 ·exact .inr h
def z_.bX (w:z_ H H' a u u' kvs){b:Addr}{ks:List (Key×V)}(h:Rd (cj B H).H b (.dK ks)):Rd (cj B H').H b (.dK ks):=by
 by_cases z:b=a
 ·subst z;have hb:B.hd b=false:=by
   cases q:B.hd b with
   |false=>rfl
   |true=>
    have n:(cj B H).H b=none:=by show(if B.hd b=true then none else H b)=none;rw[aW q]
    rcases h with h|⟨o,h⟩<;>(rw[n]at h;cases h)
  have h':Rd H b (.dK ks):=by unfold Rd at h⊢;rw[gf hb]at h;exact h
  have l:ks=kvs:=by
   rcases h' with h|⟨o,h⟩<;>rw[w.fr]at h<;>rcases w.ok with⟨g,_⟩|⟨_,o',g⟩<;>rw[g]at h<;>cases h<;>rfl
  subst l;unfold Rd;rw[gf hb,w.to,bM];rcases w.ok with⟨_,o',g⟩|⟨g,_⟩
  ·rw[g];exact .inr ⟨o',rfl⟩
  ·rw[g];exact .inl rfl
 ·have r:(cj B H').H b=(cj B H).H b:=by
   show(if B.hd b=true then none else H' b)=(if B.hd b=true then none else H b);rw[w.to,bp z]
  unfold Rd;rw[r];exact h
def z_.rep (w:z_ H H' a u u' kvs){v:V}{t:Tr}(h:Rep K (cj B H) v t):Rep K (cj B H') v t:=by
 refine Rep.rec (motive_1:=λv t _=>Rep K (cj B H') v t) (motive_2:=λvs ts _=>bP K (cj B H') vs ts) ?_ ?_ ?_ ?_ ?_ ?_ ?_ ?_ ?_ ?_ ?_ ?_ ?_ ?_ ?_ h
 ·exact .cA
 ·exact λb=>.bl b
 ·exact λi=>.int i
 ·exact λz h=>.str z h
 ·exact λn=>.ty n
 ·exact λh=>.vF (w.seq h)
 ·exact λh _ r=>.tup (w.tup h) r
 ·exact λh _ r=>.lst (me h λe=>w.uy e (λ_ z=>by cases z) λ_ _ z=>by cases z) r
 ·exact λh e _ r=>.bX (w.bX h) e r
 ·exact λh=>.at h
 ·exact λh e _ r=>.vG (me h λe=>w.uy e (λ_ z=>by cases z) λ_ _ z=>by cases z) e r
 ·exact λh e _ r=>.ob (me h λe=>w.uy e (λ_ z=>by cases z) λ_ _ z=>by cases z) e r
 ·exact λh c=>.zR (me h λe=>w.uy e (λ_ z=>by cases z) λ_ _ z=>by cases z) c
 ·exact .nil
 ·exact λ_ _ h r=>.cons h r
theorem z_.Xa (w:z_ H H' a u u' kvs):∀{vs:List V} {ts:List Tr},bP K (cj B H) vs ts->bP K (cj B H') vs ts
 |[],_,h=>by cases h;exact .nil
 |_::_,_,h=>by cases h with|cons h r=>exact .cons (w.rep h) (z_.Xa w r)
def z_.Iq {Y:bV}(w:z_ H H' a u u' kvs)(h:cI K B H Z Y):cI K B H' Z Y:=
 ⟨h.len,λi t e=>by obtain⟨v,b,r⟩:=h.sh i t e;exact⟨v,b,w.rep r⟩,
   λi ts e=>by obtain⟨D,ys,b,g,l,r⟩:=h.ow i ts e;exact⟨D,ys,b,g,w.uy l (λ_ z=>by cases z) (λ_ _ z=>by cases z),w.Xa r⟩,h.ap⟩
def z_.hb (w:z_ H H' a u u' kvs)(h:HB B H):HB B H':=λb e=>by
 obtain⟨o,q⟩:=h b e;by_cases z:b=a
 ·subst z;rw[w.to];exact⟨_,bM⟩
 ·exact⟨o,by rw[w.to,bp z];exact q⟩
def Ir(X:Cx)(B:fh)(H H':Hp):Prop:=bg H H'\/∃H1 a o kvs,bg H H1/\B.hd a=false/\H1 a=some (.dK kvs)/\H'=upd H1 a (.lH o (.dK kvs))/\∀o u,X.Ct a≠some (.lH o u)
def k_(X:Cx)(H:Hp)(k:Hp->Prop):Prop:=k H\/∃a o kvs,H a=some (.lH o (.dK kvs))/\(∀o u,X.Ct a≠some (.lH o u))/\k (upd H a (.dK kvs))
def k_.inv {k:Hp->Prop}(q:k_ X H k)(I:Inv X U Z H s):∃H',Inv X U Z H' s/\k H':=by
 rcases q with q|⟨a,o,kvs,e,h0,q⟩
 ·exact⟨H,I,q⟩
 ·exact⟨_,I.SQ e h0,q⟩
def PE.Vc {t:TE}(h:PE X e t):PE X e (λZ H Q=>t Z H λv H'=>k_ X H' (Q v)):=λU s Z H Q I q=>
 eK (h U s Z H _ I q) λu s' ⟨v,H',b,r,z⟩=>by
  obtain⟨H2,g,l⟩:=z.inv b;exact⟨v,H2,g,r,l⟩
def Ends.Vc (X:Cx)(D:Ends):Ends:=⟨λZ H=>k_ X H (D.nx Z),λv H=>k_ X H (D.rt v),λZ H=>k_ X H (D.bk Z),λZ H=>k_ X H (D.ct Z)⟩
theorem PS.Vc {st:Stmt}{t:TS}(h:PS X st t):PS X st (λD Z H=>t (D.Vc X) Z H):=λU s Z H D I q=>
 eK (h U s Z H _ I q) λf s' z=>by
  cases f with
  |next=>obtain⟨dF,H',b,z⟩:=z;obtain⟨H2,g,l⟩:=k_.inv z b;exact⟨dF,H2,g,l⟩
  |brk=>obtain⟨dF,H',b,z⟩:=z;obtain⟨H2,g,l⟩:=k_.inv z b;exact⟨dF,H2,g,l⟩
  |cont=>obtain⟨dF,H',b,z⟩:=z;obtain⟨H2,g,l⟩:=k_.inv z b;exact⟨dF,H2,g,l⟩
  |ret u=>obtain⟨v,dF,H',b,r,z⟩:=z;obtain⟨H2,g,l⟩:=k_.inv z b;exact⟨v,dF,H2,g,r,l⟩
theorem Ir.Iq {Y:bV}(h:Ir X B H H')(r:cI K B H Z Y):cI K B H' Z Y:=by
 rcases h with s|⟨H1,a,o,kvs,s,b,ha,rfl,h0⟩
 ·exact r.same s
 ·exact z_.Iq (u:=.dK kvs) ⟨ha,rfl,.inl ⟨rfl,o,rfl⟩⟩ (r.same s)
theorem Ir.hb (h:Ir X B H H')(r:HB B H):HB B H':=by
 rcases h with s|⟨H1,a,o,kvs,s,b,ha,rfl,h0⟩
 ·exact r.same s
 ·exact z_.hb (u:=.dK kvs) ⟨ha,rfl,.inl ⟨rfl,o,rfl⟩⟩ (r.same s)
theorem Ir.free {p:Addr}(h:Ir X B H H')(e:H' p=none):H p=none:=by
 rcases h with s|⟨H1,a,o,kvs,s,b,ha,rfl,h0⟩
 ·exact s.free e
 ·refine s.free ?_
  by_cases z:p=a
  ·subst z;rw[bM]at e;cases e
  ·rw[bp z]at e;exact e
def Ir.back {H2:Hp}{B2:fh}{C:fh}(h:Ir X B H H')(si:eE C B H' B2 H2):∃Hu,eE C B H B2 Hu/\(∀{K:Frag} {B3:fh} {v:V} {t:Tr},Rep K (cj B3 H2) v t->Rep K (cj B3 Hu) v t)/\(∀{K:Frag} {Z:St} {Y:bV},cI K B2 H2 Z Y->cI K B2 Hu Z Y)/\∀k:Hp->Prop,k Hu->k_ X H2 k:=by
 rcases h with s|⟨H1,a,o,kvs,s,L,ha,rfl,h0⟩
 ·exact⟨H2,⟨λb o c e=>si.kp b o c (s _ _ e),(bJ s).trans si.jU,si.sub,si.hb⟩,λr=>r,λr=>r,λk q=>.inl q⟩
 ·have M:(cj B (upd H1 a (.lH o (.dK kvs)))).H a=some (.lH o (.dK kvs)):=by rw[gf L];exact bM
  have g:=si.jU.h _ _ M;have I:H2 a=some (.lH o (.dK kvs)):=bI _ _ g;have w:z_ H2 (upd H2 a (.dK kvs)) a (.lH o (.dK kvs)) (.dK kvs) kvs:=⟨I,rfl,.inr ⟨rfl,o,rfl⟩⟩;have l:B2.hd a=false:=by
   cases q:B2.hd a with
   |false=>rfl
   |true=>
    have n:(cj B2 H2).H a=none:=by show(if B2.hd a=true then none else H2 a)=none;rw[aW q]
    rw[n]at g;cases g
  refine⟨upd H2 a (.dK kvs),⟨λb ob c e=>?_,⟨λb ob e=>?_,λb i e=>?_⟩,si.sub,w.hb si.hb⟩,λr=>w.rep r,λr=>w.Iq r,λk q=>.inr ⟨a,o,kvs,I,h0,q⟩⟩
  ·have q:=s _ _ e;by_cases z:b=a
   ·subst z;rw[ha]at q;cases q;exact bM
   ·rw[bp z];exact si.kp b ob c (by rw[bp z];exact q)
  ·by_cases z:b=a
   ·subst z;have q:=s _ _ (bI _ _ e);rw[ha]at q;cases q;rw[gf l];exact bM
   ·have q:(cj B (upd H1 a (.lH o (.dK kvs)))).H b=some ob:=me e λe=>by rw[bp z];exact s _ _ e
    exact me (si.jU.h _ _ q) λe=>by rw[bp z];exact e
  ·exact si.jU.x b i e
def Ir.Qt {H2:Hp}(h:Ir X B H H')(hb:HB B H)(s2:bg H' H2):∃q,bg H q/\(∀{K:Frag} {B3:fh} {v:V} {t:Tr},Rep K (cj B3 H2) v t->Rep K (cj B3 q) v t)/\∀k:Hp->Prop,k q->k_ X H2 k:=by
 obtain⟨q,g,r,_,k⟩:=h.back (C:=B) (B2:=B) (H2:=H2) ⟨λb o _ e=>s2 _ _ e,bJ s2,.refl,(h.hb hb).same s2⟩;exact⟨q,g.same,r,k⟩
end
def Itd(a:Addr)(o:Obj)(kvs:List (Key×V)):It:=
 ⟨λi H=>H a=some (.lH o (.dK kvs))/\i<kvs.length,λi H x H'=>H'=H/\∃k v,kvs[i]?=some (k,v)/\x=kV k,λi H=>H a=some (.lH o (.dK kvs))/\kvs.length<=i⟩
def Bk{kvs:List (Key×V)}{vs:List (Key×Value)}(r:KV kvs vs){k:Key}{v:V}(e:kvs[i]?=some (k,v)):∃u,vs[i]?=some (k,u):=by
 have b:Paired _ kvs vs:=r
 clear r
 induction b generalizing i with
 |nil=>simp at e
 |cons h t g=>
  cases i with
  |zero=>
   simp at e;subst e;rename_i q _ _;obtain⟨n,l⟩:=q;cases h.1;exact⟨l,rfl⟩
  |succ j=>exact g (by simpa using e)
def sD{kvs:List (ag×V)}{vs:List (ag×Value)}(r:KV kvs vs):kvs.length=vs.length:=by
 have b:Paired _ kvs vs:=r
 clear r
 induction b with
 |nil=>rfl
 |cons h t g=>rw[dB,dB,g]
theorem Iu(a it:Addr)(o:Obj)(kvs:List (Key×V))(es:Array DictEntry)(ep:Nat)(hd:o.data=.dict es ep):Turn P w K tg (Itd a o kvs) [it] it (λi h=>h.IsKeyIter it a i kvs.length ep) where
 mem:=by simp
 obj:=λi h st b hb=>by
  have e:b=it:=by simpa using hb
  subst e;obtain⟨o,e,c,d⟩:=st;exact⟨o,e,λv z=>by rw[d]at z;cases z⟩
 keep:=λi h h' st k=>by
  obtain⟨o,e,c⟩:=st;exact⟨o,k it (by simp) o e,c⟩
 item:=by
  intro X r hw L hc i U s Z H E I hf st ⟨M,hi⟩;subst r hw L;obtain⟨g,hz,hs,vs,rv,o',AQ,JK,h1,h2,l,S⟩:=(show cZ X.prog X.w H s.heap a (.lH o (.dK kvs))from I.cY a _ M);rw[g]at h1;cases h1;rw[hd]at l;cases l;obtain⟨f0,f1,f2,q,f4,f5⟩:=hf it (by simp);have n:=sD rv;have ex:kvs[i]?=some (kvs[i].1,kvs[i].2):=by simp[hi]
  obtain⟨u,hu⟩:=Bk rv ex;rw[n]at st;refine wpAny_pyNext_dict_item (knd:=cp X.prog X.w) st ⟨o,es,g,h2,hd,S⟩ hu λkey h' hk xF sb=>?_
  have I1:Inv X U Z H {s with heap:=h'}:=I.turned (t':=s.toks) (λb o hb e=>(sb.2 b hb).trans e) f0 f1 q f4 f5;obtain⟨oi,e,c,d⟩:=id xF;refine⟨key,rfl,zH (s:={s with heap:=h'}) e c d (by decide) ⟨kV kvs[i].1,H,I1,?_,⟨rfl,_,_,ex,rfl⟩,by rw[n];exact xF,λb hb=>(hf b hb).1⟩⟩;rcases dS hk with⟨j,t,e1,e2⟩|⟨y,t,e1,e2⟩
  ·rw[e1,e2];exact⟨t,rfl⟩
  ·rw[e1,e2];exact⟨t,rfl⟩
 done:=by
  intro X r hw L hc i U s Z H E I hf st ⟨M,hi⟩;subst r hw L;obtain⟨g,hz,hs,vs,rv,o',AQ,JK,h1,h2,l,S⟩:=(show cZ X.prog X.w H s.heap a (.lH o (.dK kvs))from I.cY a _ M);rw[g]at h1;cases h1;rw[hd]at l;cases l;obtain⟨f0,f1,f2,q,f4,f5⟩:=hf it (by simp);have n:=sD rv;rw[n]at st;exact wpAny_pyNext_dict_end (knd:=cp X.prog X.w) (I.ok.hd hc) st ⟨o,es,g,h2,hd,S⟩ (List.getElem?_eq_none (by rw[<-n];exact hi)) λh' eb=>⟨rfl,I.turned (t':=s.toks) (λb o hb e=>eb b o hb e) f0 f1 q f4 f5⟩
 self:=λ_ _ _ _ _ st h=>wpAny_pyIter_keyiter st h
def Aa:Key->Tr
 |.inl i=>.int i
 |.inr z=>.str z
def keyOk:Key->Bool
 |.inl _=>true
 |.inr z=>decide (z.length<=dc)
def Ac{W:Vw}{k:Key}(h:keyOk k=true):Rep K W (kV k) (Aa k):=by
 cases k with
 |inl i=>exact .int i
 |inr z=>exact .str z (eO h)
def De(bC:List (Key×Tr)):Rs (List Tr):=if bC.all (λp=>keyOk p.1)=true then .ok (bC.map λp=>Aa p.1)else .bad
def KU(r:Rs Tr):Rs (List Tr):=r.bind λt=>match t with
 |.bX bC=>De bC
 |_=>.bad
inductive tJ(X:Cx)(W:bV->Rs (List Tr))(Z:St)(H:Hp)(R:It->Hp->Prop):Prop
 |mk (B:fh) (Y:bV):HB B H->cI X.K B H Z Y->(Fi X H (W Y) fun ts=>∀J H',Ir X B H H'->lV X.K B J H' ts->R J H')->tJ X W Z H R
theorem E6{o:Obj}{kvs:List (Key×V)}(h:(cj B H).H a=some (.lH o (.dK kvs)))(e:kvs.map (·.1)=aG.map (·.1))(hk:aG.all (λp=>keyOk p.1)=true):lV K B (Itd a o kvs) H (aG.map λp=>Aa p.1):=by
 have l:kvs.length=aG.length:=by have q:=cX List.length e;rw[bu,bu]at q;exact q
 refine⟨λi B' H' hi s hb=>⟨bI _ _ (s.h _ _ h),by rw[bu]at hi;rw[l];exact hi⟩,λi B' H' x L hi s hb ⟨r,k,v,I,ex⟩=>?_,λB' H' s=>⟨bI _ _ (s.h _ _ h),by rw[bu,l];exact bz _⟩⟩;subst r ex;have b:(kvs.map (·.1))[i]?=some k:=by rw[ck,I];rfl
 rw[e,ck]at b;cases g:aG[i]? with
 |none=>rw[g]at b;cases b
 |some p=>
  rw[g]at b;have n:p.1=k:=Option.some.inj b;refine⟨bg.refl _,Aa k,by rw[ck,g,<-n];rfl,Ac ?_⟩;rw[<-n];exact dH.mp hk p (d7 g)
section
theorem Xb(hl:PE X am (tP X F)):PI X tg am (tJ X λY=>KU (F Y)):=by
 intro U s Z H R I ⟨B,Y,hb,r,q⟩;refine eK (hl U s Z H (λx H1=>∃(a:Addr) (kvs:List (Key×V)) (bC:List (Key×Tr)),x=.ref a/\bg H H1/\Rd (cj B H1).H a (.dK kvs)/\kvs.map (·.1)=bC.map (·.1)/\bC.all (λp=>keyOk p.1)=true/\∀J H',Ir X B H H'->lV X.K B J H' (bC.map λp=>Aa p.1)->R J H') I ⟨B,Y,hb,r,q.bind.mono λt M v H1 s1 r1=>?_⟩) λv s1 ⟨x,H1,l,r1,a,kvs,bC,ex,sm,rd,ek,hk,k⟩=>?_
 ·skip
  split at M
  ·obtain⟨a,kvs,S,h,e,rr⟩:=r1.nO;obtain⟨z,q1⟩:=gM M;exact⟨a,kvs,_,S,s1,h,e,z,q1⟩
  ·exact M.elim
 ·subst ex;cases r1;have L:Rd H1 a (.dK kvs):=rd.same bI;have hv:B.hd a=false:=by
   cases z:B.hd a with
   |false=>rfl
   |true=>
    have n:(cj B H1).H a=none:=by show(if B.hd a=true then none else H1 a)=none;rw[aW z]
    rcases rd with h|⟨o,h⟩<;>(rw[n]at h;cases h)
  obtain⟨hz,hs,vs,rv,o,es,ep,h1,h2,h3,h4⟩:=(show cZ X.prog X.w H1 s1.heap a (.dK kvs)from L.ok l.cY);refine wpAny_pyIter_dict (knd:=cp X.prog X.w) hs ⟨o,es,h1,h2,h3,h4⟩ ?_
  have fin:∀{H2:Hp},Inv X U Z H2 s1->H2 a=some (.lH o (.dK kvs))->Ir X B H H2->ZD X U Z tg R (.ref s1.heap.objs.size) {s1 with heap:=s1.heap.push {cls:=.type "dict_keyiterator",data:=.fields #[.ref a,.int 0 0,.int vs.length 0,.int ep 0]}}:=λ{H2} I2 e2 tf=>
   ⟨s1.heap.objs.size,[s1.heap.objs.size],_,Itd a o kvs,H2,rfl,I2.kept (t':=s1.toks) λb o e=>bR _ e,Iu a _ o kvs es ep h3,⟨_,cz _ rfl,rfl,by rw[sD rv];rfl⟩,λb hb=>by
    have e:b=s1.heap.objs.size:=by simpa using hb
    subst e;exact I2.xE (bz _) (I2.cY.fresh (bz _)),k _ H2 tf (E6 (by rw[gf hv];exact e2) ek hk)⟩
  rcases L with g|⟨o',g⟩
  ·refine fin (l.frozen g h1) bM (.inr ⟨H1,a,o,kvs,sm,hv,g,rfl,λo' u S=>?_⟩);have q:=l.base.lI a o' u S;rw[g]at q;cases q
  ·have eo:o'=o:=by
    have q:=(show cZ X.prog X.w H1 s1.heap a (.lH o' (.dK kvs))from l.cY a _ g).1;rw[h1]at q;cases q;rfl
   subst eo;exact fin l g (.inl sm)
variable {a b:Expr}{es:List Expr}{A:bV->Rs Bool}{scope:Scope}{N':List Str}{ix:List (Option Nat)}{elt c5:Expr}{ifs:List Expr}{T:oQ}{W:bV->Rs (List Tr)}
def Iw{Q:VK}(hT:jV T)(q:tP X (λY=>vI ix T A F (W Y) Y) Z H Q):U7 (tJ X W) ix (Qh X.K T) (Qg X.K A) (Qf X.K F) Z H (λv H'=>k_ X H' (Q v)):=by
 obtain⟨B,Y,hb,r,q⟩:=q;refine⟨B,Y,hb,r,q.bind.mono λts b J H1 g gt D l=>?_⟩;by_cases hz:ts.length<=ee
 ·rw[aW hz]at b;exact wB hT (wA ix Y) (g.hb hb) gt hz ((g.Iq r).comp ix (kX l)) l (Fi.bind b) λys H' k s' n=>by
   obtain⟨I,L,M,S⟩:=g.Qt hb s';exact S _ (k _ I L (M n))
 ·rw[bc hz]at b;exact b.elim
theorem Xc(Lk:gY X N' ix scope)(hi:PI X tg c5 (tJ X W))(lJ:NY X scope N' tg elt ifs T A F)(hT:jV T)(hc:X.calm=true:=by rfl) (hs:isSet c5=false:=by rfl):
  PE X (.ListComp elt [⟨tg,c5,ifs,0⟩] scope pos) (tP X λY=>vI ix T A F (W Y) Y):=
 (Km Lk hc hi lJ.U' (gC hs)).Vc.weak λZ H Q q=>Iw hT q
theorem SR{G:bV->Rs Out}(hi:PI X tg c5 (tJ X W))(hg:PG X tg (tG X T))(hb:oU X ah (tS X G))(hp:PassesOwn (model X.prog X.w) X.A X.env X.xe:=by exact pC) (hc:X.calm=true:=by rfl)
  (hs:isSet c5=false:=by rfl):PS X (.For tg c5 ah [] pos) (tS X λY=>Gu T G (W Y) Y):=
 (Ex hp hc hi hg hb (gC hs)).Vc.weak λD Z H ⟨C,B0,H0,B,Y,b,r,q⟩=>⟨B,Y,b.hb,r,(q.bind.here b).mono λts qt J H1 M gt=>by
  have si0:eE B B H1 B H1:=eE.refl (M.hb b.hb) .refl;have fin:∀{c:Tr},xS X C B0 H0 c->False:=λ{c} xc=>xc B H b;have qt:=qQ.imp (U8:=λ_=>False) qt λc xc=>(fin xc).elim;refine⟨λi m dF H'=>m=ts.length - i/\i<=ts.length/\∃B' iB,eE C B H1 B' H'/\cI X.K B' H' dF iB/\qQ (λ_=>False) (zr T G (ts.drop i) iB) (EN X D C B0 H0),⟨_,rfl,d9 _,B,Y,eE.refl (M.hb b.hb) b.sub,M.Iq r,qt⟩,?_⟩
  rintro i m dF H' ⟨rfl,hi,B',iB,l,r',q'⟩
  by_cases gB:i<ts.length
  ·rw[oW gB]at q';refine .inr ⟨gt.go i B' H' gB l.jU l.hb,λwy H2=>∃B2 g,eE C B H1 B2 H2/\cI X.K B2 H2 wy g/\qQ (λ_=>False) (zr T G (ts.drop (i+1)) g) (EN X D C B0 H0),
    λwy H2 ⟨B2,g,x1,x2,x3⟩=>⟨ts.length - (i+1),by omega,rfl,gB,B2,g,x1,x2,x3⟩,λx H2 hx=>?_⟩
   obtain⟨s2,t,et,rt⟩:=gt.F8 i B' H' x H2 gB l.jU l.hb hx;have Si:ts[i]=t:=by rw[bY gB]at et;exact Option.some.inj et
   rw[Si]at q';have si2:=l.go s2;have qq:qQ (λ_=>False) (T t iB) _:=qQ.bind q';refine⟨B',iB,t,si2.hb,r'.same s2,rt,(qQ.imp qq λc z=>z.elim).mono λrK q1 Nm H3 s3 r3=>?_⟩;have S:=si2.go s3;refine⟨C,B',H3,B',rK,eE.refl S.hb S.sub,r3,((qQ.bind q1).imp λc z=>z.elim).mono λo qo=>?_⟩;cases o with
   |nx g=>exact λKN n H4 I L=>⟨n,g,S.trans I,L,qo⟩
   |ct g=>exact λKN n H4 I L=>⟨n,g,S.trans I,L,qo⟩
   |bk g=>
    intro KN n H4 I L;obtain⟨Hu,su,ru,rs,ku⟩:=M.back (S.trans I);exact ku _ (qo KN n Hu (b.trans su) (rs L))
   |ret t=>
    intro v n H4 I L;obtain⟨Hu,su,ru,rs,ku⟩:=M.back (S.trans I);exact ku _ (qo v n Hu (b.trans su) (ru L))
  ·have e:i=ts.length:=by omega
   subst e;rw[pj]at q';obtain⟨Hu,su,ru,rs,ku⟩:=M.back l;exact .inl ⟨gt.stop B' H' l.jU,ku _ (q' dF B' Hu (b.trans su) (rs r'))⟩⟩
end
theorem sE{α:Type}:∀(l:List α) (i:Nat) (hi:i<l.length),(l[i]::l.eraseIdx i).Perm l
 |x::r,0,_=>List.Perm.refl _
 |x::r,i+1,hi=>by
  have b:=sE r i (by simpa using hi);have g:i<r.length:=by simpa using hi
  show(r[i]::x::r.eraseIdx i).Perm (x::r);exact(List.Perm.swap _ _ _).trans (b.cons x)
def E7{M:Model}{src:Source}{Q:Nat->Shared->Prop}(q:az≠0)(h:∀i,i<az->∀d,Q i {s with drawn:=d}):wpAny M A (choose src az) Q E s:=λb p _=>by
 unfold choose;rw[Sem.wp];refine⟨q,?_⟩;rw[Sem.wp];exact h _ (Nat.mod_lt _ (Nat.pos_of_ne_zero q)) _
theorem rN{M:Model}{α:Type}:∀(n:Nat) (xs:List α) (s:Shared) (Q:List α->Shared->Prop),xs.length=n->(∀ys d,ys.Perm xs->Q ys {s with drawn:=d})->wpAny M A (drawOrder n xs) Q E s
 |0,xs,s,Q,b,h=>by
  cases xs with
  |nil=>exact bf (h [] s.drawn (List.Perm.refl _))
  |cons _ _=>cases b
 |n+1,[],s,Q,b,h=>by cases b
 |n+1,x::r,s,Q,b,h=>by
  unfold drawOrder;refine aT (E7 (by simp) λi hi d=>?_);have g:(x::r)[i]?=some (x::r)[i]:=bY hi
  rw[g];dsimp only;refine aT (rN n _ _ _ (by rw[Co hi];simpa using b) λys d' hp=>?_);refine bf (h _ d' ?_);exact(hp.cons _).trans (sE _ i hi)
noncomputable abbrev Cj(w:World):Bool:=w.params.followText "set-order"
def ent(w:World)(p:Str×Tok):Int×Value:=(hashStr w p.1,.str p.1 p.2)
def lK(w:World)(h:Heap)(a:Addr)(ss:List Str):Prop:=
 ∃(o:Obj) (es:Array (Int×Value)) (ep:Nat) (t:SetTable) (l:List (Str×Tok)),h.get? a=some o/\o.ExactSet/\o.data=.set es ep t/\es.toList=l.map (ent w)/\(l.map (·.1)).Perm ss/\ss.Nodup/\es.size<scanBound/\
  t.fits es.size=true/\(Cj w=true\/t.led=true)/\(es.size≠0->t.plain=false)
theorem Iy{l:List (Str×Tok)}:ElemsOf (PySem.strKind P w) (l.map (ent w)):=λe he=>by
 obtain⟨p,_,rfl⟩:=cH.mp he;exact⟨⟨p.1,by simp[PySem.strKind,ent,Value.isStrOf],rfl⟩,rfl⟩
def lK.typeIs {ss:List Str}(h:lK w s.heap a ss):s.TypeIs (.ref a) "set":=by
 obtain⟨o,_,_,_,_,b,g,_⟩:=h;exact⟨o,b,g.1⟩
def zu(t:SetTable)(n:Nat):(t.orStandIn n).led=t.led:=by
 unfold SetTable.orStandIn;split<;>rfl
def Oq(t:SetTable)(j:Nat):(t.put j).1.led=t.led:=by
 unfold SetTable.put
 rfl
def E8(t:SetTable)(es:Array (Int×Value))(h:Int)(x:Value):(layNew t es h x).2.1.led=t.led:=by
 unfold layNew;split
 ·dsimp only;rw[zu,Oq]
 ·rfl
theorem E9{t t':SetTable}{hs:Array Int}{o:Array Nat}(h:t.relaid hs i=some (t',o)):t'.led=t.led/\t'.plain=t.plain:=by
 unfold SetTable.relaid SetTable.laid at h;simp only[bind,Option.bind]at h;split at h
 ·cases h
 ·cases h;exact⟨rfl,rfl⟩
def Bl(t:SetTable)(es:Array (Int×Value))(n:Nat):(relayAll t es n).2.1.led=t.led/\(t.plain=false->(relayAll t es n).2.1.plain=false):=by
 unfold relayAll;split
 ·rename_i t' o e;have q:=E9 e;dsimp only;split
  ·exact⟨q.1,λz=>q.2.trans z⟩
  ·exact⟨rfl,λ_=>rfl⟩
 ·exact⟨rfl,λ_=>rfl⟩
theorem Ad(x:Str)(p:Str×Tok):(PySem.strKind P w).is x (ent w p).2=decide (x=p.1):=by
 have h:(PySem.strKind P w).is p.1 (ent w p).2=true:=by simp[PySem.strKind,ent,Value.isStrOf]
 exact KeyKind.is_eq_decide h x
def yl{h:Heap}{o:Obj}{es:Array (Int×Value)}{t:SetTable}(ho:h.get? a=some o)(hex:o.ExactSet)(hd:o.data=.set es i t){AQ:Array (Int×Value)}{t':SetTable}{l':List (Str×Tok)}{Ck:List Str}
  (he:AQ.toList=l'.map (ent w)) (hp:(l'.map (·.1)).Perm Ck) (hn:Ck.Nodup) (hb:AQ.size<scanBound) (hf:t'.fits AQ.size=true) (hl:Cj w=true\/t'.led=true) (oO:AQ.size≠0->t'.plain=false):
  (h.update a (Obj.putSet AQ t')).get? a=some {o with data:=.set AQ (i+1) t'}/\lK w (h.update a (Obj.putSet AQ t')) a Ck:=by
 have b:(h.update a (Obj.putSet AQ t')).get? a=some {o with data:=.set AQ (i+1) t'}:=by
  have q:=sX (Obj.putSet AQ t') ho (by rw[putSet_of AQ t' hd];rfl);rw[putSet_of AQ t' hd]at q;exact q
 exact⟨b,_,AQ,i+1,t',l',b,hex,rfl,he,hp,hn,hb,hf,hl,oO⟩
def Iz{l:List (Str×Tok)}{u:Tok}{es:List (Int×Value)}(hp:es.Perm (l.map (ent w)++[(hashStr w x,.str x u)])):∃l':List (Str×Tok),es=l'.map (ent w)/\l'.Perm (l++[(x,u)]):=by
 have e:l.map (ent w)++[(hashStr w x,Value.str x u)]=(l++[(x,u)]).map (ent w):=by rw[iE];rfl
 rw[e]at hp;have back:∀(AM:List (Str×Tok)) (es:List (Int×Value)),es.Perm (AM.map (ent w))->∃l':List (Str×Tok),es=l'.map (ent w)/\l'.Perm AM:=by
  intro AM es hp
  let f:Int×Value->Str×Tok:=λe=>match e.2 with
   |.str y t=>(y,t)
   |_=>(x,u)
  have fe:∀p,f (ent w p)=p:=λp=>rfl;have b:∀e∈es,ent w (f e)=e:=λe he=>by
   obtain⟨p,_,rfl⟩:=cH.mp (hp.mem_iff.mp he);rw[fe]
  refine⟨es.map f,?_,?_⟩
  ·rw[cL]
   conv=>lhs;rw[<-kS es]
   exact gw λe he=>(b e he).symm
  ·have h2:=hp.map f;rw[cL]at h2;have g:List.map (f∘ent w) AM=AM:=by
    conv=>rhs;rw[<-kS AM]
    exact gw λp _=>fe p
   rw[g]at h2;exact h2
 exact back _ _ hp
def ym{l:List (Str×Tok)}{es:List (Int×Value)}(hp:es.Perm (l.map (ent w))):∃l':List (Str×Tok),es=l'.map (ent w)/\l'.Perm l:=by
 let f:Int×Value->Str×Tok:=λe=>match e.2 with
  |.str y t=>(y,t)
  |_=>(Str.empty,0)
 have fe:∀p,f (ent w p)=p:=λp=>rfl;have b:∀e∈es,ent w (f e)=e:=λe he=>by
  obtain⟨p,_,rfl⟩:=cH.mp (hp.mem_iff.mp he);rw[fe]
 refine⟨es.map f,?_,?_⟩
 ·rw[cL]
  conv=>lhs;rw[<-kS es]
  exact gw λe he=>(b e he).symm
 ·have h2:=hp.map f;rw[cL]at h2;have g:List.map (f∘ent w) l=l:=by
   conv=>rhs;rw[<-kS l]
   exact gw λp _=>fe p
  rw[g]at h2;exact h2
theorem Dg{g:Bool->Sem Unit}(hg:∀(b:Bool) (dk:Shared) (Q':Unit->Shared->Prop),Q' () dk->wpAny (model P w) A (g b) Q' E dk){o:Obj}{es:Array (Int×Value)}{t:SetTable}
  (ho:s.heap.get? a=some o) (hex:o.ExactSet) (hd:o.data=.set es i t) {wc:Array (Int×Value)} {t2:SetTable} {l1:List (Str×Tok)}
  (he1:wc.toList=l1.map (ent w)) (hp1:(l1.map (·.1)).Perm ps) (hn1:ps.Nodup) (Bj:wc.size<scanBound) (hf2:t2.fits wc.size=true) (Na:Cj w=true\/t2.led=true) (Xd:t2.plain=false) {Dh:Bool} {R:Option Bool->Shared->Prop}
  (h:∀h',Heap.SameBut a s.heap h'->lK w h' a ps->R (some true) {s with heap:=h'}):
  wpAny (model P w) A (do
    storeSet a wc t2
    if(!Dh&&t2.tooFull)=true then do
       g (relayAll t2 wc (SetTable.grown wc.size)).2.2
       storeSet a (relayAll t2 wc (SetTable.grown wc.size)).1 (relayAll t2 wc (SetTable.grown wc.size)).2.1
       pure (some true)
     else pure (some true)) R E s:=by
 refine aT (wpAny_storeSet_of ho hd ?_ (xy Bj));obtain⟨M,Xe⟩:=yl (w:=w) ho hex hd he1 hp1 hn1 Bj hf2 Na λ_=>Xd;have l:=o9 s.heap a (Obj.putSet wc t2);split
 ·have hp:=relayAll_perm t2 wc (SetTable.grown wc.size);have I:=relayAll_fits t2 wc (SetTable.grown wc.size);have r:=Bl t2 wc (SetTable.grown wc.size);generalize relayAll t2 wc (SetTable.grown wc.size)=Rl at hp I r⊢;obtain⟨n,t3,abL⟩:=Rl;dsimp only at hp I r⊢;rw[he1]at hp;obtain⟨l2,e2,p2⟩:=ym hp;have hsz:n.size=wc.size:=by
   have q:=hp.length_eq;rw[<-he1,gv,gv]at q;exact q
  have S:n.size<scanBound:=by rw[hsz];exact Bj
  refine aT (hg _ _ _ ?_);refine aT (wpAny_storeSet_of M rfl ?_ (xy S));obtain⟨_,L⟩:=yl (w:=w) (h:=s.heap.update a (Obj.putSet wc t2)) M hex rfl e2 ((p2.map _).trans hp1) hn1 S I (Na.imp id λz=>r.1.trans z) λ_=>r.2 Xd;exact bf (h _ (l.trans (o9 _ a _)) L)
 ·exact bf (h _ l Xe)
noncomputable def gS(ss:List Str)(x:Str):List Str:=if x∈ss then ss else ss++[x]
theorem sF{ss:List Str}{u:Tok}{Q:Bool->Shared->Prop}(hS:lK w s.heap a ss)(Di:ss.length+1<scanBound)
  (h:∀b h',Heap.SameBut a s.heap h'->lK w h' a (gS ss x)->Q b {s with heap:=h'}):wpAny (model P w) A (setAddHashed a (.str x u) (hashStr w x)) Q E s:=by
 obtain⟨o,es,ep,t,l,ho,hex,hd,he,hp,hn,hb,hf,hl,oO⟩:=id hS;have I:ElemsOf (PySem.strKind P w) es.toList:=by rw[he];exact Iy
 have b9:es.size=ss.length:=by
  have q:=cX List.length he;rw[gv,bu]at q;have q2:=hp.length_eq;rw[bu]at q2;omega
 have JY:(PySem.strKind P w).is x (.str x u)=true:=by simp[PySem.strKind,Value.isStrOf]
 unfold setAddHashed setAddHashedIn;refine fG (aT (kO ho hd hf ?_));dsimp only;rw[byScan_of (knd:=PySem.strKind P w) rfl hb I];simp only[↓reduceIte];unfold setAddByScan;refine aT ?_
 refine aT (fL ?_);refine aT (wpAny_setScan_of (knd:=PySem.strKind P w) JY ho hd hf I ?_);have IA:x∈ss↔∃e∈es.toList,(PySem.strKind P w).is x e.2=true:=by
  rw[he,<-hp.mem_iff];constructor
  ·intro m;obtain⟨p,Qv,rfl⟩:=cH.mp m;exact⟨ent w p,gx Qv,by rw[Ad];simp⟩
  ·rintro ⟨e,n,r⟩
   obtain⟨p,Qv,rfl⟩:=cH.mp n;rw[Ad,iD]at r;rw[r];exact gx Qv
 cases hr:List.findIdx? (λe=>(PySem.strKind P w).is x e.2) es.toList with
 |some j=>
  dsimp only;obtain⟨hj,hpj,_⟩:=Cm.mp hr;have r:x∈ss:=IA.mpr ⟨es.toList[j],kP hj,hpj⟩;refine bf (bf ?_);have q:=h false s.heap (Heap.SameBut.refl a s.heap) (by unfold gS;rw[aW r];exact hS);exact q
 |none=>
  dsimp only;have r:¬x∈ss:=λm=>by
   obtain⟨e,n,q⟩:=IA.mp m;have z:=List.findIdx?_eq_none_iff.mp hr e n;rw[q]at z;cases z
  have hgw:∀(b:Bool) {dk:Shared} {M:Unit->Shared->Prop},M () dk->wpAny (model P w) A (match b with|true=>rule "set.scan.the-table-gave-way"|false=>pure ()) M E dk:=
   λb dk M g=>by cases b<;>first|exact bf g|exact fL g
  have S:=layNew_perm t es (hashStr w x) (.str x u);have GV:=layNew_fits t es (hashStr w x) (.str x u);have IB:=E8 t es (hashStr w x) (.str x u);generalize layNew t es (hashStr w x) (.str x u)=L at S GV IB⊢;obtain⟨wc,t1,Dh,abR⟩:=L;dsimp only at S GV IB⊢;rw[Array.toList_push,he]at S;obtain⟨l1,e1,p1⟩:=Iz S;have hsz:wc.size=es.size+1:=by
   have q:=S.length_eq;rw[eR,<-he,gv,gv]at q;simpa using q
  have Bj:wc.size<scanBound:=by omega
  have NF:(l1.map (·.1)).Perm (ss++[x]):=by
   have q:=p1.map (·.1);rw[iE]at q;exact q.trans (hp.append_right _)
  have Rx:(ss++[x]).Nodup:=by
   rw[tq];refine⟨hn,by simp,λy hy z hz e=>?_⟩;rw[cV]at hz;subst hz e;exact r hy
  have Xf:∀h',Heap.SameBut a s.heap h'->lK w h' a (ss++[x])->Q true {s with heap:=h'}:=λh' sb KW=>h true h' sb (by unfold gS;rw[bc r];exact KW);refine aT (hgw _ ?_);split
  ·refine aT ?_
   rw[hashByValue_scannable 8 (x:=.str x u) rfl];refine bf ?_
   refine Dg ?_ ho hex hd e1 NF Rx Bj ?_ ?_ ?_ ?_
   ·intro b dk M g;cases b<;>first|exact bf g|exact fL g
   ·exact SetTable.fits_plain_off GV
   ·exact hl.imp id λz=>IB.trans z
   ·rfl
   ·intro h' sb KW;exact bf (Xf h' sb KW)
  ·rename_i aaZ;refine aT (bf ?_);simp only[↓reduceIte];refine Dg ?_ ho hex hd e1 NF Rx Bj GV ?_ ?_ ?_
   ·intro b dk M g;cases b<;>first|exact bf g|exact fL g
   ·exact hl.imp id λz=>IB.trans z
   ·simpa using aaZ
   ·intro h' sb KW;exact bf (Xf h' sb KW)
def dZ:Slot "set_iterator" "__next__" "set_iterator.__next__":=.of (owner:="set_iterator") (n:="__next__")
 (by rw[typeLookup_type,xf];kernel_rfl) (by decide+kernel) (by decide+kernel) (by decide+kernel) (by first|exact .inl (by decide+kernel)|exact .inr (by decide+kernel))
 (by rw[isSubtype_type];kernel_rfl)
def m5:entryFor table "set_iterator.__next__"=some Builtin.«set_iterator.__next__»:=entryFor_of_tree (by kernel_rfl)
def vL:Manifest.owners.lookup (String.ofList ['r', 'o', 't', 'a', 'r', 'e', 't', 'i', '_', 't', 'e', 's'].reverse)=some Manifest.sig_set_iterator:=by kernel_rfl
theorem oA(a:Value):argsOk "set_iterator.__next__" ⟨[a],[]⟩:=by
 unfold argsOk;rw[signature?_of (id:="set_iterator.__next__") (n:=['_', '_', 't', 'x', 'e', 'n', '_', '_']) (o:=['r', 'o', 't', 'a', 'r', 'e', 't', 'i', '_', 't', 'e', 's']) (by kernel_rfl) vL];kernel_rfl
def oB:Slot "set_iterator" "__iter__" "set_iterator.__iter__":=.of (owner:="set_iterator") (n:="__iter__")
 (by rw[typeLookup_type,xf];kernel_rfl) (by decide+kernel) (by decide+kernel) (by decide+kernel) (by first|exact .inl (by decide+kernel)|exact .inr (by decide+kernel))
 (by rw[isSubtype_type];kernel_rfl)
def wd:entryFor table "set.__iter__"=some Builtin.«frozenset.__iter__»:=entryFor_alias (id':="frozenset.__iter__") (by kernel_rfl) rfl (by decide+kernel) (by kernel_rfl)
noncomputable def uz(F:Value)(i:Nat)(a:Addr)(n ep:Nat):Obj:={cls:=.type "set_iterator",dict:=none,data:=.fields #[F,rawInt i,.ref a,rawInt n,rawInt ep],slots:=#[]}
section
variable {o:Obj}{es:Array (Int×Value)}{t:SetTable}
def mf{Q:Array (Int×Value)->Shared->Prop}(q:s.heap.get? a=some o)(hd:o.data=.set es az t)(hf:t.fits es.size=true)(h:Q es s):wpAny (model P w) A (setEntries a) Q E s:=by
 unfold setEntries;exact aT (kO q hd hf (bf h))
theorem yo{R:ag->Shared->Prop}(q:A.handled=none)
  (h:∀h' (x:Addr),Shared.TypeIs {s with heap:=h'} (.ref x) "StopIteration"->(∀b o,s.heap.get? b=some o->h'.get? b=some o)->E (.ref x) {s with heap:=h'}):
  wpAny (model P w) A.in1 (newExc (.type "StopIteration") []) (λx s'=>wpAny (model P w) A.in1 (raiseNew x:Sem ag) R E s') E s:=by
 simp only[newExc,newTuple];refine aT (kM ?_ (by size_fits));refine aT (m:=firstArgMember _ _) (wpAny_of_eq (a:=Value.none) (by first|rfl|(simp only[firstArgMember];rfl)) ?_);refine kM ?_ (by size_fits)
 simp only[raiseNew];refine aT (wpAny_handled ?_)
 first|rw[show A.in1.handled=none from q]|rw[q]
 refine aT (bf (wpAny_throw ?_));exact h _ _ ⟨_,cz _ rfl,rfl⟩ λb o e=>bR _ (bR _ e)
theorem Bm{slot:Nat}{r:Option (Value×Nat)}(hh:A.handled=none)(hit:s.heap.get? au=some (uz (rawInt slot) i a es.size az))(ho:s.heap.get? a=some o)(hd:o.data=.set es az t)(hf:t.fits es.size=true)
  (hn:∀(B:Around) (E':Value->Shared->Prop) (q:Option (Value×Nat)->Shared->Prop),q r s->wpAny (model P w) B (setNext a slot i az) q E' s)
  (h1:∀x nx,r=some (x,nx)->∀h',h'.get? au=some (uz (rawInt nx) (i+1) a es.size az)->Heap.SameBut au s.heap h'->aM (some x) {s with heap:=h'})
  (h2:r=none->∀h',Heap.ExtBut au s.heap h'->aM none {s with heap:=h'}):wpAny (model P w) A (pyNext (.ref au)) aM E s:=by
 have g:s.TypeIs (.ref au) "set_iterator":=⟨_,hit,rfl⟩;unfold pyNext;refine aT (tW (qM (name:=Str.ofString "__next__") g dZ (g_ dZ g m5 ?_ (oA _))));unfold Builtin.«set_iterator.__next__»;refine aT (m:=slotArgs "__next__" 0 _) (bf ?_);refine aT (wpAny_fieldsOf hit rfl ?_);dsimp only;refine aT (mf ho hd hf ?_);rw[bc (by simp)];show wpAny _ _ (setNext a (slot:Int).toNat (i:Int).toNat (az:Int).toNat>>=_) _ _ s;rw[lQ,lQ,lQ];refine aT (hn _ _ _ ?_);cases r with
 |none=>
  dsimp only;refine aT (wpAny_setField hit rfl (by show 2<5;decide) ?_);refine aT (yo hh λh' x l n=>?_);refine aT (pA (T:="StopIteration") (b:=true) l isSubtype_stop ?_);exact bf (h2 rfl _ λb o hb e=>n b o ((o9 s.heap au _).extBut b o hb e))
 |some p=>
  obtain⟨x,nx⟩:=p;dsimp only;refine aT (jo hit (by show 0<5;decide) λI L M=>?_);refine aT (jo (s:={s with heap:=I}) L (by show 1<5;decide) λS Xg vi=>?_);exact bf ⟨_,rfl,bf (h1 x nx rfl S Xg (M.trans vi))⟩
end
def vj:entryFor table "set_iterator.__iter__"=some Builtin.«dict_keyiterator.__iter__»:=entryFor_alias (id':="dict_keyiterator.__iter__") (by kernel_rfl) rfl (by decide+kernel) (by kernel_rfl)
theorem we(a:Value):argsOk "set_iterator.__iter__" ⟨[a],[]⟩:=by
 unfold argsOk;rw[signature?_of (id:="set_iterator.__iter__") (n:=['_', '_', 'r', 'e', 't', 'i', '_', '_']) (o:=['r', 'o', 't', 'a', 'r', 'e', 't', 'i', '_', 't', 'e', 's']) (by kernel_rfl) vL];kernel_rfl
theorem GW{α:Type}(next:Nat->Nat):∀(fuel k:Nat) (left:List α) (out:Array α),left.length=fuel->(pickOrder.go next fuel k left out).toList.Perm (out.toList++left)
 |0,k,left,out,h=>by
  rw[List.eq_nil_of_length_eq_zero h];simp[pickOrder.go]
 |fuel+1,k,left,out,h=>by
  have hi:next k % left.length<left.length:=Nat.mod_lt _ (by omega)
  unfold pickOrder.go;rw[bY hi];dsimp only;refine(GW next fuel (k+1) _ _ (by rw[Co hi];omega)).trans ?_
  rw[Array.toList_push,xj];exact(sE left _ hi).append_left _
def IC(next:Nat->Nat)(xs:Array ag):(pickOrder next xs).toList.Perm xs.toList:=by
 have h:=GW next xs.size 0 xs.toList #[] (by simp)
 unfold pickOrder;simpa using h
def SU:SetTable.below #[] 0=0:=rfl
def SV(j:Nat):SetTable.below #[j] 0=0:=by
 unfold SetTable.below;simp[SetTable.below.go]
def SW(j:Nat):SetTable.below #[j] (j+1)=1:=by
 unfold SetTable.below;simp[SetTable.below.go]
section
variable {o:Obj}{es:Array (Int×Value)}{t:SetTable}
def Bo{e:Nat}(hit:s.heap.get? au=some (uz af i a az e))(h:Q (.ref au) s):wpAny (model P w) A (pyIter (.ref au)) Q E s:=by
 have b:s.TypeIs (.ref au) "set_iterator":=⟨_,hit,rfl⟩;refine wpAny_pyIter_slot b oB (g_ oB b vj ?_ (we _));show wpAny _ _ (ret (.ref au)) _ _ s;exact bf ⟨_,rfl,"set_iterator",_,b,dZ.lookup,h⟩
theorem KZ{tp:Addr}{m:Nat}{ot:Obj}(hh:A.handled=none)(hit:s.heap.get? au=some (uz (.ref tp) i a es.size az))(ho:s.heap.get? a=some o)(hd:o.data=.set es az t)(hf:t.fits es.size=true)
  (q:s.heap.get? tp=some ot) (ZX:ot.data=.seq ak m)
  (h1:∀(p:Nat) (e:Int×Value),ak[i]?=some (rawInt p)->es[p]?=some e->∀h',h'.get? au=some (uz (.ref tp) (i+1) a es.size az)->Heap.SameBut au s.heap h'->aM (some e.2) {s with heap:=h'})
  (h2:ak[i]?=none->∀h',Heap.ExtBut au s.heap h'->aM none {s with heap:=h'})
  (oO:∀v,ak[i]?=some v->∃(p:Nat) (e:Int×Value),v=rawInt p/\es[p]?=some e):wpAny (model P w) A (pyNext (.ref au)) aM E s:=by
 have I:s.TypeIs (.ref au) "set_iterator":=⟨_,hit,rfl⟩;unfold pyNext;refine aT (tW (qM (name:=Str.ofString "__next__") I dZ (g_ dZ I m5 ?_ (oA _))));unfold Builtin.«set_iterator.__next__»;refine aT (m:=slotArgs "__next__" 0 _) (bf ?_);refine aT (wpAny_fieldsOf hit rfl ?_);dsimp only;refine aT (mf ho hd hf ?_);rw[bc (by simp)];show wpAny _ _ (seqItems? (.ref tp)>>=_) _ _ s;refine aT (hU q ZX ?_);dsimp only;rw[lQ];cases g:ak[i]? with
 |none=>
  dsimp only;refine aT (jo hit (by show 0<5;decide) λl n r=>?_);refine aT (jo (s:={s with heap:=l}) n (by show 2<5;decide) λpS Xg L=>?_);refine aT (yo hh λh' x M S=>?_);refine aT (pA (T:="StopIteration") (b:=true) M isSubtype_stop ?_);exact bf (h2 g _ λb o hb e=>S b o (L.extBut b o hb (r.extBut b o hb e)))
 |some v=>
  obtain⟨p,e,rfl,he⟩:=oO v g;show wpAny _ _ (setNextDrawn a (p:Int).toNat (az:Int).toNat>>=_) _ _ s;rw[lQ,lQ];refine aT ?_
  unfold setNextDrawn;refine aT (kO ho hd hf ?_);dsimp only;rw[bc (by simp),he];dsimp only;refine bf ?_
  refine aT (jo hit (by show 1<5;decide) λl n r=>?_);exact bf ⟨_,rfl,bf (h1 p e g he l n r)⟩
def qU{Q:Bool->Shared->Prop}(h:Q (Cj w) s):wpAny (model P w) A setsByText Q E s:=by
 unfold setsByText;exact aT (wpAny_askSetting (bf h))
def Ae{slot:Nat}{Q:Option (Value×Nat)->Shared->Prop}(hb:Cj w=true)(q:s.heap.get? a=some o)(hd:o.data=.set es az t)(hf:t.fits es.size=true)
  (h:Q (((pickOrder (w.params.setOrder a az) es)[i]?).map λe=>(e.2,slot)) s):wpAny (model P w) A (setNext a slot i az) Q E s:=by
 unfold setNext;refine aT (kO q hd hf ?_);dsimp only;refine aT (qU ?_);rw[hb,aW rfl];simp only[tm,cK,cg];refine aT ?_
 unfold setWalk;refine aT (kO q hd hf ?_);dsimp only;refine aT (qU ?_);rw[hb,aW rfl];refine aT (wpAny_askSetting ?_);exact bf (bf h)
theorem Dj{slot:Nat}{Q:Option (Value×Nat)->Shared->Prop}(hb:Cj w=false)(q:t.led=true)(hz:es.size<=1)(ho:s.heap.get? a=some o)(hd:o.data=.set es az t)(hf:t.fits es.size=true)
  (h:Q (match es[SetTable.below t.place slot]?,t.place[SetTable.below t.place slot]? with
   |some (_,x),some j=>some (x,j+1)
   |_,_=>none) s):wpAny (model P w) A (setNext a slot i az) Q E s:=by
 unfold setNext;refine aT (kO ho hd hf ?_);dsimp only;refine aT (qU ?_);rw[hb];simp only[cK,cg];refine mJ (λb=>absurd (show(!t.plain&&decide (es.size>1))=true from b) ?_) (λ_=>?_)
 ·rw[fF (p:=es.size>1) (by omega),xw];exact fE
 ·refine aT (m:=(if(!t.led&&!es.isEmpty)=true then unsupported "set:maker-not-led"else pure ())) ?_
  rw[q,bc (by simp)];exact bf (bf h)
end
def one_place{xs:Array Nat}(h:xs.size=1):∃j,xs=#[j]:=by
 obtain⟨l⟩:=xs
 match l,h with
 |[j],_=>exact⟨j,rfl⟩
def E_(p:Str×Tok):Value:=.str p.1 p.2
def strAt(l:List (Str×Tok))(i:Nat)(v:Value):Prop:=(l[i]?).map E_=some v
section
variable {o:Obj}{es:Array (Int×Value)}{t:SetTable}
def wD{l:List (Str×Tok)}(he:es.toList=l.map (ent w))(p:Nat):es[p]?=(l[p]?).map (ent w):=by
 rw[<-nH,he,ck]
theorem ID(hb:Cj w=true)(hd:o.data=.set es az t)(hf:t.fits es.size=true){l:List (Str×Tok)}(he:(pickOrder (w.params.setOrder a az) es).toList=l.map (ent w))(hl:l.length=es.size)(ij:au≠a)(A':Around)(hh:A'.handled=none):
  Walks P w A' au [au,a] [au] l.length (strAt l) (λi h=>h.get? au=some (uz (rawInt 0) i a es.size az)/\h.get? a=some o) where
 sub:=λb hb=>by simp at hb;simp[hb]
 frame:=λi h h' st k=>⟨k au (by simp) _ st.1,k a (by simp) _ st.2⟩
 item:=λi s Q E hi st n=>by
  have I:(pickOrder (w.params.setOrder a az) es)[i]?=(l[i]?).map (ent w):=by rw[<-nH,he,ck]
  rw[bY hi]at I;refine Bm (slot:=0) (r:=some ((ent w l[i]).2,0)) hh st.1 st.2 hd hf (λB M S q=>Ae hb st.2 hd hf (by rw[I];exact q)) (λx nx e h' g L=>?_) λe=>nomatch e;cases e;exact n _ h' s.toks (by unfold strAt;rw[bY hi];rfl) ⟨g,(L.2 a (Ne.symm ij)).trans st.2⟩ λb o hb e=>L.extBut b o (λz=>hb (by simp[z])) e
 done:=λs Q E st n=>by
  have I:(pickOrder (w.params.setOrder a az) es)[l.length]?=none:=by
   rw[<-nH,he,ck,jm.mpr (bz _)];rfl
  refine Bm (slot:=0) (r:=none) hh st.1 st.2 hd hf (λB M S q=>Ae hb st.2 hd hf (by rw[I];exact q)) (λx nx e=>nomatch e) λ_ h' eb=>?_
  exact n h' s.toks λb o hb e=>eb b o (λz=>hb (by simp[z])) e
 self:=λi s Q E st n=>Bo st.1 n
theorem K0(hb:Cj w=false)(hl:t.led=true)(hz:es.size<=1)(hd:o.data=.set es az t)(hf:t.fits es.size=true){l:List (Str×Tok)}(he:es.toList=l.map (ent w))(ij:au≠a)(A':Around)(hh:A'.handled=none):
  Walks P w A' au [au,a] [au] l.length (strAt l) (λi h=>h.get? au=some (uz (rawInt (if i=0 then(0:Nat)else t.place.getD 0 0+1:Nat)) i a es.size az)/\h.get? a=some o) where
 sub:=λb hb=>by simp at hb;simp[hb]
 frame:=λi h h' st k=>⟨k au (by simp) _ st.1,k a (by simp) _ st.2⟩
 item:=λi s Q E hi st n=>by
  have b9:l.length=es.size:=by have q:=cX List.length he;rw[gv,bu]at q;exact q.symm
  have L:i=0:=by omega
  subst L;have SX:t.place.size=es.size:=by
   simp only[SetTable.fits,bW,fg]at hf;exact hf.1
  obtain⟨j,I⟩:∃j,t.place=#[j]:=by
   exact one_place (by omega)
  have e0:es[0]?=some (ent w l[0]):=by rw[wD he,bY hi];rfl
  refine Bm (slot:=0) (r:=some ((ent w l[0]).2,j+1)) hh st.1 st.2 hd hf (λB E' Q' q=>Dj hb hl hz st.2 hd hf (by rw[I,SV,e0];exact q)) (λx nx e h' g S=>?_) λe=>nomatch e;cases e;refine n _ h' s.toks (by unfold strAt;rw[bY hi];rfl) ⟨?_,(S.2 a (Ne.symm ij)).trans st.2⟩ λb o hb e=>S.extBut b o (λz=>hb (by simp[z])) e;rw[I];exact g
 done:=λs Q E st n=>by
  have b9:l.length=es.size:=by have q:=cX List.length he;rw[gv,bu]at q;exact q.symm
  have SX:t.place.size=es.size:=by
   simp only[SetTable.fits,bW,fg]at hf;exact hf.1
  have fin:∀slot:Nat,s.heap.get? au=some (uz (rawInt slot) l.length a es.size az)->es[SetTable.below t.place slot]?=none->wpAny (model P w) A' (pyNext (.ref au)) Q E s:=λslot hit e1=>by
   refine Bm (slot:=slot) (r:=none) hh hit st.2 hd hf (λB E' Q' q=>Dj hb hl hz st.2 hd hf (by rw[e1];exact q)) (λx nx e=>nomatch e) λ_ h' eb=>?_
   exact n h' s.toks λb o hb e=>eb b o (λz=>hb (by simp[z])) e
  by_cases h0:l.length=0
  ·have M:t.place=#[]:=Array.eq_empty_of_size_eq_zero (by omega);refine fin 0 ?_ ?_
   ·have q:=st.1;rw[aW h0]at q;exact q
   ·rw[M,SU,wD he,jm.mpr (by omega)];rfl
  ·obtain⟨j,I⟩:∃j,t.place=#[j]:=by
    exact one_place (by omega)
   refine fin (j+1) ?_ ?_
   ·have q:=st.1;rw[bc h0,I]at q;exact q
   ·rw[I,SW,wD he,jm.mpr (by omega)];rfl
 self:=λi s Q E st n=>Bo st.1 n
theorem Fb{tp:Addr}{ot:Obj}{ps:List Nat}{m:Nat}(hd:o.data=.set es az t)(hf:t.fits es.size=true)(ZX:ot.data=.seq (ps.map λi=>rawInt (i:Nat)).toArray m){l l':List (Str×Tok)}(he:es.toList=l.map (ent w))(hl':∀i:Nat,l'[i]?=(ps[i]?).bind λp=>l[p]?)(SX:∀p∈ps,p<l.length)
  (b9:l'.length=ps.length) (ij:au≠a) (hnt:au≠tp) (A':Around) (hh:A'.handled=none):
  Walks P w A' au [au,a,tp] [au] l'.length (strAt l') (λi h=>h.get? au=some (uz (.ref tp) i a es.size az)/\h.get? a=some o/\h.get? tp=some ot) where
 sub:=λb hb=>by simp at hb;simp[hb]
 frame:=λi h h' st k=>⟨k au (by simp) _ st.1,k a (by simp) _ st.2.1,k tp (by simp) _ st.2.2⟩
 item:=λi s Q E hi st r=>by
  have n:i<ps.length:=by omega
  have oO:(ps.map λi=>rawInt (i:Nat)).toArray[i]?=some (rawInt (ps[i]:Nat)):=by simp[n]
  have hp:ps[i]<l.length:=SX _ (kP n);have e1:es[ps[i]]?=some (ent w l[ps[i]]):=by rw[wD he,bY hp];rfl
  have e2:l'[i]?=some l[ps[i]]:=by rw[hl',bY n];exact bY hp
  refine KZ hh st.1 st.2.1 hd hf st.2.2 ZX (λp e I h2 h' g M=>?_) (λz=>by rw[oO]at z;cases z) (λv L=>?_)
  ·rw[oO]at I;have hpp:((ps[i]:Nat):Int)=(p:Int):=by
    have q:=Option.some.inj I;injection q
   have S:ps[i]=p:=by omega
   subst S;rw[e1]at h2;cases h2;exact r _ h' s.toks (by unfold strAt;rw[e2];rfl) ⟨g,(M.2 a (Ne.symm ij)).trans st.2.1,(M.2 tp (Ne.symm hnt)).trans st.2.2⟩ λb o hb e=>M.extBut b o (λz=>hb (by simp[z])) e
  ·rw[oO]at L;cases L;exact⟨_,_,rfl,e1⟩
 done:=λs Q E st r=>by
  have oO:(ps.map λi=>rawInt (i:Nat)).toArray[l'.length]?=none:=by simp[b9]
  refine KZ hh st.1 st.2.1 hd hf st.2.2 ZX (λp e I=>by rw[oO]at I;cases I) (λ_ h' eb=>?_) (λv L=>by rw[oO]at L;cases L);exact r h' s.toks λb o hb e=>eb b o (λz=>hb (by simp[z])) e
 self:=λi s Q E st r=>Bo st.1 r
theorem IE{ss:List Str}(hS:lK w s.heap a ss)
  (hQ:∀(h':Heap) (d:Drawn) (au:Addr) (fp:List Addr) (St:Nat->Heap->Prop) (l:List (Str×Tok)),(l.map (·.1)).Perm ss->(∀b o,s.heap.get? b=some o->h'.get? b=some o)->s.heap.objs.size<=au->(∀b∈fp,b=a\/s.heap.objs.size<=b)->
   (∀A':Around,A'.handled=none->Walks P w A' au fp [au] l.length (strAt l) St)->St 0 h'->Q (.ref au) {s with heap:=h',drawn:=d}):wpAny (model P w) A (pyIter (.ref a)) Q E s:=by
 obtain⟨o,es,az,t,l,g,hex,hd,he,hp,hn,hb,hf,hl,oO⟩:=id hS;have gB:a<s.heap.objs.size:=bx g;have b9:l.length=es.size:=by have q:=cX List.length he;rw[gv,bu]at q;exact q.symm
 refine wpAny_pyIter_slot hS.typeIs PySem.F.slot_set_iter (g_ PySem.F.slot_set_iter hS.typeIs wd ?_ (PySem.F.args_set_iter_1 _));unfold Builtin.«frozenset.__iter__»;refine aT (m:=Builtin.Frozenset.slot0 "__iter__" _) (bf ?_);refine aT ?_
 unfold Builtin.Frozenset.sizeOf;refine aT (mf g hd hf (bf ?_));refine aT ?_
 unfold setDrawn;refine aT (kO g hd hf ?_);dsimp only;refine aT (qU (bf ?_));refine mJ (λn=>?_) (λn=>?_)
 ·
  refine aT (rN _ _ _ _ (tB ..) λps d S=>?_);have hz:((ps.map λ(i:Nat)=>rawInt i)).length<=sizeLine:=by
   rw[bu,S.length_eq,tB];exact xy hb
  refine aT (wpAny_newTuple (hsz:=hz) ?_);have Qu:(s.heap.push {cls:=.type "tuple",data:=.seq (ps.map λ(i:Nat)=>rawInt i).toArray}).get? a=some o:=bR _ g;have L:(s.heap.push {cls:=.type "tuple",data:=.seq (ps.map λ(i:Nat)=>rawInt i).toArray}).objs.size=s.heap.objs.size+1:=jD ..;refine aT (wpAny_setEpoch_of Qu hd hf ?_);refine aT (kM ?_);refine bf ⟨_,rfl,"set_iterator",_,⟨_,cz _ rfl,rfl⟩,dZ.lookup,?_⟩;have Xh:∀p∈ps,p<l.length:=λp hm=>by
   have q:=tM.mp (S.mem_iff.mp hm);omega
  have yn:(ps.map λp=>l.getD p (Str.empty,0)).Perm l:=by
   have q:=S.map λp=>l.getD p (Str.empty,0);have e:(List.range es.size).map (λp=>l.getD p (Str.empty,0))=l:=by
    rw[<-b9];refine List.ext_getElem (by simp) λi h1 h2=>?_
    simp[h2]
   rw[e]at q;exact q
  refine hQ _ d _ [_,a,s.heap.objs.size] _ (ps.map λp=>l.getD p (Str.empty,0)) ((yn.map _).trans hp) (λb o e=>bR _ (bR _ e)) (by rw[L];exact pH _) (λb hm=>?_)
   (λA' r=>Fb (ot:={cls:=.type "tuple",data:=.seq (ps.map λ(i:Nat)=>rawInt i).toArray}) (ps:=ps) hd hf rfl he (λi=>?_) Xh (bu ..) ?_ ?_ A' r)
   ⟨cz _ rfl,bR _ Qu,bR _ (cz _ rfl)⟩
  ·simp only[bG,cP,cQ]at hm;rcases hm with rfl|rfl|rfl
   ·right;rw[L];exact pH _
   ·left;rfl
   ·right;exact bz _
  ·rw[ck];cases e:ps[i]? with
   |none=>rfl
   |some p=>
    have oO:=Xh p (d7 e);show some (l.getD p (Str.empty,0))=l[p]?
    rw[eN,bY oO];rfl
  ·rw[L];exact dQ (lP gB)
  ·rw[L];exact mG _
 ·refine aT (bf ?_);refine aT (wpAny_setEpoch_of g hd hf ?_);refine aT (kM ?_);refine bf ⟨_,rfl,"set_iterator",_,⟨_,cz _ rfl,rfl⟩,dZ.lookup,?_⟩;have zv:∀b∈[s.heap.objs.size,a],b=a\/s.heap.objs.size<=b:=λb hm=>by
   simp only[bG,cP,cQ]at hm;rcases hm with rfl|rfl
   ·exact .inr (bz _)
   ·exact .inl rfl
  have ij:s.heap.objs.size≠a:=dQ gB;cases M:Cj w with
  |true=>
   have I:=IC (w.params.setOrder a az) es;rw[he]at I;obtain⟨l2,e2,p2⟩:=ym I;exact hQ _ s.drawn _ [_,a] _ l2 ((p2.map _).trans hp) (λb o e=>bR _ e) (bz _) zv (λA' r=>ID M hd hf e2 (p2.length_eq.trans b9) ij A' r) ⟨cz _ rfl,bR _ g⟩
  |false=>
   have ZZ:es.size<=1:=by
    by_cases hz:es.size<=1
    ·exact hz
    ·exfalso;refine n ?_
     show(!Cj w&&(!t.plain&&decide (es.size>1)))=true;rw[M,oO (by omega),iF (by omega)]
     rfl
   have IB:t.led=true:=hl.resolve_left (by rw[M];exact fE);exact hQ _ s.drawn _ [_,a] _ l hp (λb o e=>bR _ e) (bz _) zv (λA' r=>K0 M IB ZZ hd hf he ij A' r) ⟨cz _ rfl,bR _ g⟩
end
def eQ(ss xs:List Str):List Str:=xs.foldl gS ss
def yp(ss:List Str)(x:Str):(gS ss x).length<=ss.length+1:=by
 unfold gS;split
 ·omega
 ·simp
section
variable {prog:Program}{I:Addr}{fp:List Addr}{n:Nat}{P:Nat->Value->Prop}{St:Nat->Heap->Prop}
def lK.keep {h h':Heap}{ss:List Str}(x:lK w h a ss)(k:∀o,h.get? a=some o->h'.get? a=some o):lK w h' a ss:=by
 obtain⟨o,es,ep,t,l,b,r⟩:=x;exact⟨o,es,ep,t,l,k o b,r⟩
theorem K1(W:Walks prog w A.in1 I fp [I] n P St)(Z0:au∉fp)(val:Nat->Str)(Ou:∀i v,P i v->∃t,v=Value.str (val i) t)(hb:n+1<scanBound):
  ∀(k i:Nat) (s:Shared) (ss:List Str),n - i=k->i<=n->St i s.heap->lK w s.heap au ss->ss.length<=i->
   (∀h' q,(∀b o,b≠au->b≠I->s.heap.get? b=some o->h'.get? b=some o)->lK w h' au (eQ ss ((List.range' i k).map val))->aw (.ok (.ret .none)) {s with heap:=h',toks:=q})->
   codeAny (model prog w) A (.builtin "set.update.loop" ⟨[.ref au,.ref I],[]⟩) aw s:=by
 have r:I∈fp:=W.sub I (by simp);have M7:au≠I:=λe=>Z0 (e▸r);intro k
 induction k with
 |zero=>
  intro i s ss hk hi cG L _ hR;have lJ:i=n:=by omega
  subst lJ;refine fY F.entry_set_update_loop ?_
  rw[g9 xm _];show wpAny _ A.in1 (pyNext (.ref I)>>=_) _ _ s;refine aT (W.done s _ _ cG λh' q g=>?_);show wpAny _ A.in1 (ret Value.none) _ _ _;exact bf (hR h' q (λb o _ h2 e=>g b o (by simpa using h2) e) (L.keep λo e=>g au o (by simpa using M7) e))
 |succ k ih=>
  intro i s ss hk hi cG L hl hR;have gB:i<n:=by omega
  refine fY F.entry_set_update_loop ?_
  rw[g9 xm _];show wpAny _ A.in1 (pyNext (.ref I)>>=_) _ _ s;refine aT (W.item i s _ _ gB cG λv M S hP K2 g=>?_);obtain⟨u,rfl⟩:=Ou i v hP;have Xe:lK w M au ss:=L.keep λo e=>g au o (by simpa using M7) e;show wpAny _ A.in1 (holding [Value.str (val i) u] (setAdd au (.str (val i) u))>>=_) _ _ _;refine aT (fG ?_);unfold setAdd;refine fG ?_
  refine aT ((PySem.strKind prog w).pyHash (k:=val i) (by simp[PySem.strKind,Value.isStrOf]) ?_);refine sF (s:={s with heap:=M,toks:=S+1}) Xe (by omega) λb h2 sb hS2=>?_
  have l:∀b o,b≠au->M.get? b=some o->h2.get? b=some o:=λb o hb e=>(sb.2 b hb).trans e;refine bf ⟨hV xm _,ih (i+1) _ (gS ss (val i)) (by omega) gB (W.frame _ _ _ K2 λb hb o e=>l b o (λz=>Z0 (z▸hb)) e) hS2 (by have:=yp ss (val i);omega) λh' q kk' KW=>?_⟩;exact hR h' q (λb o Bj Ot e=>kk' b o Bj Ot (l b o Bj (g b o (by simpa using Ot) e))) KW
end
section
section
variable {prog:Program}
theorem _root_.PySem.K3 (a:Value){Q₁:Value->Shared->Prop}
  (h:Q₁ (.ref s.heap.objs.size) {s with heap:=s.heap.push {cls:=.type "set",dict:=none,data:=.set #[] 0 (.fresh 0 0 (!L2.Cj w))}}):
  codeAny (model prog w) A (.call (.builtin "set.__new__") ⟨[.type "set",a],[]⟩) (wants Q₁ E) s:=by
 refine codeAny_of_tree ?_
 show wpAny _ A.in1 (do checkBuiltinCall "set.__new__" ⟨[.type "set",a],[]⟩;again (.builtin "set.__new__" ⟨[.type "set",a],[]⟩)) _ _ s;refine aT (wpAny_of_eq (F.newCall_set_1 a) (bf ⟨hV F.plain_set_new _,fY F.entry_set_new ?_⟩));rw[g9 F.plain_set_new _];unfold Builtin.«set.__new__» Builtin.Frozenset.newClass;have b:=sub_set_self;obtain⟨hp,g,d,tk,os⟩:=s;dsimp only
 wp_walk
 refine wpAny_askSetting (bf ?_);dsimp only;simp only[newObj];refine aT (wpAny_alloc (bf ?_));exact bf h
set_option maxHeartbeats 3200000 in
theorem _root_.PySem.K4 {l:Addr}{a8:Array Value}{val:Nat->Str}(hh:A.handled=none)(hl:s.heap.IsList l a8)(hv:∀(i:Nat) (v:Value),a8[i]?=some v->∃t,v=.str (val i) t)(hb:a8.size+1<scanBound)
  (h:∀(h':Heap) (tk:Nat),L2.lK w h' s.heap.objs.size (L2.eQ [] ((List.range' 0 a8.size).map val))->(∀b o,b<s.heap.objs.size->s.heap.get? b=some o->h'.get? b=some o)->Q (.ref s.heap.objs.size) {s with heap:=h',toks:=tk}):
  wpAny (model prog w) A (call (.type "set") [.ref l]) Q E s:=by
 obtain⟨c,tl,abS⟩:=jG.mro;have abM:=jG.made;have Q7:=jG.sub;refine pJ (codeAny_of_tree ?_);show wpAny _ _ (callAny (.type "set") _) _ _ _;refine bf ⟨Code.quiet_builtin _ (by decide+kernel),fY F.entry_type_call ?_⟩;rw[Around.under_plain (weight_type_call_type "set" [.ref l] []) rfl];have h1:=jG.notType;have h2:=jG.canCreate;have hct:=F.typeCall_set_1 (.ref l)
 repeat(any_goals (first|assumption|wp_step))
 refine iH (K3 (.ref l) (E:=E) (Q₁:=λobj dk=>obj=.ref s.heap.objs.size/\dk={s with heap:=s.heap.push {cls:=.type "set",dict:=none,data:=.set #[] 0 (.fresh 0 0 (!L2.Cj w))}}) ⟨rfl,rfl⟩) λr dk n=>?_
 cases r with
 |error e=>exact n
 |ok fl=>
  cases fl with
  |ret obj=>
   obtain⟨rfl,rfl⟩:=n;generalize L:({cls:=.type "set",dict:=none,data:=.set #[] 0 (.fresh 0 0 (!L2.Cj w))}:Obj)=ob;have hS:(s.heap.push ob).get? s.heap.objs.size=some ob:=cz _ (by rw[<-L];rfl);have hT:Shared.TypeIs {s with heap:=s.heap.push ob} (.ref s.heap.objs.size) "set":=⟨_,hS,by rw[<-L]⟩;have hli:=jG.init.lookup;have hbi:=jG.init.bind (.ref s.heap.objs.size)
   repeat(any_goals (first|assumption|wp_step))
   refine iH (xk (R:=wants (λr ua=>r=.none/\∃h' tk,ua={s with heap:=h',toks:=tk}/\L2.lK w h' s.heap.objs.size (L2.eQ [] ((List.range' 0 a8.size).map val))/\
     (∀b o,b<s.heap.objs.size->s.heap.get? b=some o->h'.get? b=some o)) E) jG.init.plain F.entry_set_init (check_set_init_1 hT ?_)) λM ua S=>?_
   ·obtain⟨ol,Qw,Gk,nl,Ve⟩:=hl;obtain⟨abT,Xi,abN,SY⟩:=ol;simp only at Gk Ve;subst Gk;subst Ve;have q:(s.heap.push ob).get? l=some {cls:=.type "list",dict:=Xi,data:=.seq a8 nl,slots:=SY}:=bR _ Qw;have abU:=F.sub_list_set;have abV:=F.sub_list_frozenset;have ij:(Value.type "list"==Value.type "dict")=false:=by decide
    have Jy:(s.heap.push ob).IsList l a8:=⟨_,q,rfl,nl,rfl⟩;subst L;unfold Builtin.«set.__init__» noKeywords Builtin.Frozenset.updateFrom;generalize hPI:pyIter=PI
    wp_walk
    subst hPI;refine kN Jy ?_
    refine aT (wpAny_runValue ?_);have g:l<s.heap.objs.size:=bx Qw;have hh3:A.in1.in1.in1.handled=none:=by simp[hh]
    generalize hsz:(s.heap.push {cls:=.type "set",dict:=none,data:=.set #[] 0 (.fresh 0 0 (!L2.Cj w))}).objs.size=I at*;have S0:I=s.heap.objs.size+1:=by rw[<-hsz,jD]
    have aa3:l≠I:=by rw[S0];exact cc (lP g)
    have Z0:s.heap.objs.size∉[I,l]:=by
     simp only[bG,cP,cQ,not_or];exact⟨by rw[S0];exact cc (pd _),dQ g⟩
    refine L2.K1 (Walks.list hh3 I l aa3 a8) Z0 val hv hb (a8.size - 0) 0 _ [] (by omega) (d9 _) ⟨⟨_,by rw[<-hsz];exact cz _ rfl,rfl,rfl⟩,Jy.push _⟩ ?hS0 (d9 _) ?hR
    case hS0=>
     refine⟨_,#[],0,.fresh 0 0 (!L2.Cj w),[],bR _ hS,⟨rfl,rfl,rfl⟩,rfl,rfl,List.Perm.refl _,List.nodup_nil,by show 0<scanBound;decide,rfl,?_,λz=>absurd rfl z⟩;show L2.Cj w=true\/(!L2.Cj w)=true;cases L2.Cj w<;>simp
    case hR=>
     intro h' tk hk KW;show wpAny _ _ _ _ _ _;refine bf ?_
     show wpAny _ _ (ret Value.none) _ _ _;refine bf ⟨rfl,h',tk,rfl,KW,λb o hb e=>?_⟩;exact hk b o (cc hb) (by rw[S0];exact cc (lP hb)) (bR _ (bR _ e))
   ·cases M with
    |error e=>exact S
    |ok Xj=>
     cases Xj with
     |ret r=>
      obtain⟨rfl,h',tk,rfl,KW,Ow⟩:=S
      repeat(any_goals (first|assumption|wp_step))
      exact h _ _ KW Ow
     |_=>exact S.elim
  |_=>exact n.elim
end
end
open PySem.Calls
section
variable {prog:Program}{ss:List Str}
theorem K6{Q:Bool->Shared->Prop}(q:s.TypeIs (.ref a) "set")(h:Q false s):wpAny (model prog w) A (Builtin.List.listLengthHint (.ref a)) Q E s:=by
 unfold Builtin.List.listLengthHint;refine aT (wpAny_specialOf q PySem.F.slot_set_len.lookup ?_);generalize cj:("set.__len__":String)=g
 wp_delta
 rw[show splitId g=some ("set","__len__")from by subst cj;decide+kernel];subst cj;refine aT (pA (T:="set") (b:=true) q (by rw[isSubtype_type];kernel_rfl) ?_);refine mJ (λl=>absurd l (by decide)) (λ_=>?_);refine mJ (λ_=>?_) (λl=>absurd (by decide+kernel) l);exact aT (tX q (bf h))
theorem Dk{R:Result->Shared->Prop}(hh:A.handled=none)(hS:lK w s.heap a ss)(L:Addr)(hLa:L≠a)(res:Value)(hL:s.heap.get? L=some {cls:=.type "list",data:=.seq #[] 0})
  (hR:∀h' tk d ky c' l,(l.map (·.1)).Perm ss->(∀b o,b≠L->s.heap.get? b=some o->h'.get? b=some o)->h'.get? L=some {cls:=.type "list",dict:=none,data:=.seq ky c',slots:=#[]}->ItemsOf (strAt l) ky l.length->
   R (.ok (.ret res)) {s with heap:=h',toks:=tk,drawn:=d}) (hn:ss.length<=sizeLine):
  wpAny (model prog w) A.in1 (Builtin.List.listExtendWith (.ref L) (.ref a) res) (λfin s'=>match fin with|.done f=>R (.ok f) s'|.again c'=>c'.quiet=true/\codeAny (model prog w) A c' R s') (λe s'=>R (.error e) s') s:=by
 have Xk:L<s.heap.objs.size:=bx hL;unfold Builtin.List.listExtendWith;refine aT (tX (T:="set") hS.typeIs ?_);have h1:Builtin.List.listSameRef (.ref L) (.ref a)=false:=by simp[Builtin.List.listSameRef,hLa]
 have h2:(Value.type "set"==Value.type "list")=false:=by decide
 have h3:(Value.type "set"==Value.type "tuple")=false:=by decide
 simp only[h1,h2,h3,mK,cK,cg];refine aT (IE hS λgc d I fp St l hp r hI zv W st=>?_);have b9:l.length=ss.length:=by have q:=hp.length_eq;rw[bu]at q;exact q
 have Xe:Shared.TypeIs {s with heap:=gc,drawn:=d} (.ref a) "set":=by
  obtain⟨o,ho,hc⟩:=hS.typeIs;exact⟨o,r _ _ ho,hc⟩
 have g:L∉fp:=λm=>by
  rcases zv L m with e|e
  ·exact hLa e
  ·exact absurd (dh Xk e) (eV _)
 have hLI:L≠I:=cc (dh Xk hI);have M:=r _ _ hL;have key:∀(h:Heap) (c₁ tk:Nat),St 0 h->(∀b o,b≠L->s.heap.get? b=some o->h.get? b=some o)->h.get? L=some {cls:=.type "list",data:=.seq #[] c₁}->
   codeAny (model prog w) A (.builtin "list.extend.loop" ⟨[.ref L,.ref I,res],[]⟩) R {s with heap:=h,toks:=tk,drawn:=d}:=by
  intro h c₁ tk cG S Xl;refine codeAny_extend_loopS (W A.in1 hh).toS (by omega) L g res l.length 0 _ #[] c₁ rfl (d9 _) cG Xl (ItemsOf.nil _) λs' ky c' hm Dl sG=>?_
  rw[Moved.eq_with hm];refine hR s'.heap s'.toks d ky c' l hp (λb o hb e=>hm.heap b o (λIA=>?_) (S b o hb e)) Dl sG;rcases bG.mp IA with e'|IA
  ·exact hb e'
  ·exact absurd (dh (bx e) hI) (by rw[cV.mp IA];exact eV _)
 refine aT (fG (K6 Xe ?_));refine mJ (λ_=>?_) (λ_=>bf ⟨hV PySem.F.plain_extend_loop _,key _ 0 _ st (λb o _ e=>r b o e) M⟩);refine aT (fL ?_);refine aT ?_
 show wpAny _ _ (updateSeq L (·.push .none)>>=λ_=>updateSeq L (·.pop)) _ _ _;refine aT (pD M rfl ?_);have Qx:=sX (Obj.mapSeq (·.push Value.none)) M rfl;refine pD (hz:=by seq_fits) Qx rfl ?_
 have Xm:=sX (Obj.mapSeq (·.pop)) Qx rfl;refine bf ⟨hV PySem.F.plain_extend_loop _,key _ _ _ ?_ (λb o hb e=>?_) Xm⟩
 ·refine(W A.in1 hh).frame 0 _ _ st λb hb o e=>?_
  have n:b≠L:=λz=>g (z▸hb);exact(nG _ _ (Ne.symm n)).trans ((nG _ _ (Ne.symm n)).trans e)
 ·exact(nG _ _ (Ne.symm hb)).trans ((nG _ _ (Ne.symm hb)).trans (r b o e))
theorem Bp{R:List Value->Shared->Prop}(hh:A.handled=none)(hS:lK w s.heap a ss)(hn:ss.length<=sizeLine)
  (h:∀(h':Heap) (tk:Nat) (d:Drawn) (l:List (Str×Tok)),(l.map (·.1)).Perm ss->(∀b o,s.heap.get? b=some o->h'.get? b=some o)->s.heap.objs.size<=h'.objs.size->R (l.map E_) {s with heap:=h',toks:=tk,drawn:=d}):wpAny (model prog w) A (collect (.ref a)) R E s:=by
 have gB:a<s.heap.objs.size:=by obtain⟨o,ho,_⟩:=hS.typeIs;exact bx ho
 have M:∀(l:List (Str×Tok)) (acc:Array Value),ItemsOf (strAt l) acc l.length->acc.toList=l.map E_:=λl acc hi=>by
  refine o_ λi=>?_
  rw[ck,nH];cases e:acc[i]? with
  |none=>
   have S:acc.size<=i:=Array.getElem?_eq_none_iff.mp e;rw[hi.1]at S;rw[jm.mpr S];rfl
  |some v=>exact(hi.2 i v e).symm
 unfold collect;refine aT (wpAny_runValue (fY entry_proto_collect' ?_));rw[g9 Cn _];show wpAny _ A.in1 (newList []>>=λl=>again (.builtin "list.__iadd__" ⟨[l,.ref a],[]⟩)) _ _ s;refine aT (kM ?_);refine bf ⟨hV sT _,fY entry_list_iadd' ?_⟩;rw[g9 sT _];have hL:(s.heap.push {cls:=.type "list",data:=.seq ([]:List Value).toArray}).get? s.heap.objs.size=some {cls:=.type "list",data:=.seq #[]}:=cz _ rfl;show wpAny _ A.in1 (Builtin.List.listExtendWith (.ref s.heap.objs.size) (.ref a) (.ref s.heap.objs.size)) _ _ _;have key:=Dk (prog:=prog) (A:=A) (s:={s with heap:=s.heap.push {cls:=.type "list",data:=.seq ([]:List Value).toArray}}) (ss:=ss)
  (R:=λ(q:Result) (s':Shared)=>∃(h':Heap) (tk:Nat) (d:Drawn) (g:Array Value) (r:Nat) (l:List (Str×Tok)),q=.ok (.ret (.ref s.heap.objs.size))/\s'={s with heap:=h',toks:=tk,drawn:=d}/\
   (l.map (·.1)).Perm ss/\(∀b o,s.heap.get? b=some o->h'.get? b=some o)/\h'.get? s.heap.objs.size=some {cls:=.type "list",dict:=none,data:=.seq g r,slots:=#[]}/\ItemsOf (strAt l) g l.length)
  hh (hS.keep λo e=>bR _ e) s.heap.objs.size (dQ gB) (.ref s.heap.objs.size) hL
  (λh' tk d g r l hp I n L=>⟨h',tk,d,g,r,l,rfl,rfl,hp,λb o e=>I b o (cc (bx e)) (bR _ e),n,L⟩) hn
 refine d_ key (λfin s' x=>?_) λe s' x=>?_
 ·cases fin with
  |done f=>
   obtain⟨h',tk,d,g,r,l,e,rfl,hp,I,n,L⟩:=x;cases e;show wpAny _ A (load s.heap.objs.size>>=_) _ _ _;refine aT (pI n ?_);refine bf ?_
   rw[M l g L];exact h h' tk d l hp I (dC (bx n))
  |again c₁=>
   refine⟨x.1,iH x.2 λq ua y=>?_⟩;obtain⟨h',tk,d,g,r,l,rfl,rfl,hp,I,n,L⟩:=y;show wpAny _ A (load s.heap.objs.size>>=_) _ _ _;refine aT (pI n ?_);refine bf ?_
   rw[M l g L];exact h h' tk d l hp I (dC (bx n))
 ·obtain⟨_,_,_,_,_,_,e',_⟩:=x;cases e'
theorem yq:∀l:List (Str×Tok),StrsAre (l.map E_) (l.map (·.1))
 |[]=>.nil
 |p::r=>.cons p.1 p.2 (yq r)
def Dm(hh:A.handled=none)(hS:lK w s.heap a ss)(Fc:ss.length<64)
  (h:∀h' tk d D out n Ck,(∀b o,s.heap.get? b=some o->h'.get? b=some o)->s.heap.objs.size<=D->h'.get? D=some {cls:=.type "list",data:=.seq out n}->StrsAre out.toList Ck->Ck.Perm ss->sortedS Ck=true->
   Q (.ref D) {s with heap:=h',toks:=tk,drawn:=d}):wpAny (model prog w) A (call (.builtin "sorted") [.ref a]) Q E s:=by
 have hz:ss.length<=sizeLine:=by rw[dX];omega
 refine call_function_entry kind_sorted plain_sorted entry_sorted (args_sorted1 _) ?_
 unfold Builtin.«sorted»;refine aT (m:=checkCount "sorted" 1 1 _) (bf ?_);refine aT (Bp (A:=A.in1) hh hS hz λg tk d l hp S hle=>?_);have b9:l.length=ss.length:=by have q:=hp.length_eq;rw[bu]at q;exact q
 refine aT (pG ?_ (by show(l.map E_).length<=_;rw[bu];omega));have r:=yq l;have I:(g.push (seqObj "list" (l.map E_).toArray 0)).get? g.objs.size=some (seqObj "list" (l.map E_).toArray 0):=cz _ rfl;refine aT (fG (g_ slot_list_sort ⟨_,I,rfl⟩ entry_list_sort
  (list_sort_treeK strKind_oneLt I r.keysOf (λaa4 aa5 c9 e=>keyKind_strs (by rw[<-e];exact r)) (by rw[bu];omega) λL a1 a2=>⟨_,rfl,?_⟩) (args_list_sort _)))
 refine bf ⟨_,rfl,?_⟩;obtain⟨Ck,q1,q2,q3⟩:=sorted_out_str r a1 a2;obtain⟨e,he⟩:=sortedHeap_at (out:=(arrOf L).map (·.2)) I;refine h _ tk d g.objs.size ((arrOf L).map (·.2)) e Ck (λb o q=>?_) hle he q1 (q2.trans hp) q3;have hb:=S b o q;have M:=bx hb;rw[sortedHeap_old (cc M) (by rw[jD];exact lP M)];exact bR _ hb
end
noncomputable def Dn(a b:Str):Bool:=!decide (b.cps.toList<a.cps.toList)
def wF:Dn x av=true↔x.cps.toList<=av.cps.toList:=by
 unfold Dn;rw[pb,wY];exact Iff.rfl
theorem Af{c:Str}(q:Dn x av=true)(h2:Dn av c=true):Dn x c=true:=by
 rw[wF]at*;exact List.le_trans q h2
theorem IF(a b:Str):(Dn a b||Dn b a)=true:=by
 rw[Bool.or_eq_true,wF,wF];exact List.le_total _ _
theorem K7{b:Str}(q:Dn x b=true)(h2:Dn b x=true):x=b:=by
 rw[wF]at*;exact ext_toList (List.le_antisymm q h2)
def de(ss:List Str):List Str:=ss.mergeSort Dn
def eL(ss:List Str):(de ss).Perm ss:=List.mergeSort_perm ss _
def sH(ss:List Str):(de ss).Pairwise (λa b=>Dn a b=true):=List.pairwise_mergeSort (le:=Dn) (λa b c g h2=>Af g h2) IF ss
theorem vM:∀(p:Str) (l:List Str),risingS p l=true->(p::l).Pairwise (λa b=>Dn a b=true)
 |p,[],_=>wZ _ _
 |p,x::r,h=>by
  have h':(!ltCps x.cps.toList p.cps.toList&&risingS x r)=true:=h;rw[bW,ltCps_eq]at h';have n:=vM x r h'.2;have hp:Dn p x=true:=h'.1;refine List.pairwise_cons.mpr ⟨λy g=>?_,n⟩;rcases bG.mp g with rfl|g
  ·exact hp
  ·exact Af hp (List.rel_of_pairwise_cons n g)
theorem Dp:∀l:List Str,sortedS l=true->l.Pairwise (λa b=>Dn a b=true)
 |[],_=>List.Pairwise.nil
 |x::r,h=>vM x r h
def vN{b:List Str}(hp:ps.Perm b)(q:ps.Pairwise (λps b=>Dn ps b=true))(hb:b.Pairwise (λps b=>Dn ps b=true)):ps=b:=
 hp.eq_of_pairwise (λx y _ _ g h2=>K7 g h2) q hb
def uA{ss:List Str}(hp:ps.Perm ss)(hs:sortedS ps=true):ps=de ss:=vN (hp.trans (eL ss).symm) (Dp _ hs) (sH ss)
def Dq{b:List Str}(h:ps.Perm b):de ps=de b:=vN ((eL ps).trans (h.trans (eL b).symm)) (sH ps) (sH b)
def IG(w:World)(a:Addr)(ss:List Str):HO:=.ext λh=>lK w h a ss
theorem qV:∀{vs:List Value} {ss:List Str},StrsAre vs ss->Vals (ss.map V.str) vs
 |_,_,.nil=>.nil
 |_,_,.cons y t r=>.cons ⟨t,rfl⟩ (qV r)
theorem vk:∀{ss:List Str} {vs:List Value},Vals (ss.map V.str) vs->StrsAre vs ss
 |[],_,.nil=>.nil
 |y::r,_,.cons b g=>by
  obtain⟨t,rfl⟩:=(show∃t,_=Value.str y t from b);exact .cons y t (vk g)
def IH(ts:List Str):(List.range' 0 ts.length).map (λi=>ts.getD i Str.empty)=ts:=by
 refine List.ext_getElem (by simp) λi b h2=>?_
 simp[h2]
def Inv.Ox (I:Inv X U Z H s)(d:Drawn):Inv X U Z H {s with drawn:=d}:=
 I.step (h':=s.heap) (H':=H) (g':=s.gens) (t':=s.toks) (d':=d) (ch:=[]) (λ_ z=>nomatch z) (λb o _ _ _ e _=>e) (λb o _ _ _ e _=>⟨o.slots,e⟩) (λb o _ _ n=>n) (λb o _ e=>⟨o,e⟩) (λ_ _ e=>e) (λ_ _ _ e=>e)
   (λb ps e=>⟨#[],by rw[e];simp⟩) (λm hm=>hm) I.cY I.bare
theorem II(hc:X.calm=true):gL X (.type "set") (λxs H Q=>∃(p:Addr) (ts:List Str),xs=[.ref p]/\lR X.K H p (ts.map V.str)/\ts.length+1<scanBound/\∀a,H a=none->Q (.ref a) (upd H a (IG X.w a (eQ [] ts)))):=by
 intro U s Z H xs us Q I r h;obtain⟨p,ts,rfl,S,hb,q⟩:=h;obtain⟨u,rfl,g⟩:=vals1 r;cases(show u=Value.ref p from g);obtain⟨cy,rv,pl,hz⟩:=I.list S;have l:cy.length=ts.length:=by have e:=rv.length;rw[bu]at e;exact e.symm
 refine K4 (val:=λi=>ts.getD i Str.empty) (I.ok.hd hc) pl.isList (λi v hv=>?_) (by rw[cW,l];exact hb) λh' tk n hk=>?_
 ·have L:cy[i]?=some v:=by simpa using hv
  have hi:i<ts.length:=by rw[<-l];exact(gu.mp L).1
  obtain⟨u,M,g⟩:=rv.get (i:=i) (x:=V.str ts[i]) (by rw[ck,bY hi];rfl);rw[L]at M;cases M;obtain⟨t,rfl⟩:=(show∃t,v=Value.str ts[i] t from g);exact⟨t,by rw[eN,bY hi];rfl⟩
 ·have e0:cy.toArray.size=ts.length:=by rw[cW];exact l
  rw[e0,IH]at n;have hf:H s.heap.objs.size=none:=I.fresh;refine⟨.ref s.heap.objs.size,_,I.laid (o:=IG X.w s.heap.objs.size (eQ [] ts)) (λb o e=>hk b o (bx e) e) (bz _) ⟨n,?_,λh1 h2 x k=>lK.keep x k⟩,rfl,q _ hf⟩;obtain⟨o,_,_,_,_,ho,_⟩:=n;exact⟨o,ho⟩
theorem yr(hc:X.calm=true):gL X (.builtin "sorted") (λxs H Q=>∃(a:Addr) (ss:List Str),xs=[.ref a]/\H a=some (IG X.w a ss)/\ss.length<64/\∀D,H D=none->Q (.ref D) (upd H D (.lst ((de ss).map V.str)))):=by
 intro U s Z H xs us Q I r h;obtain⟨a,ss,rfl,ha,g,q⟩:=h;obtain⟨u,rfl,l⟩:=vals1 r;cases(show u=Value.ref a from l);obtain⟨L,_,_⟩:=(show cZ X.prog X.w H s.heap a (.ext λh=>lK X.w h a ss)from I.cY a _ ha);refine Dm (I.ok.hd hc) L g λh' M d D out n Ck S b hg cG hp hs=>?_
 have e:=uA hp hs;subst e;have hf:H D=none:=I.cY.fresh b;have hz:((de ss).map V.str).length<=sizeLine:=by
  rw[bu,(eL ss).length_eq,dX];omega
 have I1:Inv X U Z (upd H D (.lst ((de ss).map V.str))) {s with heap:=h',toks:=M}:=I.laid (o:=.lst ((de ss).map V.str)) S b ⟨hz,out.toList,n,qV cG,by rw[sW];exact hg⟩;exact⟨.ref D,_,I1.Ox d,rfl,q _ hf⟩
theorem Bq:gL X (.builtin "sorted") (λxs H Q=>∃(a:Addr) (ss:List Str),xs=[.ref a]/\lR X.K H a (ss.map V.str)/\ss.length<64/\∀D,H D=none->Q (.ref D) (upd H D (.lst ((de ss).map V.str)))):=by
 intro U s Z H xs us Q I r h;obtain⟨a,ss,rfl,ha,Fc,q⟩:=h;obtain⟨u,rfl,l⟩:=vals1 r;cases(show u=Value.ref a from l);obtain⟨cy,rv,pl,_⟩:=I.list ha;have cG:=vk rv;have b9:cy.length=ss.length:=by have e:=rv.length;rw[bu]at e;exact e.symm
 refine sorted_strs pl.isList cG (by omega) λout Ck L h2 M=>?_
 have e:=uA h2 M;subst e;obtain⟨n,S⟩:=sortedAll_at s.heap cy out;have g:s.heap.objs.size<=s.heap.objs.size+1:=pH _;have hf:H (s.heap.objs.size+1)=none:=I.cY.fresh g;have hz:((de ss).map V.str).length<=sizeLine:=by
  rw[bu,(eL ss).length_eq,dX];omega
 exact⟨.ref (s.heap.objs.size+1),_,I.laid (t':=s.toks) (o:=.lst ((de ss).map V.str)) (λb o e=>sortedAll_old e) g ⟨hz,out.toList,n,qV L,by rw[sW];exact S⟩,rfl,q _ hf⟩
theorem yt{t:Addr}{x:Value}(hit:s.heap.IsTupleIter au t i)(q:s.heap.IsTuple t ak)(hx:ak[i]?=some x)
  (hQ:∀h',h'.IsTupleIter au t (i+1)->Heap.SameBut au s.heap h'->Q x {s with heap:=h'}):wpAny (model P w) A (Builtin.SmallTypes.nextOf (.ref au)) Q E s:=by
 have key:wpAny (model P w) A (pyNext (.ref au)) (λr s'=>∃v,r=some v/\Q v s') (λ_ _=>False) s:=wpAny_pyNext_tuple_item hit q hx λh' a b=>⟨x,rfl,hQ h' a b⟩;obtain⟨o,g,l,hd⟩:=id hit;obtain⟨ol,n,_,nl,I⟩:=q;unfold Builtin.SmallTypes.nextOf;refine aT (qM (name:=Str.ofString "__next__") hit.typeIs sQ (g_ sQ hit.typeIs F.entry_tuple_iterator_next ?_ (F.args_tuple_iterator_next_1 _)));show wpAny _ _ (field (.ref au) 0>>=_) _ _ s;refine aT (gz g hd (x:=.ref t) rfl ?_);show wpAny _ _ (if(Value.ref t==Value.none)=true then _ else _) _ _ s;rw[bc (show¬((Value.ref t==Value.none)=true)from fE)];show wpAny _ _ (field (.ref au) 1>>=_) _ _ s;refine aT (gz g hd (x:=.int i 0) rfl ?_);show wpAny _ _ (seqItems? (.ref t)>>=_) _ _ s;refine aT (hU n I ?_);simp only[lQ,hx];refine aT (wpAny_setField g hd (by simp) (bf ⟨x,rfl,bf (hQ _ ?_ (o9 ..))⟩));exact⟨_,sX _ g (Obj.isFreed_of_fields (Obj.data_mapFields hd _)),(Obj.cls_mapFields ..).trans l,by rw[Obj.data_mapFields hd];simp[rawInt]⟩
theorem IJ{t:Addr}(q:A.handled=none)(hit:s.heap.IsTupleIter a t i)(ht:s.heap.IsTuple t ak)(hx:ak[i]?=none)
  (hE:∀h' (e:Addr),Heap.ExtBut a s.heap h'->Shared.TypeIs {s with heap:=h'} (.ref e) "StopIteration"->E (.ref e) {s with heap:=h'}):wpAny (model P w) A (Builtin.SmallTypes.nextOf (.ref a)) Q E s:=by
 obtain⟨o,g,L,hd⟩:=id hit;obtain⟨ol,l,_,nl,n⟩:=ht;unfold Builtin.SmallTypes.nextOf;refine aT (qM (name:=Str.ofString "__next__") hit.typeIs sQ (g_ sQ hit.typeIs F.entry_tuple_iterator_next ?_ (F.args_tuple_iterator_next_1 _)));show wpAny _ _ (field (.ref a) 0>>=_) _ _ s;refine aT (gz g hd (x:=.ref t) rfl ?_);show wpAny _ _ (if(Value.ref t==Value.none)=true then _ else _) _ _ s;rw[bc (show¬((Value.ref t==Value.none)=true)from fE)];show wpAny _ _ (field (.ref a) 1>>=_) _ _ s;refine aT (gz g hd (x:=.int i 0) rfl ?_);show wpAny _ _ (seqItems? (.ref t)>>=_) _ _ s;refine aT (hU l n ?_);simp only[lQ,hx];refine aT (fL (aT (wpAny_setField g hd (by simp) ?_)));show wpAny _ _ (newExc (.type "StopIteration") []>>=_) _ _ _;refine aT (yo q λh' x r I=>?_);exact hE h' x (λb o hb e=>I b o ((o9 ..).extBut b o hb e)) r
structure ZA(z TI TO i1 i2:Addr):Prop where
 TIz:TI≠z
 TOz:TO≠z
 i1z:i1≠z
 i2z:i2≠z
 TITO:TI≠TO
 TIi1:TI≠i1
 TIi2:TI≠i2
 TOi1:TO≠i1
 TOi2:TO≠i2
 i12:i1≠i2
theorem IK{TO i1 i2 l1 l2:Addr}{ys:Array Value}{x y b:Value}(D:ZA a au TO i1 i2)(hz:IsZip s.heap a au TO .none)(Fd:IsPair s.heap au (.ref i1) (.ref i2))(IL:IsPair s.heap TO af b)
  (h1:s.heap.IsTupleIter i1 l1 i) (h2:s.heap.IsTupleIter i2 l2 az) (Jy:s.heap.IsTuple l1 ak) (Na:s.heap.IsTuple l2 ys) (d1:l1≠a/\l1≠TO/\l1≠i1/\l1≠i2) (d2:l2≠a/\l2≠TO/\l2≠i1/\l2≠i2) (hx:ak[i]?=some x) (hy:ys[az]?=some y)
  (hQ:∀h',IsZip h' a au TO (rawInt s.heap.objs.size)->IsPair h' TO x y->h'.IsTupleIter i1 l1 (i+1)->h'.IsTupleIter i2 l2 (az+1)->IsPair h' s.heap.objs.size x y->
   (∀c o,c≠a->c≠TO->c≠i1->c≠i2->s.heap.get? c=some o->h'.get? c=some o)->aM (some (.ref s.heap.objs.size)) {s with heap:=h'}):wpAny (model P w) A (pyNext (.ref a)) aM E s:=by
 have hT:s.TypeIs (.ref a) "zip":=⟨_,hz,rfl⟩;unfold pyNext;refine aT (tW (qM (name:=Str.ofString "__next__") hT tR (g_ tR hT F.entry_zip_next ?_ (F.args_zip_next_1 _))));show wpAny _ _ (field (.ref a) 2>>=_) _ _ _;refine aT (gz hz rfl (x:=.bool false) rfl ?_);show wpAny _ _ (field (.ref a) 3>>=_) _ _ _;refine aT (gz hz rfl (x:=.ref au) rfl (aT (hU Fd rfl ?_)));show wpAny _ _ (Builtin.SmallTypes.ownedTupleIsFree (.ref a)>>=_) _ _ _;refine aT ?_
 unfold Builtin.SmallTypes.ownedTupleIsFree;refine aT (gz hz rfl (x:=.none) rfl (bf ?_));simp only[cw];refine aT (fL (aT (gz hz rfl (x:=.ref TO) rfl ?_)));refine aT (jo hz (by simp) λgc yu l=>?_);replace yu:IsZip gc a au TO .ellipsis:=yu;refine aT ?_
 simp only[List.zipIdx_cons,List.zipIdx_nil,pw,xA];refine aT (aT (wpAny_onRaise ?_));show wpAny _ _ (Builtin.SmallTypes.nextOf (.ref i1)>>=_) _ _ _;refine aT (yt (s:={s with heap:=gc}) (h1.extBut l.extBut D.i1z) (Jy.extBut l.extBut d1.1) hx λpS Xn r=>bf ?_);have K8:IsPair pS TO af b:=r.extBut _ _ D.TOi1 (l.extBut _ _ D.TOz IL);refine aT (hU K8 rfl (aT (wpAny_updateSeq_pair K8 λzp Fe I=>?_)));replace Fe:IsPair zp TO x b:=Fe;refine aT (mM (bf (aT (aT (wpAny_onRaise ?_)))));show wpAny _ _ (Builtin.SmallTypes.nextOf (.ref i2)>>=_) _ _ _;refine aT (yt (s:={s with heap:=zp}) (((h2.extBut l.extBut D.i2z).extBut r.extBut D.i12.symm).extBut I.extBut D.TOi2.symm) (((Na.extBut l.extBut d2.1).extBut r.extBut d2.2.2.1).extBut I.extBut d2.2.1) hy λR0 Xo L=>bf ?_);have K_:IsPair R0 TO x b:=L.extBut _ _ D.TOi2 Fe;refine aT (hU K_ rfl (aT (wpAny_updateSeq_pair K_ λg S M=>?_)));replace S:IsPair g TO x y:=S;refine aT (mM (bf (bf ?_)));refine aT (hU S rfl (aT (wpAny_newTuple ?_)));have hsz:g.objs.size=s.heap.objs.size:=by rw[M.1,L.1,I.1,r.1,l.1]
 have Qy:IsZip g a au TO .ellipsis:=M.extBut _ _ D.TOz.symm (L.extBut _ _ D.i2z.symm (I.extBut _ _ D.TOz.symm (r.extBut _ _ D.i1z.symm yu)));have Xp:∀c o,c≠a->c≠TO->c≠i1->c≠i2->s.heap.get? c=some o->g.get? c=some o:=λc o n q c3 c4 e=>M.extBut _ _ q (L.extBut _ _ c4 (I.extBut _ _ q (r.extBut _ _ c3 (l.extBut _ _ n e))));have Xq:g.IsTupleIter i1 l1 (i+1):=((Xn.extBut I.extBut D.TOi1.symm).extBut L.extBut D.i12).extBut M.extBut D.TOi1.symm;have Xr:g.IsTupleIter i2 l2 (az+1):=Xo.extBut M.extBut D.TOi2.symm;have Xs:a<g.objs.size:=bx Qy;show wpAny _ _ (Builtin.SmallTypes.ownedTupleHandOut (.ref a) (.ref g.objs.size)>>=_) _ _ _;refine aT ?_
 unfold Builtin.SmallTypes.ownedTupleHandOut;have Xt:IsZip (g.push {cls:=.type "tuple",data:=.seq #[x,y]}) a au TO .ellipsis:=bR _ Qy;refine aT (jo Xt (by simp) λaa6 La Xu=>?_);replace La:IsZip aa6 a au TO (rawInt g.objs.size):=La;refine jo La (by simp) λOy GX Xv=>?_
 replace GX:IsZip Oy a au TO (rawInt g.objs.size):=GX;have up:∀c o,c≠a->g.get? c=some o->Oy.get? c=some o:=λc o n e=>Xv.extBut _ _ n (Xu.extBut _ _ n (bR _ e));have Qz:IsPair Oy g.objs.size x y:=Xv.extBut _ _ (dQ Xs) (Xu.extBut _ _ (dQ Xs) (cz _ rfl));rw[hsz]at GX Qz;refine bf ⟨_,rfl,bf ?_⟩;show aM (some (.ref g.objs.size)) _;rw[hsz];exact hQ Oy GX (up _ _ D.TOz S) (Xq.at λo e=>up _ o D.i1z e) (Xr.at λo e=>up _ o D.i2z e) Qz λc o n q c3 c4 e=>up c o n (Xp c o n q c3 c4 e)
theorem Lb{z i1 i2 l1:Addr}{b:Value}(hh:A.handled=none)(D:ZA z a au i1 i2)(hz:IsZip s.heap z a au .none)(Fd:IsPair s.heap a (.ref i1) (.ref i2))(IL:IsPair s.heap au af b)
  (h1:s.heap.IsTupleIter i1 l1 i) (Jy:s.heap.IsTuple l1 ak) (d1:l1≠z) (hx:ak[i]?=none)
  (hQ:∀h',(∀c o,c≠z->c≠i1->s.heap.get? c=some o->h'.get? c=some o)->aM none {s with heap:=h'}):wpAny (model P w) A (pyNext (.ref z)) aM E s:=by
 have M:s.TypeIs (.ref z) "zip":=⟨_,hz,rfl⟩;unfold pyNext;refine aT (tW (qM (name:=Str.ofString "__next__") M tR (g_ tR M F.entry_zip_next ?_ (F.args_zip_next_1 _))));show wpAny _ _ (field (.ref z) 2>>=_) _ _ _;refine aT (gz hz rfl (x:=.bool false) rfl ?_);show wpAny _ _ (field (.ref z) 3>>=_) _ _ _;refine aT (gz hz rfl (x:=.ref a) rfl (aT (hU Fd rfl ?_)));show wpAny _ _ (Builtin.SmallTypes.ownedTupleIsFree (.ref z)>>=_) _ _ _;refine aT ?_
 unfold Builtin.SmallTypes.ownedTupleIsFree;refine aT (gz hz rfl (x:=.none) rfl (bf ?_));simp only[cw];refine aT (fL (aT (gz hz rfl (x:=.ref au) rfl ?_)));refine aT (jo hz (by simp) λS n r=>?_);replace n:IsZip S z a au .ellipsis:=n;refine aT ?_
 simp only[List.zipIdx_cons,List.zipIdx_nil,pw,xA];refine aT (aT (wpAny_onRaise ?_));show wpAny _ _ (Builtin.SmallTypes.nextOf (.ref i1)>>=_) _ _ _;refine aT (IJ (s:={s with heap:=S}) hh (h1.extBut r.extBut D.i1z) (Jy.extBut r.extBut d1) hx λI e vi he=>?_);have QC:IsZip I z a au .ellipsis:=vi _ _ D.i1z.symm n;obtain⟨oe,g,l⟩:=he;have L:e≠z:=λq=>by
  have Xw:I.get? e=some oe:=g;rw[q,QC]at Xw;cases Xw;simp at l
 refine jo (s:={s with heap:=I}) QC (by simp) λzp _ Br=>?_
 refine aT (pA (s:={s with heap:=zp}) (T:="StopIteration") (b:=true) ⟨oe,Br.extBut _ _ L g,l⟩ isSubtype_stop ?_);exact bf (hQ zp λc o c1 c2 q=>Br.extBut _ _ c1 (vi _ _ c2 (r.extBut _ _ c1 q)))
section
variable {h':Heap}
def js.apart {b:Addr}{xs:List V}(I:Inv X U Z H s)(h:js X.K H a xs)(f:kU X U H b):a≠b:=by
 rcases h with(h|⟨o,h⟩)|⟨o,cy,n,g,_⟩
 ·exact bS h f.1
 ·exact bS h f.1
 ·intro e;subst e;have hb:=I.ok.mod.PV a o g;rcases f.2.2.2.1 with q|q
  ·exact I.ok.AO a o hb q
  ·exact absurd (dh (bx (I.ok.bs a o hb).1) q) (eV _)
def Inv.IM {ch:List Addr}{T:Addr}{o:HO}{t':Nat}(I:Inv X U Z H s)(zF:∀b∈ch,kU X U H b)(k:∀b o,b∉ch->s.heap.get? b=some o->h'.get? b=some o)(hT:s.heap.objs.size<=T)
  (new:cZ X.prog X.w (upd H T o) h' T o):Inv X U Z (upd H T o) {s with heap:=h',toks:=t'}:=by
 have l:H T=none:=I.cY.fresh hT;have r:∀b u,H b=some u->b∉ch:=λb u e m=>by rw[(zF b m).1]at e;cases e
 refine I.step (g':=s.gens) (d':=s.drawn) (ch:=ch) (λb hb=>?_) (λb o _ _ g e _=>k b o g e) (λb o _ _ g e _=>⟨o.slots,k b o g e⟩) (λb o _ e n=>?_) (λb o g e=>⟨o,k b o g e⟩) (λb xs e=>?_) (λb o u e=>?_) (λb ps e=>⟨#[],?_⟩) (λm hm=>?_) (λb u e=>?_) I.bare
 ·obtain⟨_,L,_,x3,M,S⟩:=zF b hb;exact⟨x3,L,M,S⟩
 ·rw[bp (cc (dh (bx e) hT))];exact n
 ·rw[bp (bS e l)];exact e
 ·rw[bp (bS e l)];exact e
 ·rw[bp (bS e l),e];simp
 ·exact hm.at' λo e=>k _ o (λz=>(zF _ z).2.1 rfl) e
 ·by_cases hb:b=T
  ·subst hb;rw[bM]at e;cases e;exact new
  ·rw[bp hb]at e;refine(I.cY b u e).pK (λc v g q=>k c v ?_ q) (λc q=>by rw[bp (bS q l)];exact q) λc xs q=>by rw[bp (bS q l)];exact q
   rcases g with rfl|g
   ·exact r c u e
   ·exact r c _ g
def Inv.qW {ch:List Addr}{t':Nat}(I:Inv X U Z H s)(zF:∀b∈ch,kU X U H b)(k:∀b o,b∉ch->s.heap.get? b=some o->h'.get? b=some o):Inv X U Z H {s with heap:=h',toks:=t'}:=by
 have l:∀b u,H b=some u->b∉ch:=λb u e m=>by rw[(zF b m).1]at e;cases e
 refine I.step (g':=s.gens) (d':=s.drawn) (ch:=ch) (λb hb=>?_) (λb o _ _ g e _=>k b o g e) (λb o _ _ g e _=>⟨o.slots,k b o g e⟩) (λb o _ e n=>n) (λb o g e=>⟨o,k b o g e⟩) (λb xs e=>e) (λb o u e=>e) (λb ps e=>⟨#[],by rw[e];simp⟩) (λm hm=>?_) (λb u e=>?_) I.bare
 ·obtain⟨_,r,_,x3,L,M⟩:=zF b hb;exact⟨x3,r,L,M⟩
 ·exact hm.at' λo e=>k _ o (λz=>(zF _ z).2.1 rfl) e
 ·refine(I.cY b u e).pK (λc v g q=>k c v ?_ q) (λc q=>q) λc xs q=>q;rcases g with rfl|g
  ·exact l c u e
  ·exact l c _ g
end
def Itz(K:Frag)(a b:Addr):It:=
 ⟨λi H=>∃xs ys x y,js K H a xs/\js K H b ys/\xs[i]?=some x/\ys[i]?=some y,
  λi H v H'=>∃T x y,v=.ref T/\H T=none/\H'=upd H T (.tup [x,y])/\(∀xs,js K H a xs->xs[i]?=some x)/\(∀ys,js K H b ys->ys[i]?=some y),
  λi H=>∃xs,js K H a xs/\xs.length<=i⟩
theorem Xx{G:Prop}(k:∀P:Prop,(G->P)->P):G:=k G id
theorem Lc{z TO i1 i2 b:Addr}(D:ZA z au TO i1 i2):
  Turn P w K (.Tuple aA az pos) (Itz K a b) [z,au,TO,i1,i2] z (λi h=>IsZip h z au TO .none/\IsPair h au (.ref i1) (.ref i2)/\(∃p q,IsPair h TO p q)/\h.IsTupleIter i1 a i/\h.IsTupleIter i2 b i) where
 mem:=by simp
 obj:=λi h st c M=>by
  obtain⟨hz,g,⟨p,q,l⟩,⟨o1,e1,c1,d1⟩,⟨o2,e2,c2,d2⟩⟩:=st;simp only[bG,cP,cQ]at M;rcases M with rfl|rfl|rfl|rfl|rfl
  ·exact⟨_,hz,λv e=>by cases(show Data.fields _=Data.cell v from e)⟩
  ·exact⟨_,g,λv e=>by cases(show Data.seq _ _=Data.cell v from e)⟩
  ·exact⟨_,l,λv e=>by cases(show Data.seq _ _=Data.cell v from e)⟩
  ·exact⟨o1,e1,λv e=>by rw[d1]at e;cases e⟩
  ·exact⟨o2,e2,λv e=>by rw[d2]at e;cases e⟩
 keep:=λi h h' st k=>by
  obtain⟨hz,g,⟨p,q,l⟩,h1,h2⟩:=st;exact⟨k z (by repeat constructor) _ hz,k au (by repeat constructor) _ g,⟨p,q,k TO (by repeat constructor) _ l⟩,h1.at λo e=>k i1 (by repeat constructor) o e,h2.at λo e=>k i2 (by repeat constructor) o e⟩
 item:=by
  intro X hP hw hK M i U s Z H E I hf st hg;subst hP hw hK;refine Xx λP go=>?_
  obtain⟨xs,ys,x,y,r,n,hx,hy⟩:=hg;obtain⟨hz,g,⟨p,q,l⟩,h1,h2⟩:=st;obtain⟨Ld,Z2,p1,_⟩:=I.tuple r;obtain⟨xK,M8,p2,_⟩:=I.tuple n;obtain⟨S,hu1,ru1⟩:=Z2.get hx;obtain⟨u2,hu2,Xy⟩:=M8.get hy;have Z3:∀c∈[z,au,TO,i1,i2],a≠c:=λc m=>r.apart I (hf c m);have Z4:∀c∈[z,au,TO,i1,i2],b≠c:=λc m=>n.apart I (hf c m);refine go ?_
  refine IK D hz g l h1 h2 (show s.heap.IsTuple a Ld.toArray from p1) (show s.heap.IsTuple b xK.toArray from p2) ⟨Z3 _ (by repeat constructor),Z3 _ (by repeat constructor),Z3 _ (by repeat constructor),Z3 _ (by repeat constructor)⟩ ⟨Z4 _ (by repeat constructor),Z4 _ (by repeat constructor),Z4 _ (by repeat constructor),Z4 _ (by repeat constructor)⟩
   (x:=S) (y:=u2) (by simpa using hu1) (by simpa using hu2) λgc g1 g2 g3 g4 g5 kk=>?_
  refine⟨_,rfl,wpAny_letOwnedTupleGo_zip g1 λpS k1 L=>?_⟩;have lt:∀{c:Addr} {o:Obj},s.heap.get? c=some o->s.heap.objs.size≠c:=λe=>dQ (bx e);have hTz:s.heap.objs.size≠z:=lt hz;have up:∀c o,c∉[z,TO,i1,i2]->s.heap.get? c=some o->pS.get? c=some o:=λc o m e=>by
   simp only[bG,cP,cQ,not_or]at m;exact L.extBut _ _ m.1 (kk c o m.1 m.2.1 m.2.2.1 m.2.2.2 e)
  have NF:IsPair pS s.heap.objs.size S u2:=L.extBut _ _ hTz g5;refine⟨.ref s.heap.objs.size,_,I.IM (t':=s.toks) (ch:=[z,TO,i1,i2]) (T:=s.heap.objs.size) (o:=.tup [x,y]) (λc m=>hf c ?_) up (bz _) ⟨by show 2<=sizeLine;decide,[S,u2],.cons ru1 (.cons Xy .nil),⟨_,NF,rfl,_,rfl⟩⟩,rfl,
   ⟨s.heap.objs.size,x,y,rfl,I.fresh,rfl,λxs' h=>by rw[I.qP h r];exact hx,λys' h=>by rw[I.qP h n];exact hy⟩,
   ⟨k1,L.extBut _ _ D.TIz (kk _ _ D.TIz D.TITO D.TIi1 D.TIi2 g),⟨S,u2,L.extBut _ _ D.TOz g2⟩,g3.extBut L.extBut D.i1z,g4.extBut L.extBut D.i2z⟩,λc m=>?_⟩
  ·simp only[bG,cP,cQ]at m;rcases m with rfl|rfl|rfl|rfl<;>repeat constructor
  ·rw[bp ?_]
   ·exact(hf c m).1
   ·simp only[bG,cP,cQ]at m;obtain⟨o1,e1,_⟩:=h1;obtain⟨o2,e2,_⟩:=h2;rcases m with rfl|rfl|rfl|rfl|rfl
    ·exact(lt hz).symm
    ·exact(lt g).symm
    ·exact(lt l).symm
    ·exact(lt e1).symm
    ·exact(lt e2).symm
 done:=by
  intro X hP hw hK M i U s Z H E I hf st hg;subst hP hw hK;obtain⟨xs,r,hx⟩:=hg;obtain⟨hz,g,⟨p,q,l⟩,h1,h2⟩:=st;obtain⟨Ld,Z2,p1,_⟩:=I.tuple r;have hl:=Z2.length;refine Lb (I.ok.hd M) D hz g l h1 (show s.heap.IsTuple a Ld.toArray from p1) (r.apart I (hf z (by repeat constructor))) (by simp;omega) λh' kk=>⟨rfl,?_⟩;refine I.qW (t':=s.toks) (ch:=[z,i1]) (λc m=>hf c ?_) λc o m e=>?_
  ·simp only[bG,cP,cQ]at m⊢;rcases m with h|h<;>simp[h]
  ·simp only[bG,cP,cQ,not_or]at m;exact kk c o m.1 m.2 e
 self:=λ_ _ _ _ _ st h=>wpAny_pyIter_zip st.1 h
def S2(n:Nat):ZA (n+4) (n+2) (n+3) n (n+1):=⟨cc (by omega),cc (by omega),cc (by omega),cc (by omega),cc (by omega),dQ (by omega),dQ (by omega),dQ (by omega),dQ (by omega),cc (by omega)⟩
def aa7(K:Frag)(ta:TA):TI:=λZ H R=>ta Z H λvs H1=>∃a b xs ys,vs=[.ref a,.ref b]/\js K H1 a xs/\js K H1 b ys/\R (Itz K a b) H1
def IP:bootBuiltins "zip"=some (.type "zip"):=by decide+kernel
theorem S3{b:Expr}{ta:TA}(hg:Gl X "zip")(hm:X.mg "zip"=none)(ha:PA X [o,b] ta)(hs:starEach [o,b] X.env=[(false,eval o X.env),(false,eval b X.env)]:=by rfl) (VS:starEach [b] X.env=[(false,eval b X.env)]:=by rfl):
  PI X (.Tuple aA i b8) (.Call (.Name "zip" p) [o,b] [] pos) (aa7 X.K ta):=by
 intro U s Z H R I h;refine Call_ (u5 I hg hm IP (wR (eK (ha pos U s Z H _ I h) λus s1 ⟨vs,H1,g,r1,l⟩=>?_) (by rw[hs,VS]) (by rw[VS];rfl)));obtain⟨c,d,xs,ys,e,n,hd,q⟩:=l;subst e;obtain⟨u,v,rfl,r,rv⟩:=vals2 r1;cases(show u=Value.ref c from r);cases(show v=Value.ref d from rv);obtain⟨L,Z2,p1,_⟩:=g.tuple n;obtain⟨M,M8,p2,_⟩:=g.tuple hd;refine HG (show s1.heap.IsTuple c L.toArray from p1) (show s1.heap.IsTuple d M.toArray from p2) λh' hz S IL g1 g2 kk=>?_
 have I2:Inv X U Z H1 {s1 with heap:=h'}:=g.kept (t':=s1.toks) kk;refine wpAny_pyIter_zip hz ⟨s1.heap.objs.size+4,[s1.heap.objs.size+4,s1.heap.objs.size+2,s1.heap.objs.size+3,s1.heap.objs.size,s1.heap.objs.size+1],_,_,H1,rfl,I2,Lc (S2 _),⟨hz,S,⟨_,_,IL⟩,g1,g2⟩,λb m=>?_,q⟩;have hb:s1.heap.objs.size<=b:=by
  simp only[bG,cP,cQ]at m;rcases m with rfl|rfl|rfl|rfl|rfl
  ·exact mH _ 4
  ·exact mH _ 2
  ·exact mH _ 3
  ·exact bz _
  ·exact mH _ 1
 exact g.xE hb (g.cY.fresh hb)
noncomputable def QK(us ws:List Tr):List Tr:=List.zipWith (λa b=>.tup [a,b]) us ws
section
variable {a b:Expr}
def IQ{b:Addr}{ws:List V}{us:List Tr}(h:js K (cj B H) au ar)(r:bP K (cj B H) ar ts)(h2:js K (cj B H) b ws)(r2:bP K (cj B H) ws us)(hl:ts.length<=us.length):lV K B (Itz K au b) H (QK ts us) where
 go:=λi B' H' hi s hb=>by
  have l:i<ts.length:=by unfold QK at hi;rw[List.length_zipWith]at hi;omega
  have n:i<ar.length:=by rw[r.length];exact l
  have hw:i<ws.length:=by rw[r2.length];omega
  exact⟨ar,ws,ar[i],ws[i],bg.tup bI (s.h.tup h),bg.tup bI (s.h.tup h2),by simp[n],by simp[hw]⟩
 F8:=λi B' H' x M4 hi s hb ⟨T,y,z,I,g,L,q,M⟩=>by
  subst I L;obtain⟨t,S,rt⟩:=r.xW (q ar (bg.tup bI (s.h.tup h)));obtain⟨u,eu,ru⟩:=r2.xW (M ws (bg.tup bI (s.h.tup h2)));refine⟨bg.upd g,.tup [t,u],by unfold QK;rw[List.getElem?_zipWith,S,eu],.tup (.of (hb.new g)) (.cons ((rt.same s).same (bJ (bg.upd g))) (.cons ((ru.same s).same (bJ (bg.upd g))) .nil))⟩
 stop:=λB' H' s=>⟨ar,bg.tup bI (s.h.tup h),by unfold QK;rw[List.length_zipWith,r.length];omega⟩
def zpW(l:Rs (List Tr)):Rs (List Tr):=l.bind λts=>match ts with
 |[.tup us,.tup ws]=>if us.length<=ws.length then .ok (QK us ws)else .bad
 |_=>.bad
theorem Xz(hm:X.mg "zip"=none)(ha:PA X [a,b] (CM X L))(hg:Gl X "zip":=by rfl) (hs:bA [a,b]=true:=by rfl):PI X (.Tuple aA az b8) (.Call (.Name "zip" p) [a,b] [] pos) (tI X λY=>zpW (L Y)):=
 (S3 hg hm ha (by rw[bL _ _ (bq hs).1,bL _ _ (bq (bq hs).2).1];rfl) (by rw[bL _ _ (bq (bq hs).2).1];rfl)).weak λZ H R ⟨B,Y,hb,r,q⟩=>⟨B,Y,hb,r,q.bind.mono λts g vs H1 s1 l=>by
  split at g
  ·obtain⟨x,y,e,h1,h2⟩:=zT l;obtain⟨_,_,rfl,h,rr⟩:=h1.dY;obtain⟨_,_,rfl,h',n⟩:=h2.dY;split at g
   ·rename_i I;exact⟨_,_,_,_,e,bg.tup bI h,bg.tup bI h',g _ H1 s1 (IQ h rr h' n I)⟩
   ·exact g.elim
  ·exact g.elim⟩
def Oz:Tr->Rs Tr
 |.str z=>.ok (.str z)
 |.int i=>if i.natAbs.log2<1920/\(Str.ofString (toString i)).length<=dc then .ok (.str (Str.ofString (toString i)))else .bad
 |_=>.bad
theorem S4(h:PE X e (tP X F)):PE X (.FormattedValue e (-1) none pos) (tP X λY=>(F Y).bind Oz):=by
 intro U s Z H Q I ⟨B,Y,hb,r,q⟩;refine FormattedValue_plain (eK (h U s Z H (λx H1=>∃t,Rep X.K (cj B H1) x t/\bg H H1/\Fi X H (Oz t) λt=>∀e H',bg H H'->Rep X.K (cj B H') e t->Q e H') I ⟨B,Y,hb,r,q.bind.mono λt n e H1 s1 r1=>⟨t,r1,s1,n⟩⟩) λu s1 ⟨x,H1,b,g,t,rt,l,k⟩=>?_);cases rt with
 |str z hz=>
  obtain⟨L,rfl⟩:=(show∃t,u=Value.str z t from g);exact formatField_str (λt' M=>⟨.str z,H1,b.tok _,⟨_,rfl⟩,k _ H1 l (.str z hz)⟩) (cF hz lT)
 |int i=>
  obtain⟨L,rfl⟩:=(show∃t,u=Value.int i t from g);obtain⟨⟨k1,k2⟩,k⟩:=gM k;exact formatField_int_small k1 ⟨.str _,H1,(b.tok _).tok _,⟨_,rfl⟩,k _ H1 l (.str _ k2)⟩
 |_=>exact fe k
def PJ(X:Cx)(aA:List Expr)(J:bV->Str->Rs Tr):Prop:=∀(U:List (Addr×Obj)) (s:Shared) (Z:St) (H:Hp) (acc:Str) (Q:VK),Inv X U Z H s->tP X (λY=>J Y acc) Z H Q->wpAny (model X.prog X.w) X.A (joinParts acc (evalEach aA X.env)) (EP X U Z Q) X.xe s
def Bt(acc:Str):Rs Tr:=if acc.length<=dc then .ok (.str acc)else .bad
theorem XB:PJ X [] λ_ acc=>Bt acc:=by
 intro U s Z H acc Q I ⟨B,Y,hb,r,q⟩;obtain⟨b,k⟩:=gM q;exact joinParts_nil ⟨.str acc,H,I.tok _,⟨_,rfl⟩,k _ H (bg.refl H) (.str acc b)⟩ (cF b lT)
def m6(r:Rs Tr)(J:Str->Rs Tr)(acc:Str):Rs Tr:=r.bind λt=>match t with
 |.str y=>if(acc++y).length<=dc then J (acc++y)else .bad
 |_=>.bad
theorem S5{J:bV->Str->Rs Tr}(h:PE X e (tP X F))(hr:PJ X aA J):PJ X (e::aA) λY acc=>m6 (F Y) (J Y) acc:=by
 intro U s Z H acc Q I ⟨B,Y,hb,r,q⟩;refine joinParts_cons (eK (h U s Z H (λx H1=>∃y,x=.str y/\(acc++y).length<=dc/\bg H H1/\Fi X H (J Y (acc++y)) λt=>∀v H',bg H H'->Rep X.K (cj B H') v t->Q v H') I ⟨B,Y,hb,r,q.bind.mono λt b v H1 s1 n=>?_⟩) λu s1 ⟨x,H1,L,M,y,ex,g,l,k⟩=>?_)
 ·cases n with
  |str y hy=>
   by_cases g:(acc++y).length<=dc
   ·exact⟨y,rfl,g,s1,by have k:Fi X H (if(acc++y).length<=dc then J Y (acc++y)else .bad) _:=b;rw[aW g]at k;exact k⟩
   ·have k:Fi X H (if(acc++y).length<=dc then J Y (acc++y)else .bad) _:=b;rw[bc g]at k;exact fe k
  |_=>exact fe b
 ·subst ex;obtain⟨tk,rfl⟩:=(show∃t,u=Value.str y t from M);exact⟨cF g lT,hr U s1 Z H1 _ Q L ⟨B,Y,hb.same l,r.same l,(k.same l).mono λt b v H2 s2 S=>b v H2 (l.trans s2) S⟩⟩
theorem OA{J:bV->Str->Rs Tr}(h:PJ X (e::o::aA) J):PE X (.JoinedStr (e::o::aA) pos) (tP X λY=>J Y Str.empty):=λU s Z H Q I q=>JoinedStr_many (h U s Z H Str.empty Q I q)
def yv:List Tr->Rs (List String)
 |[]=>.ok []
 |.ty n::ts=>(yv ts).bind λns=>.ok (n::ns)
 |_::_=>.bad
theorem GY:∀{ts:List Tr} {ns:List String},yv ts=.ok ns->ts=ns.map Tr.ty
 |[],ns,h=>by cases h;rfl
 |t::ts,ns,h=>by
  cases t with
  |ty n=>
   cases e:yv ts with
   |ok ms=>
    rw[yv,e]at h;cases h;rw[GY e];rfl
   |_=>rw[yv,e]at h;cases h
  |_=>cases h
theorem Ds:∀{ts:List Tr} {c:Tr},yv ts≠ .exc c
 |[],c,h=>by cases h
 |t::ts,c,h=>by
  cases t with
  |ty n=>
   cases e:yv ts with
   |ok ms=>rw[yv,e]at h;cases h
   |exc b=>exact Ds e
   |bad=>rw[yv,e]at h;cases h
  |_=>cases h
theorem Dt{H:Vw}:∀{ns:List String} {vs:List V},bP K H vs (ns.map Tr.ty)->vs=ns.map V.ty
 |[],_,r=>by cases r;rfl
 |n::ns,_,r=>by
  cases r with
  |cons h r=>cases h;rw[Dt r];rfl
theorem GZ(K:Frag)(a:String)(q:a∈["NoneType","bool","int","str","tuple","list","dict"]):∀(cs:List String),(∀c∈cs,c∈kinds)->PySem.W.kitAny K (.type a) (cs.map Value.type)=some (cs.any λc=>a==c||(a=="bool"&&c=="int"))
 |[],_=>rfl
 |c::cs,h=>by
  have b:=GZ K a q cs λd m=>h d (cu _ m);have k1:=GH K a q c (h c (cD ..));rw[bO,PySem.W.kitAny,k1,b,jr];cases(a==c||(a=="bool"&&c=="int"))<;>rfl
def QL:List Tr->Rs Tr
 |[t,.tup cs]=>(yv cs).bind λns=>if ye t=true/\ns.all (λc=>kinds.contains c)=true then .ok (.bl (ns.any (ZQ t)))else .bad
 |_=>.bad
def XC{W:Vw}{H:Hp}{x:V}{t:Tr}(r:Rep K W x t)(f:ye t=true):yg t∈["NoneType","bool","int","str","tuple","list","dict"]/\Qa x=true/\ud K H x (.type (yg t)):=by
 cases r with
 |cA=>exact⟨.head _,rfl,.cA⟩
 |bl b=>exact⟨.tail _ (.head _),rfl,.bl b⟩
 |int i=>exact⟨.tail _ (.tail _ (.head _)),rfl,.int i⟩
 |str z _=>exact⟨.tail _ (.tail _ (.tail _ (.head _))),rfl,.str z⟩
 |_=>cases f
theorem S6:lU X (.builtin "isinstance") QL:=by
 intro U s Z H xs us Q I b ⟨B,ts,hb,r,q⟩;unfold QL at q;split at q
 ·rename_i t cs;obtain⟨az,M,rfl,h1,h2⟩:=zT r;obtain⟨a,vs,rfl,h,rr⟩:=h2.dY;cases e:yv cs with
  |exc c=>exact(Ds e).elim
  |bad=>rw[e]at q;exact fe q
  |ok ns=>
   rw[e]at q;have f:=gM q;have g:=GY e;subst g;have ev:=Dt rr;subst ev;have mem:∀c∈ns,c∈kinds:=λc m=>by
    have:=dH.mp f.1.2 c m;simpa using this
   obtain⟨l,n,tx⟩:=XC (H:=H) h1 f.1.1;refine Ia U s Z H _ us Q I b ⟨_,_,ns,.type (yg t),_,rfl,n,h.up,tx,GZ X.K _ l ns mem,?_⟩;have L:(ns.any λc=>yg t==c||(yg t=="bool"&&c=="int"))=ns.any (ZQ t):=rfl;rw[L];exact f.2 _ H (bg.refl H) (.bl _)
 ·exact fe q
end
theorem yw:∀{xs:List V} {cy:List Value},xs.length=cy.length->(∀(i:Nat) (x:V) (u:Value),xs[i]?=some x->cy[i]?=some u->RelV x u)->Vals xs cy
 |[],[],_,_=>.nil
 |[],_::_,h,_=>by cases h
 |_::_,[],h,_=>by cases h
 |x::xs,u::us,h,k=>.cons (k 0 x u rfl rfl) (yw (by simpa using h) λi y w b g=>k (i+1) y w (by simpa using b) (by simpa using g))
def vm{k:Key}{v:Value}(h:mQ k v=true):RelV (kV k) v:=by
 rcases dS h with⟨j,t,b,g⟩|⟨y,t,b,g⟩
 ·rw[b,g];exact⟨t,rfl⟩
 ·rw[b,g];exact⟨t,rfl⟩
def IS{kvs:List (Key×V)}{vs:List (Key×Value)}(q:KV kvs vs)(hi:ItemsOf (λi v=>∃k x,vs[i]?=some (k,x)/\mQ k v=true) ak vs.length):Vals (kvs.map λp=>kV p.1) ak.toList:=by
 refine yw (by have e:=hi.1;rw[bu,sD q,<-e,gv]) λi x u b l=>?_
 rw[nH]at l;obtain⟨k,y,n,r⟩:=hi.2 i u l;rw[ck]at b;cases g:kvs[i]? with
 |none=>rw[g]at b;cases b
 |some p=>
  rw[g]at b;cases b;obtain⟨z,I⟩:=Bk q (k:=p.1) (v:=p.2) g;rw[I]at n;cases n;exact vm r
section
variable {prog:Program}{vs:List (Key×Value)}{ep:Nat}
theorem Bu{R:List Value->Shared->Prop}(hh:A.handled=none)(hd:(a==sysModules)=false)(hm:s.heap.DictAt (cp prog w) a vs ep)(hn:vs.length<=sizeLine)
  (h:∀(h':Heap) (tk:Nat) (acc:Array Value),ItemsOf (λi v=>∃k x,vs[i]?=some (k,x)/\mQ k v=true) acc vs.length->(∀b o,s.heap.get? b=some o->h'.get? b=some o)->s.heap.objs.size<=h'.objs.size->R acc.toList {s with heap:=h',toks:=tk}):wpAny (model prog w) A (collect (.ref a)) R E s:=by
 have M:a<s.heap.objs.size:=hm.lt_size;unfold collect;refine aT (wpAny_runValue (fY entry_proto_collect' ?_));rw[g9 Cn _];show wpAny _ A.in1 (newList []>>=λl=>again (.builtin "list.__iadd__" ⟨[l,.ref a],[]⟩)) _ _ s;refine aT (kM ?_);refine bf ⟨hV sT _,fY entry_list_iadd' ?_⟩;rw[g9 sT _];have S:(s.heap.push {cls:=.type "list",data:=.seq ([]:List Value).toArray}).get? s.heap.objs.size=some {cls:=.type "list",data:=.seq #[]}:=cz _ rfl;show wpAny _ A.in1 (Builtin.List.listExtendWith (.ref s.heap.objs.size) (.ref a) (.ref s.heap.objs.size)) _ _ _;have key:=PySem.W.kdl_extend (prog:=prog) (A:=A) (s:={s with heap:=s.heap.push {cls:=.type "list",data:=.seq ([]:List Value).toArray}})
  (R:=λ(q:Result) (s':Shared)=>∃(h':Heap) (tk:Nat) (g:Array Value) (r:Nat),q=.ok (.ret (.ref s.heap.objs.size))/\s'={s with heap:=h',toks:=tk}/\
   (∀b o,s.heap.get? b=some o->h'.get? b=some o)/\h'.get? s.heap.objs.size=some {cls:=.type "list",dict:=none,data:=.seq g r,slots:=#[]}/\ItemsOf (λi v=>∃k x,vs[i]?=some (k,x)/\mQ k v=true) g vs.length)
  (PySem.W.kdl_dict (knd:=cp prog w) (kvs:=vs) (ep:=ep) hd) hh (hm.push _) s.heap.objs.size (dQ M) (dQ M) (.ref s.heap.objs.size) 0 S
  (λh' tk g r I n L=>⟨h',tk,g,r,rfl,rfl,λb o e=>I b o (cc (bx e)) (bR _ e),n,L⟩) hn
 refine d_ key (λfin s' x=>?_) λe s' x=>?_
 ·cases fin with
  |done f=>
   obtain⟨h',tk,g,r,e,rfl,I,n,L⟩:=x;cases e;show wpAny _ A (load s.heap.objs.size>>=_) _ _ _;refine aT (pI n ?_);exact bf (h h' tk g L I (dC (bx n)))
  |again c₁=>
   refine⟨x.1,iH x.2 λq ua y=>?_⟩;obtain⟨h',tk,g,r,rfl,rfl,I,n,L⟩:=y;show wpAny _ A (load s.heap.objs.size>>=_) _ _ _;refine aT (pI n ?_);exact bf (h h' tk g L I (dC (bx n)))
 ·obtain⟨_,_,_,_,e',_⟩:=x;cases e'
def Du{ss:List Str}(hh:A.handled=none)(hd:(a==sysModules)=false)(hm:s.heap.DictAt (cp prog w) a vs ep)(hv:vs.map (·.1)=ss.map Sum.inr)(Fc:ss.length<64)
  (h:∀h' tk D out n Ck,(∀b o,s.heap.get? b=some o->h'.get? b=some o)->s.heap.objs.size<=D->h'.get? D=some {cls:=.type "list",data:=.seq out n}->StrsAre out.toList Ck->Ck.Perm ss->sortedS Ck=true->
   Q (.ref D) {s with heap:=h',toks:=tk}):wpAny (model prog w) A (call (.builtin "sorted") [.ref a]) Q E s:=by
 have M:vs.length=ss.length:=by have q:=cX List.length hv;rw[bu,bu]at q;exact q
 have hz:vs.length<=sizeLine:=by rw[dX];omega
 refine call_function_entry kind_sorted plain_sorted entry_sorted (args_sorted1 _) ?_
 unfold Builtin.«sorted»;refine aT (m:=checkCount "sorted" 1 1 _) (bf ?_);refine aT (Bu (A:=A.in1) hh hd hm hz λl tk acc hi hk hle=>?_);have r:StrsAre acc.toList ss:=by
  refine vk (yw (by have e:=hi.1;rw[bu,<-M,<-e,gv]) λi x u g S=>?_);rw[nH]at S;obtain⟨k,y,e3,e4⟩:=hi.2 i u S;have I:(vs.map (·.1))[i]?=some k:=by rw[ck,e3];rfl
  rw[hv,ck]at I;rw[ck]at g;cases e6:ss[i]? with
  |none=>rw[e6]at g;cases g
  |some z=>rw[e6]at g I;cases g;cases I;exact vm e4
 have b9:acc.toList.length=ss.length:=by rw[gv,hi.1,M]
 refine aT (pG ?_ (by rw[b9,dX];omega));have L:(l.push (seqObj "list" acc.toList.toArray 0)).get? l.objs.size=some (seqObj "list" acc.toList.toArray 0):=cz _ rfl;refine aT (fG (g_ slot_list_sort ⟨_,L,rfl⟩ entry_list_sort
  (list_sort_treeK strKind_oneLt L r.keysOf (λaa4 aa5 c9 e=>keyKind_strs (by rw[<-e];exact r)) (by rw[b9];omega) λxF a1 a2=>⟨_,rfl,?_⟩) (args_list_sort _)))
 refine bf ⟨_,rfl,?_⟩;obtain⟨Ck,q1,q2,q3⟩:=sorted_out_str r a1 a2;obtain⟨e,he⟩:=sortedHeap_at (out:=(arrOf xF).map (·.2)) L;refine h _ tk l.objs.size ((arrOf xF).map (·.2)) e Ck (λb o q=>?_) hle he q1 q2 q3;have hb:=hk b o q;have gB:=bx hb;rw[sortedHeap_old (cc gB) (by rw[jD];exact lP gB)];exact bR _ hb
end
section
theorem Ff(hc:X.calm=true):gL X (.type "list") (λxs H Q=>∃(a:Addr) (kvs:List (Key×V)),xs=[.ref a]/\Rd H a (.dK kvs)/\∀D,H D=none->Q (.ref D) (upd H D (.lst (kvs.map λp=>kV p.1)))):=by
 intro U s Z H xs us Q I r h;obtain⟨a,kvs,rfl,ha,q⟩:=h;obtain⟨u,rfl,b⟩:=vals1 r;cases(show u=Value.ref a from b);obtain⟨hz,hs,vs,rv,hm⟩:=(show cZ X.prog X.w H s.heap a (.dK kvs)from ha.ok I.cY);obtain⟨ep,hm⟩:=hm.dictAt;have g:=sD rv;refine PySem.W.kdl_call (PySem.W.kdl_dict (knd:=cp X.prog X.w) (kvs:=vs) (ep:=ep) hs) (I.ok.hd hc) hm (by rw[<-g];exact hz) λh' l n L M S sG=>?_
 have hf:H s.heap.objs.size=none:=I.fresh;exact⟨.ref s.heap.objs.size,_,I.laid (t':=l) (o:=.lst (kvs.map λp=>kV p.1)) M (bz _) ⟨by rw[bu];exact hz,n.toList,L,IS rv sG,by rw[sW];exact S⟩,rfl,q _ hf⟩
theorem Bv(hc:X.calm=true):gL X (.builtin "sorted") (λxs H Q=>∃(a:Addr) (kvs:List (Key×V)) (ss:List Str),xs=[.ref a]/\Rd H a (.dK kvs)/\kvs.map (·.1)=ss.map Sum.inr/\ss.length<64/\∀D,H D=none->Q (.ref D) (upd H D (.lst ((de ss).map V.str)))):=by
 intro U s Z H xs us Q I r h;obtain⟨a,kvs,ss,rfl,ha,b,l,q⟩:=h;obtain⟨u,rfl,L⟩:=vals1 r;cases(show u=Value.ref a from L);obtain⟨hz,hs,vs,rv,hm⟩:=(show cZ X.prog X.w H s.heap a (.dK kvs)from ha.ok I.cY);obtain⟨ep,hm⟩:=hm.dictAt;have M:vs.map (·.1)=ss.map Sum.inr:=by
  rw[<-b];refine o_ λi=>?_
  rw[ck,ck];cases e:kvs[i]? with
  |none=>
   have S:vs[i]?=none:=jm.mpr (by rw[<-sD rv];exact jm.mp e)
   rw[S];rfl
  |some p=>
   obtain⟨z,e6⟩:=Bk rv (k:=p.1) (v:=p.2) e;rw[e6];rfl
 refine Du (I.ok.hd hc) hs hm M l λh' tk D out n Ck b g hg cG hp hs=>?_
 have e:=uA hp hs;subst e;have hf:H D=none:=I.cY.fresh g;have hz:((de ss).map V.str).length<=sizeLine:=by
  rw[bu,(eL ss).length_eq,dX];omega
 exact⟨.ref D,_,I.laid (t':=tk) (o:=.lst ((de ss).map V.str)) b g ⟨hz,out.toList,n,qV cG,by rw[sW];exact hg⟩,rfl,q _ hf⟩
noncomputable def oC:List Tr->Option (List Str)
 |[]=>some []
 |.str z::ts=>(oC ts).map λr=>z::r
 |_=>none
theorem vn{W:Vw}:∀{vs:List V} {ts:List Tr} {ss:List Str},bP K W vs ts->oC ts=some ss->vs=ss.map V.str/\∀z∈ss,z.length<=dc
 |[],[],ss,_,e=>by cases e;exact⟨rfl,λz h=>by cases h⟩
 |[],_::_,_,h,_=>by cases h
 |v::vs,ts,ss,h,e=>by
  cases h with
  |cons h r=>
   cases h with
   |str z hz=>
    rename_i ts;have b:(oC ts).map (λr=>z::r)=some ss:=e;cases q:oC ts with
    |none=>rw[q]at b;cases b
    |some rs=>
     rw[q]at b;cases b;obtain⟨l,h2⟩:=vn r q;exact⟨by rw[l];rfl,λy g=>by
      rcases bG.mp g with rfl|g
      ·exact hz
      ·exact h2 y g⟩
   |_=>cases e
def vO:List (Key×Tr)->Option (List Str)
 |[]=>some []
 |(.inr z,_)::ts=>if z.length<=dc then(vO ts).map λr=>z::r else none
 |_=>none
theorem Dv:∀{bC:List (Key×Tr)} {ss:List Str},vO bC=some ss->bC.map (·.1)=ss.map Sum.inr/\∀z∈ss,z.length<=dc
 |[],ss,e=>by cases e;exact⟨rfl,λz h=>by cases h⟩
 |(.inl _,_)::_,_,e=>by cases e
 |(.inr z,t)::ts,ss,e=>by
  have b:(if z.length<=dc then(vO ts).map λr=>z::r else none)=some ss:=e;by_cases hz:z.length<=dc
  ·rw[aW hz]at b;cases q:vO ts with
   |none=>rw[q]at b;cases b
   |some rs=>
    rw[q]at b;cases b;obtain⟨h1,h2⟩:=Dv q;exact⟨by rw[bO,bO,h1],λy g=>by
     rcases bG.mp g with rfl|g
     ·exact hz
     ·exact h2 y g⟩
  ·rw[bc hz]at b;cases b
def Ag(o:Option (List Str)):Rs Tr:=match o with
 |some ss=>if ss.length<64 then .ok (.lst ((de ss).map .str))else .bad
 |none=>.bad
def nT:List Tr->Rs Tr
 |[.lst ts]=>Ag (oC ts)
 |[.bX bC]=>Ag (vO bC)
 |_=>.bad
def yx{W:Vw}(h:∀z∈ps,z.length<=dc):bP K W ((de ps).map V.str) ((de ps).map Tr.str):=zS λz hz=>h z ((eL ps).mem_iff.mp hz)
def Ah{o:Option (List Str)}(q:Fi X H (Ag o) aB):∃ss,o=some ss/\ss.length<64/\aB (.lst ((de ss).map .str)):=by
 unfold Ag at q;split at q
 ·have f:=gM q;exact⟨_,rfl,f.1,f.2⟩
 ·exact q.elim
theorem jK(hc:X.calm=true):lU X (.builtin "sorted") nT:=by
 intro U s Z H xs us Q I n ⟨B,ts,hb,r,q⟩;unfold nT at q;split at q
 ·obtain⟨x,rfl,b⟩:=gg r;obtain⟨a,vs,rfl,h,rr⟩:=b.lst_inv;obtain⟨ss,g,l,k⟩:=Ah q;obtain⟨rfl,hs⟩:=vn rr g;exact Bq U s Z H _ us Q I n ⟨_,ss,rfl,.of (eB h),l,λp hp=>k _ _ (bg.upd hp) (.zt hb hp (yx hs))⟩
 ·obtain⟨x,rfl,b⟩:=gg r;obtain⟨a,kvs,rfl,h,L,rr⟩:=b.nO;obtain⟨ss,g,l,k⟩:=Ah q;obtain⟨M,hs⟩:=Dv g;exact Bv hc U s Z H _ us Q I n ⟨_,_,ss,rfl,h.same bI,L.trans M,l,λp hp=>k _ _ (bg.upd hp) (.zt hb hp (yx hs))⟩
 ·exact q.elim
def Fg:List Tr->Rs Tr
 |[.bX bC]=>(De bC).bind λts=>.ok (.lst ts)
 |_=>.bad
theorem Dw{W:Vw}:∀{kvs:List (Key×V)} {bC:List (Key×Tr)},kvs.map (·.1)=bC.map (·.1)->bC.all (λp=>keyOk p.1)=true->bP K W (kvs.map λp=>kV p.1) (bC.map λp=>Aa p.1)
 |[],[],_,_=>.nil
 |[],_::_,e,_=>by cases e
 |_::_,[],e,_=>by cases e
 |(k1,v)::kvs,(k2,t)::bC,e,h=>by
  rw[bO,bO]at e;injection e with b g
  have l:k1=k2:=b;subst l;rw[iG,bW]at h;exact .cons (Ac h.1) (Dw g h.2)
theorem OB(hc:X.calm=true):lU X (.type "list") Fg:=by
 intro U s Z H xs us Q I b ⟨B,ts,hb,r,q⟩;unfold Fg at q;split at q
 ·obtain⟨x,rfl,g⟩:=gg r;obtain⟨a,kvs,rfl,h,l,rr⟩:=g.nO;have f:=gM (Fi.bind q);exact Ff hc U s Z H _ us Q I b ⟨_,_,rfl,h.same bI,λp hp=>f.2 _ _ (bg.upd hp) (.zt hb hp (Dw l f.1))⟩
 ·exact q.elim
def p_:Tr->Rs Tr
 |.lst ts=>match oC ts with
  |some ss=>if ss.length<64 then .ok (.lst ((de (eQ [] ss)).map .str))else .bad
  |none=>.bad
 |_=>.bad
variable {l:Expr}{p1 p2 XD XF:Pos}
end
def wj(ts:List Tr)(x:Tr):Rs Tr:=if sk x=true/\ts.all ye=true then(match ts.findIdx? (λy=>eqT y x)with|some j=>.ok (.int j)|none=>.bad)else .bad
def OC(ts:List Tr)(x:Tr):Rs Tr:=if sk x=true/\ts.all ye=true then .ok (.int (ts.countP λy=>eqT y x:Nat))else .bad
theorem G0{W:Vw}{x:Tr}:∀{vs:List V} {ts:List Tr} {us:List Value},bP K W vs ts->ts.all ye=true->Vals vs us->us.map (eU x)=ts.map λy=>eqT y x
 |[],_,_,r,_,rv=>by cases r;cases rv;rfl
 |_::_,_,_,r,f,rv=>by
  cases r with
  |cons h r=>
   cases rv with
   |cons b rv=>
    rw[iG,bW]at f;rw[bO,bO,EY h f.1 b,G0 r f.2 rv]
theorem G1{x:Tr}{j:Nat}(e:aq.map (eU x)=ts.map λy=>eqT y x)(h:ts.findIdx? (λy=>eqT y x)=some j):∃hj:j<aq.length,eU x aq[j]=true/\∀m (hm:m<aq.length),m<j->eU x aq[m]=false:=by
 obtain⟨hj,h1,h2⟩:=Cm.mp h;have b:aq.length=ts.length:=by have q:=cX List.length e;rw[bu,bu]at q;exact q
 have at_:∀(i:Nat) (h1:i<aq.length) (h2:i<ts.length),eU x aq[i]=eqT ts[i] x:=λi h1 h2=>by
  have q:=cX (λl:List Bool=>l[i]?) e;simp only[ck,bY h1,bY h2]at q;exact Option.some.inj q
 refine⟨by rw[b];exact hj,by rw[at_ j _ hj];exact h1,λm hm g=>?_⟩;rw[at_ m hm (by rw[<-b];exact hm)];have q:=h2 m g;cases z:eqT ts[m] x with
 |false=>rfl
 |true=>exact absurd z q
def Dx{x:Tr}(q:Fi X H (wj ts x) aB):sk x=true/\ts.all ye=true/\∃j:Nat,ts.findIdx? (λy=>eqT y x)=some j/\aB (.int j):=by
 unfold wj at q;by_cases z:sk x=true/\ts.all ye=true
 ·rw[aW z]at q;cases e:ts.findIdx? (λy=>eqT y x)with
  |none=>rw[e]at q;exact fe q
  |some j=>rw[e]at q;exact⟨z.1,z.2,j,rfl,q⟩
 ·rw[bc z]at q;exact fe q
def Le{x:Tr}(q:Fi X H (OC ts x) aB):sk x=true/\ts.all ye=true/\aB (.int (ts.countP λy=>eqT y x:Nat)):=by
 unfold OC at q;by_cases z:sk x=true/\ts.all ye=true
 ·rw[aW z]at q;exact⟨z.1,z.2,q⟩
 ·rw[bc z]at q;exact fe q
theorem count_at{x:Tr}(e:aq.map (eU x)=ts.map λy=>eqT y x):aq.countP (eU x)=ts.countP λy=>eqT y x:=by
 have a:aq.countP (eU x)=(aq.map (eU x)).countP id:=by rw[List.countP_map];rfl
 have b:(ts.countP λy=>eqT y x)=(ts.map λy=>eqT y x).countP id:=by rw[List.countP_map];rfl
 rw[a,b,e]
section
def S7{W:Vw}{v:V}{rL:Addr->Option Nat}{Q:VK}(hu:X.A.units+1<cLine)(I:Inv X U Z H s)(h:js X.K H a ar)(r:bP X.K (⟨H,rL⟩:Vw) ar ts)(rx:Rep X.K (⟨H,rL⟩:Vw) v aC)(ru:RelV v af)(q:Fi X H (wj ts aC) aB)(hk:∀j:Nat,aB (.int j)->Q (.int j) H):
  wpAny (model X.prog X.w) X.A (call (.builtin "tuple.index") [.ref a,af]) (EP X U Z Q) X.xe s:=by
 obtain⟨p1,p2,j,e,q⟩:=Dx q;obtain⟨cy,rv,pl,hz⟩:=I.tuple h
 ·obtain⟨l,h1,h2⟩:=G1 (G0 r p2 rv) e;obtain⟨⟨cls,dd,data,sl⟩,b,g,n,hd⟩:=(show s.heap.IsTuple a cy.toArray from pl);simp only at g hd;subst g hd;refine kT wW ⟨_,b,rfl⟩ PySem.F.entry_tuple_index (PySem.F.args_tuple_index_2 _ _) (SeqAt.zh a cy.toArray n dd sl af (eU aC) j (by simpa using l) (by simpa using h1) λm hm L=>by simpa using h2 m (by simpa using hm) L) ⟨b,λy M=>pX I (A:=X.A.in1) hu rx p1 ru r p2 rv y (by simpa using M),?_⟩;exact⟨.int j,H,I.tok _,⟨_,rfl⟩,hk j q⟩
theorem S8{v:V}{rL:Addr->Option Nat}{Q:VK}(hu:X.A.units+1<cLine)(I:Inv X U Z H s)(h:lR X.K H a ar)(r:bP X.K (⟨H,rL⟩:Vw) ar ts)(rx:Rep X.K (⟨H,rL⟩:Vw) v aC)(ru:RelV v af)(q:Fi X H (wj ts aC) aB)(hk:∀j:Nat,aB (.int j)->Q (.int j) H):
  wpAny (model X.prog X.w) X.A (call (.builtin "list.index") [.ref a,af]) (EP X U Z Q) X.xe s:=by
 obtain⟨p1,p2,j,e,q⟩:=Dx q;obtain⟨cy,rv,pl,hz⟩:=I.list h
 ·obtain⟨l,h1,h2⟩:=G1 (G0 r p2 rv) e;have hs:(j:Int)<2 ^63 - 1:=by
   have:=rv.length;rw[dX]at hz;omega
  obtain⟨⟨cls,dd,data,sl⟩,n,b,g,L,hd⟩:=id pl;simp only at g hd L;have M:=hd;subst g;subst M;refine kT PySem.F.slot_list_index ⟨_,b,rfl⟩ PySem.F.entry_list_index (PySem.F.args_list_index_2 _ _) (SeqAt.list_indexAt a cy.toArray n dd sl af (eU aC) j (by simpa using l) hs (by simpa using h1) λm hm S=>by simpa using h2 m (by simpa using hm) S) ⟨b,λy hy=>pX I (A:=X.A.in1) hu rx p1 ru r p2 rv y (by simpa using hy),?_⟩;exact⟨.int j,H,I.tok _,⟨_,rfl⟩,hk j q⟩
theorem S9{v:V}{rL:Addr->Option Nat}{Q:VK}(hu:X.A.units+1<cLine)(I:Inv X U Z H s)(h:lR X.K H a ar)(r:bP X.K (⟨H,rL⟩:Vw) ar ts)(rx:Rep X.K (⟨H,rL⟩:Vw) v aC)(ru:RelV v af)(q:Fi X H (OC ts aC) aB)(hk:∀j:Nat,aB (.int j)->Q (.int j) H):
  wpAny (model X.prog X.w) X.A (call (.builtin "list.count") [.ref a,af]) (EP X U Z Q) X.xe s:=by
 obtain⟨p1,p2,q⟩:=Le q;obtain⟨cy,rv,pl,hz⟩:=I.list h;rw[<-count_at (G0 r p2 rv)]at q;obtain⟨⟨cls,dd,data,sl⟩,n,b,g,l,hd⟩:=id pl;simp only at g hd l;have L:=hd;subst g;subst L;refine kT PySem.F.slot_list_count ⟨_,b,rfl⟩ PySem.F.entry_list_count (PySem.F.args_list_count_2 _ _) (SeqAt.list_countAt a cy.toArray n dd sl af (eU aC)) ⟨b,λy M=>pX I (A:=X.A.in1) hu rx p1 ru r p2 rv y (by simpa using M),?_⟩;exact⟨.int (cy.countP (eU aC):Nat),H,I.tok _,⟨_,rfl⟩,hk _ q⟩
variable {es:List Expr}{abW dM:Pos}
def lmR(h:List Tr->Tr->Rs Tr)(r:Rs Tr)(a:Rs Tr):Rs Tr:=r.bind λt=>match t with
 |.lst ts=>a.bind λx=>h ts x
 |_=>.bad
inductive XJ(X:Cx)(h:List Tr->Tr->Rs Tr)(x:V)(xs:List V)(H:Hp)(Q:VK):Prop
 |mk (B:fh) (ts:List Tr) (y:V) (ty:Tr):HB B H->Rep X.K (cj B H) x (.lst ts)->xs=[y]->Rep X.K (cj B H) y ty->(Fi X H (h ts ty) fun t=>∀v H',bg H H'->Rep X.K (cj B H') v t->Q v H')->XJ X h x xs H Q
theorem S_(hu:X.A.units+1<cLine):RH X "list.index" (XJ X wj):=by
 intro U s Z H x xs v us Q I b g ⟨B,ts,y,ty,hb,r,e,l,q⟩;subst e;obtain⟨u,rfl,n⟩:=vals1 g;cases r with
 |lst h L=>
  cases b;exact S8 (rL:=B.ix) hu I (.of (eB h)) (L.same fH) (l.same fH) n q λj z=>z _ H (bg.refl H) (.int _)
theorem Ta(hu:X.A.units+1<cLine):RH X "list.count" (XJ X OC):=by
 intro U s Z H x xs v us Q I b g ⟨B,ts,y,ty,hb,r,e,l,q⟩;subst e;obtain⟨u,rfl,n⟩:=vals1 g;cases r with
 |lst h L=>
  cases b;exact S9 (rL:=B.ix) hu I (.of (eB h)) (L.same fH) (l.same fH) n q λj z=>z _ H (bg.refl H) (.int _)
theorem aa8{h:List Tr->Tr->Rs Tr}(slot:Slot "list" av ay)(NB:typeOf (.builtin ay)=pure (.type "method_descriptor"))(hm:RH X ay (XJ X h))(ho:PE X o (tP X F))(he:PE X e (tP X G))(pa:PlainAttrs "list":=by exact sS)
  (pO:isCall o=false:=by rfl) (cG:bA [e]=true:=by rfl) (gb:(b8.endLine==dM.line)=true:=by rfl):
  PE X (.Call (.Attribute o av b8) [e] [] dM) (tP X λY=>lmR h (F Y) (G Y)):=
 (Gd pa slot NB hm ho (A_ he Gq (bq cG).1) (gD pO) (by rw[jH cG];rfl) gb (bL _ _ (bq cG).1) (cR (bq cG).2)).weak λZ H Q ⟨B,Y,hb,r,q⟩=>⟨B,Y,hb,r,q.bind.mono λt g v H1 s1 I=>by
  split at g
  ·rename_i ts;obtain⟨a,vs,rfl,l,rr⟩:=I.lst_inv;refine⟨.inl ⟨rfl,vs,.of (eB l)⟩,B,Y,hb.same s1,r.same s1,?_⟩;have b:=(Fi.bind g).same s1;refine Fi.mono (r:=x_ (G Y) (.ok [])) (k:=λzs=>∃x,zs=[x]/\Fi X H (h ts x) λt=>∀v H',bg H H'->Rep X.K (cj B H') v t->Q v H') ?_ λzs ⟨x,L,M⟩ ws H2 s2 S=>?_
   ·cases n:G Y with
    |ok x=>rw[n]at b;exact⟨x,rfl,b⟩
    |_=>rw[n]at b;exact b
   ·subst L;obtain⟨y,rfl,ry⟩:=gg S;exact⟨B,ts,_,x,hb.same (s1.trans s2),.lst ((bJ s2).h _ _ l) (rr.same (bJ s2)),rfl,ry,(M.same (s1.trans s2)).mono λt k v H3 s3 r3=>k v H3 ((s1.trans s2).trans s3) r3⟩
  ·exact g.elim⟩
end
structure Lf(K:Frag)(mg:Str->Option Value)(x:Str)(ts:List Tr):Prop where
 g:Wk K mg x (.tup ts)
 nd:∃a o,mg x=some (.ref a)/\K.lookup a=some o/\o.cls=.type "tuple"/\o.dict=none
section
variable {es:List Expr}{dM:Pos}
inductive rTI(X:Cx)(x:V)(xs:List V)(H:Hp)(Q:VK):Prop
 |mk (B:fh) (ts:List Tr) (y:V) (ty:Tr):HB B H->Rep X.K (cj B H) x (.tup ts)->xs=[y]->Rep X.K (cj B H) y ty->(Fi X H (wj ts ty) fun t=>∀v H',bg H H'->Rep X.K (cj B H') v t->Q v H')->rTI X x xs H Q
theorem Lg(hu:X.A.units+1<cLine):RH X "tuple.index" (rTI X):=by
 intro U s Z H x xs v us Q I b g ⟨B,ts,y,ty,hb,r,e,l,q⟩;subst e;obtain⟨u,rfl,n⟩:=vals1 g;cases r with
 |tup h L=>
  cases b;exact S7 (W:=cj B H) (rL:=B.ix) hu I (bg.tup bI h) (L.same fH) (l.same fH) n q λj z=>z _ H (bg.refl H) (.int _)
def XM{B:fh}{Y:bV}(s1:bg H ac)(q:Fi X H (G Y) aB):Fi X ac (x_ (G Y) (.ok [])) λzs=>∃x,zs=[x]/\aB x:=by
 have b:=Fi.same q s1;cases g:G Y with
 |ok x=>rw[g]at b;exact⟨x,rfl,b⟩
 |_=>rw[g]at b;exact b
theorem XN(hu:X.A.units+1<cLine)(g:Lf X.K X.mg x ts)(he:PE X e (tP X G))(hg:Gl X x:=by rfl) (hd:Db x:=by decide) (cG:bA [e]=true:=by rfl) (gb:(b8.endLine==dM.line)=true:=by rfl):
  PE X (.Call (.Attribute (.Name x p) "index" b8) [e] [] dM) (tP X λY=>(G Y).bind (wj ts)):=by
 obtain⟨⟨v,u,hm,r,l⟩,a,ob,b,n,I,hn⟩:=g;rw[hm]at b;cases b;obtain⟨a',_,rfl,_⟩:=(l ⟨λ_=>none,λ_=>none⟩).dY;cases r;refine(Gd PySem.F.plainAttrs_tuple wW PySem.F.type_tuple_index (Lg hu) (AS (v:=.ref a) hg hm rfl hd) (A_ he Gq (bq cG).1) (gD rfl) (by rw[jH cG];rfl) gb (bL _ _ (bq cG).1) (cR (bq cG).2)).weak λZ H Q ⟨B,Y,hb,r,q⟩=>?_
 refine⟨.inr (.inl ⟨rfl,ob,n,I,hn⟩),B,Y,hb,r,(XM (B:=B) (bg.refl H) (Fi.bind q)).mono λzs ⟨x,L,M⟩ ws H2 s2 S=>?_⟩;subst L;obtain⟨y,rfl,ry⟩:=gg S;exact⟨B,ts,_,x,hb.same s2,l _,rfl,ry,(Fi.same M s2).mono λt k v H3 s3 r3=>k v H3 (s2.trans s3) r3⟩
theorem XO{x1}(hu:X.A.units+1<cLine)(ht:PA X es (CM X L))(he:PE X e (tP X G))(cG:bA [e]=true:=by rfl) (gb:(b8.endLine==dM.line)=true:=by rfl):
  PE X (.Call (.Attribute (.Tuple es x1 pos) "index" b8) [e] [] dM) (tP X λY=>(L Y).bind λts=>if ts.length<=ee then(G Y).bind (wj ts)else .bad):=by
 intro U s Z H Q I ⟨B,Y,hb,r,q⟩;refine wpAny_Call_method_late (gD rfl) (by rw[jH cG];rfl) gb rfl (wpAny_Tuple_spliced (eK (ht pos U s Z H _ I ⟨B,Y,hb,r,q.bind.mono λts g vs H1 s1 r1=>(⟨ts,g,s1,r1⟩:∃ts,Fi X H (if ts.length<=ee then(G Y).bind (wj ts)else .bad) _/\bg H H1/\bP X.K (cj B H1) vs ts)⟩) λus s1 ⟨xs,H1,S,rv,ts,g,sm,r1⟩=>?_));by_cases hz:ts.length<=ee
 ·rw[aW hz]at g;have ZZ:us.length<=sizeLine:=by rw[<-rv.length,r1.length,<-i_];exact hz
  refine⟨ZZ,?_⟩;have hf:H1 s1.heap.objs.size=none:=S.cY.fresh (bz _);have l:=cz s1.heap (o:={cls:=.type "tuple",data:=.seq us.toArray}) rfl;have I2:Inv X U Z (upd H1 s1.heap.objs.size (.tup xs)) {s1 with heap:=s1.heap.push {cls:=.type "tuple",data:=.seq us.toArray}}:=S.laid (t':=s1.toks) (λb u e=>bR _ e) (bz _) ⟨by rw[rv.length];exact ZZ,us,rv,⟨_,l,rfl,_,rfl⟩⟩;have s2:bg H (upd H1 s1.heap.objs.size (.tup xs)):=sm.trans (bg.upd hf);have rt:Rep X.K (cj B (upd H1 s1.heap.objs.size (.tup xs))) (.ref s1.heap.objs.size) (.tup ts):=.tup (.inl (.inl ((hb.same sm).new hf))) (r1.same (bJ (bg.upd hf)));refine⟨"tuple","tuple.index",PySem.F.plainAttrs_tuple,wW,PySem.F.type_tuple_index,⟨_,l,rfl⟩,λa ea=>by cases ea;exact⟨_,l,rfl⟩,?_⟩;have hA:=(A_ he Gq (bq cG).1) dM U _ Z _ (λvs H3=>rTI X (.ref s1.heap.objs.size) vs H3 Q) I2 ⟨B,Y,hb.same s2,r.same s2,(XM (B:=B) s2 (Fi.bind g)).mono λzs ⟨x,ez,qx⟩ ws H3 s3 r3=>by
   subst ez;obtain⟨y,rfl,ry⟩:=gg r3;exact⟨B,ts,_,x,hb.same (s2.trans s3),rt.same (bJ s3),rfl,ry,(Fi.same qx (s2.trans s3)).mono λt k v n s4 M=>k v n ((s2.trans s3).trans s4) M⟩⟩
  rw[bL _ _ (bq cG).1]at hA⊢;refine nF (by show(false||(backTo dM (starEach [] X.env)).any (·.1))=false;rw[cR (es:=[]) rfl];rfl) (nJ ?_);exact eK hA λus s4 ⟨vs,n,I4,M,q4⟩=>Lg hu U s4 Z n (.ref s1.heap.objs.size) vs _ us Q I4 rfl M q4
 ·rw[bc hz]at g;exact fe g
noncomputable def XQ:List Tr->Rs Tr
 |[.int i]=>.ok (.int i)
 |[.bl b]=>.ok (.int (if b then 1 else 0))
 |_=>.bad
theorem XR:lU X (.type "int") XQ:=by
 intro U s Z H xs us Q I b ⟨B,ts,hb,r,q⟩;unfold XQ at q;split at q
 ·obtain⟨x,e,r⟩:=gg r;exact zJ U s Z H _ us Q I b (.inl ⟨_,by rw[e,r.int_inv],q _ H (bg.refl H) (.int _)⟩)
 ·obtain⟨x,e,r⟩:=gg r;exact zJ U s Z H _ us Q I b (.inr ⟨_,by rw[e,r.x8],q _ H (bg.refl H) (.int _)⟩)
 ·exact q.elim
variable {c m:Str}{st:Stmt}{f:Addr}{fd:FuncData}{k:Nat}
end
structure MethAt(K:Frag)(c m:Str)(st:Stmt)(ps:List Str)(f:Addr)(fd:FuncData):Prop where
 fn:∃qual,zg K m qual st f fd
 bd:Binds K fd ps []
 mt:Meth K (clsAt K c) m f
 cl:EC K (clsAt K c)
def En(fs:List (Str×Tr))(m:Str):Bool:=(fs.lookup m).isNone
theorem nU{W:Vw}(f:Str):∀{iu:List (Str×V)} {fs:List (Str×Tr)},iu.map (·.1)=fs.map (·.1)->bP K W (iu.map (·.2)) (fs.map (·.2))->(fs.lookup f=none/\iu.lookup f=none)\/∃t v,fs.lookup f=some t/\iu.lookup f=some v/\Rep K W v t
 |[],[],_,_=>.inl ⟨rfl,rfl⟩
 |[],_::_,e,_=>by cases e
 |_::_,[],e,_=>by cases e
 |(k1,v1)::iu,(k2,b)::fs,e,r=>by
  rw[bO,bO]at e;injection e with g l
  have n:k1=k2:=g;subst n;cases r with
  |cons I r=>
   by_cases z:f=k1
   ·subst z;exact .inr ⟨b,v1,by rw[cN,bU],by rw[cN,bU],I⟩
   ·rw[cN,kn z,cN,kn z];exact nU f l r
section
variable {dM:Pos}{m:Str}{fd:FuncData}{k:Nat}
def vP(av m:Str)(h:List Tr->Rs Tr)(r:Rs Tr)(l:Rs (List Tr)):Rs Tr:=r.bind λt=>match t with
 |.ob x fs=>if x=av/\En fs m=true then l.bind λts=>h (.ob x fs::ts)else .bad
 |_=>.bad
def Bw{W:Vw}{iu:List (Str×V)}(e:iu.map (·.1)=bC.map (·.1))(r:bP K W (iu.map (·.2)) (bC.map (·.2)))(hm:En bC m=true):iu.lookup m=none:=by
 rcases nU m e r with⟨_,z⟩|⟨t,v,z,_⟩
 ·exact z
 ·unfold En at hm;rw[z]at hm;cases hm
theorem Tb(D:MethAt X.K av m ai ps au fd)(G:eI X.prog X.w X.K X.mg X.base mw k au fd ps (spT X.K h))(hr:di k X.A)(ho:PE X o (tP X F))(ha:PA X (e::aA) (CM X L)){pl:Sem Bool}(cG:bA (e::aA)=true:=by rfl)
  (ht:eval (.Call (.Attribute o m b8) (e::aA) [] pos) X.env=t7 pos b8 o m (e::aA) X.env pl:=by rfl):PE X (.Call (.Attribute o m b8) (e::aA) [] pos) (tP X λY=>vP av m h (F Y) (L Y)):=
 (Ga (pl:=pl) ho D.cl D.mt G hr D.bd .nil Kk ha (cG:=bL _ _ (bq cG).1) (oO:=cR (bq cG).2) ht).weak λZ H Q ⟨B,Y,hb,r,q⟩=>⟨B,Y,hb,r,q.bind.mono λt g v H1 s1 I=>by
  split at g
  ·rename_i x fs;obtain⟨a,dx,iu,rfl,l,n,rr⟩:=I.A9;split at g
   ·rename_i z;obtain⟨rfl,hm⟩:=z;refine⟨a,dx,iu,rfl,eB l,Bw n rr hm,B,Y,hb.same s1,r.same s1,(Fi.same (Fi.bind g) s1).mono λts b vs H2 s2 M=>?_⟩;cases e:h (.ob x fs::ts)with
    |ok t=>
     rw[e]at b;exact⟨B,.ob x fs::ts,hb.same (s1.trans s2),by
      show bP X.K (cj B H2) (V.ref a::(vs++[])) (.ob x fs::ts);rw[kl];exact .cons ((Rep.ob l n rr).same (bJ s2)) M,t,e,λv S s3 r3=>b v S ((s1.trans s2).trans s3) r3⟩
    |exc av=>rw[e]at b;exact(b _ (bg.refl _)).elim
    |bad=>rw[e]at b;exact fe b
   ·exact g.elim
  ·exact g.elim⟩
theorem OD(D:MethAt X.K av m ai ps au fd)(G:eI X.prog X.w X.K X.mg X.base mw k au fd ps (spT X.K h))(hr:di k X.A)(ho:PE X o (tP X F)){pl:Sem Bool}
  (ht:eval (.Call (.Attribute o m b8) [] [] pos) X.env=t7 pos b8 o m [] X.env pl:=by rfl):PE X (.Call (.Attribute o m b8) [] [] pos) (tP X λY=>vP av m h (F Y) (.ok [])):=
 (Cz (pl:=pl) ho D.cl D.mt G hr D.bd .nil Kk ht).weak λZ H Q ⟨B,Y,hb,r,q⟩=>⟨B,Y,hb,r,q.bind.mono λt g v H1 s1 I=>by
  split at g
  ·rename_i x fs;obtain⟨a,dx,iu,rfl,l,n,rr⟩:=I.A9;split at g
   ·rename_i z;have b:Fi X H (h [.ob x fs]) _:=g;obtain⟨rfl,hm⟩:=z;refine⟨a,dx,iu,rfl,eB l,Bw n rr hm,?_⟩;cases e:h [.ob x fs]with
    |ok t=>
     rw[e]at b;exact⟨B,[.ob x fs],hb.same s1,.cons (.ob l n rr) .nil,t,e,λv L s3 M=>b v L (s1.trans s3) M⟩
    |exc av=>rw[e]at b;exact(b _ (bg.refl _)).elim
    |bad=>rw[e]at b;exact fe b
   ·exact g.elim
  ·exact g.elim⟩
end
def xcZ(K:Frag)(B:fh)(H:Hp)(E:XK):Tr->Ab->Prop:=λc A=>∀B' H',Grows B H B' H'->HA K B' A H'->E (WX K c) none H'
inductive vQ(K:Frag)(f:List Tr->Ab->Rz Tr)(vs:List V)(H:Hp)(Q:VK)(E:XK):Prop
 |mk (B:fh) (A:Ab) (ts:List Tr):HA K B A H->bP K (cj B H) vs ts->(gZ (xcZ K B H E) (f ts A) fun t A'=>∀v B' H',Grows B H B' H'->HA K B' A' H'->Rep K (cj B' H') v t->Q v H')->vQ K f vs H Q E
theorem eI.toZ {base:Heap}{k:Nat}{f:Addr}{fd:FuncData}(F:eI P w K mg base mw k f fd ps (spT K h)):eI P w K mg base (vf P w) k f fd ps (vQ K λts A=>gO (h ts) A):=by
 have key:∀{vs:List V} {H:Hp} {Q:VK} {E:XK},vQ K (λts A=>gO (h ts) A) vs H Q E->∀E',spT K h vs H Q E':=λ{vs H Q E} ⟨B,A,ts,ha,r,q⟩ E'=>by
  have q:gZ (xcZ K B H E) (gO (h ts) A) _:=q;cases e:h ts with
  |ok t=>rw[e]at q;exact⟨B,ts,ha.hb,r,t,e,λv H' s b=>q v B H' (.of s) (ha.same s) b⟩
  |_=>rw[e]at q;exact fe q
 refine⟨λvs H Q E q=>F.len vs H Q E (key q E),λA outer s H args us vs Q E g l hb n q=>?_⟩;refine iH (F.run A outer s H args us vs Q E g l hb n (key q E)) λr s' z=>?_
 cases r with
 |error e=>exact fe z
 |ok fl=>
  cases fl with
  |_=>exact z
def cE(r:Rz Out):Rz Tr:=r.bind λo A=>match o with
 |.nx _=>.ok .cA A
 |.ret t=>.ok t A
 |_=>.bad
def zg.okS {base:Heap}{qual:Str}{st:Stmt}{f:Addr}{fd:FuncData}{N:List Str}{k:Nat}{h:List Tr->Ab->Rz Tr}(Fn:zg K x qual st f fd)(S:hW N ps (bH st))(len:∀ts A,h ts A≠ .bad->ts.length=ps.length)
  (kW:∀(f_:Value) (A:Around) (outer:List Env) (s:Shared) (H:Hp) (E:XK),di k (A.deeper (envOfC qual (bH st) s.heap.objs.size f f_))->
   ∃G,oU (oP (vf P w) P w K mg base N qual (bH st) f f_ A outer s H E) (fZ st) (tZ (oP (vf P w) P w K mg base N qual (bH st) f f_ A outer s H E) G)/\∀ts A,h ts A≠ .bad->h ts A=cE (G (startT N.length ts) A)):eI P w K mg base (vf P w) (k+1) f fd ps (vQ K h):=by
 obtain⟨oc,od,kV,doc,pm,an,f_,ct,J9,rfl,lk,n⟩:=Fn.ex;have nb:∀{B:fh} {A:Ab} {H:Hp} {E:XK} {ts:List Tr} {k:Tr->Ab->Prop},gZ (xcZ K B H E) (h ts A) k->h ts A≠ .bad:=λ{B A H E ts k} q z=>by rw[z]at q;exact q
 refine P9 lk n S (λvs H Q E ⟨B,A,ts,ha,r,q⟩=>by rw[r.length];exact len ts A (nb q)) λA outer s H vs Q E I ⟨B,A1,ts,ha,r,q⟩=>?_
 obtain⟨G,L,M⟩:=kW f_ A outer s H E I;refine⟨_,L,B,H,B,A1,startT N.length ts,ha.hb,.refl,ha,cI.start r,yk,?_⟩;rw[M ts A1 (nb q)]at q;refine(gZ.bind q).imp (λc A2 z B' H' g b e s x=>KH x (z B' H' g b))|>.mono λo A2 z=>?_
 cases o with
 |nx Y=>exact λdF B' H' g b l n'=>z .cA B' H' g b .cA
 |ret t=>exact λv B' H' g b l=>z v B' H' g b l
 |_=>exact fe z
def fk(n m:Nat)(G:bV->Ab->Rz Out)(ts:List Tr)(A:Ab):Rz Tr:=if ts.length=n then cE (G (startT m ts) A)else .bad
def Dy{n:Nat}{A:Ab}(h:fk n i aK ts A≠ .bad):ts.length=n:=by
 unfold fk at h;by_cases z:ts.length=n
 ·exact z
 ·rw[bc z]at h;exact absurd rfl h
def OE{A:Ab}(h:fk i az aK ts A≠ .bad):fk i az aK ts A=cE (aK (startT az ts) A):=by
 unfold fk;rw[aW (Dy h)]
section
variable {h:List Tr->Ab->Rz Tr}{fd:FuncData}{k:Nat}
def Fh{B1:fh}{A1:Ab}{Q:VK}(hb:HB B H)(g:Grows B H B1 ac)(ha:HA X.K B1 A1 ac)(r:bP X.K (cj B1 ac) ar ts)(q:gZ (XE X B H) (h ts A1) λt A'=>∀v B' H',Grows B H B' H'->HA X.K B' A' H'->Rep X.K (cj B' H') v t->Q v H'):vQ X.K h ar ac Q (EX X):=
 ⟨B1,A1,ts,ha,r,(q.imp λc A' z=>z.grow hb g).mono λt A' z v B' H' g' b l=>z v B' H' (g.trans hb g') b l⟩
theorem XT(D:zQ X.K X.mg x ai ps au fd)(G:eI X.prog X.w X.K X.mg X.base (vf X.prog X.w) k au fd ps (vQ X.K h))(hr:di k X.A)(ha:PA X (e::aA) (M6 X aH))(hx:X.ex=[]:=by rfl) (hg:Gl X x:=by rfl) (fM:Db x:=by decide) (cG:bA (e::aA)=true:=by rfl):
  PE X (.Call (.Name x p) (e::aA) [] pos) (tE X λY A=>(aH Y A).bind h):=
 (F_ (p:=p) (pos:=pos) G hr hg D.mg D.fn.kp D.bd .nil (m3 hx) ha (fM:=fM) (he:=bL _ _ (bq cG).1) (oO:=cR (bq cG).2)).weak λZ H Q ⟨B,A,Y,ha,r,n,q⟩=>⟨B,A,Y,ha,r,n,q.bind.mono λts A1 b vs B1 H1 g1 g l=>by
  show vQ X.K h (vs++[]) H1 Q (EX X);rw[kl];exact Fh ha.hb g1 g l b⟩
variable {c m:Str}
def rO(c m:Str)(h:List Tr->Ab->Rz Tr)(r:Rz Tr)(l:Ab->Rz (List Tr)):Rz Tr:=r.bind λt A=>match t with
 |.at i=>match A[i]? with
  |some (.ins x fs)=>if x=c/\En fs m=true then(l A).bind λts A=>h (.at i::ts) A else .bad
  |_=>.bad
 |_=>.bad
def G3{A:Ab}(q:HA K B A H)(rE:B.ix a=some i)(e:A[i]?=some (.ins x bC))(hm:En bC m=true):∃dx iu,H a=some (.ins (clsAt K x) dx iu)/\iu.lookup m=none:=by
 obtain⟨_,dx,iu,h1,_,_,b,g⟩:=q.get rE e;refine⟨dx,iu,h1,?_⟩;rcases nU m b g with⟨_,z⟩|⟨t,v,z,_⟩
 ·exact z
 ·unfold En at hm;rw[z]at hm;cases hm
theorem Td(D:MethAt X.K c m ai ps au fd)(G:eI X.prog X.w X.K X.mg X.base (vf X.prog X.w) k au fd ps (vQ X.K h))(hr:di k X.A)(ho:PE X o (tE X aI))(ha:PA X (e::aA) (M6 X aH)){pl:Sem Bool}(hx:X.ex=[]:=by rfl) (cG:bA (e::aA)=true:=by rfl)
  (ht:eval (.Call (.Attribute o m b8) (e::aA) [] pos) X.env=t7 pos b8 o m (e::aA) X.env pl:=by rfl):PE X (.Call (.Attribute o m b8) (e::aA) [] pos) (tE X λY A=>rO c m h (aI Y A) (aH Y)):=
 (Ga (pl:=pl) ho D.cl D.mt G hr D.bd .nil (m3 hx) ha (cG:=bL _ _ (bq cG).1) (oO:=cR (bq cG).2) ht).weak λZ H Q ⟨B,A,Y,ha,r,n,q⟩=>⟨B,A,Y,ha,r,n,q.bind.mono λt A1 b v B1 H1 g1 g I=>by
  split at b
  ·obtain⟨a,rfl,l⟩:=I.nP;split at b
   ·rename_i L;obtain⟨⟨rfl,hm⟩,M⟩:=iw b;obtain⟨dx,iu,k1,k2⟩:=G3 g l L hm;refine⟨a,dx,iu,rfl,k1,k2,B1,A1,Y,g,r.grow n g1,n,((gZ.bind M).imp λc A' z=>z.grow ha.hb g1).mono λts A2 S vs B2 H2 g2 p8 rs=>?_⟩;show vQ X.K h (.ref a::(vs++[])) H2 Q (EX X);rw[kl];exact Fh ha.hb (g1.trans ha.hb g2) p8 (.cons (.at (g2.jU.x _ _ l)) rs) S
   ·exact b.elim
  ·exact b.elim⟩
theorem OF(D:MethAt X.K c m ai ps au fd)(G:eI X.prog X.w X.K X.mg X.base (vf X.prog X.w) k au fd ps (vQ X.K h))(hr:di k X.A)(ho:PE X o (tE X aI)){pl:Sem Bool}(hx:X.ex=[]:=by rfl)
  (ht:eval (.Call (.Attribute o m b8) [] [] pos) X.env=t7 pos b8 o m [] X.env pl:=by rfl):PE X (.Call (.Attribute o m b8) [] [] pos) (tE X λY A=>rO c m h (aI Y A) λA=>.ok [] A):=
 (Cz (pl:=pl) ho D.cl D.mt G hr D.bd .nil (m3 hx) ht).weak λZ H Q ⟨B,A,Y,ha,r,n,q⟩=>⟨B,A,Y,ha,r,n,q.bind.mono λt A1 b v B1 H1 g1 g I=>by
  split at b
  ·obtain⟨a,rfl,l⟩:=I.nP;split at b
   ·rename_i L;obtain⟨⟨rfl,hm⟩,M⟩:=iw b;obtain⟨dx,iu,k1,k2⟩:=G3 g l L hm;refine⟨a,dx,iu,rfl,k1,k2,?_⟩;show vQ X.K h [.ref a] H1 Q (EX X);exact Fh ha.hb g1 g (.cons (.at l) .nil) M
   ·exact b.elim
  ·exact b.elim⟩
end
noncomputable abbrev bmV:List Value:=[.type "ValueError",.type "Exception",.type "BaseException",.type "object"]
structure rP(K:Frag)(mg:Str->Option Value)(x:Str):Prop where
 mg:mg x=some (.ref (clsAt K x))
 ex:PySem.W.excIn K (clsAt K x) bmV "ValueError.__new__"=true
def OG{h:Heap}{C:Addr}(X:K.In h)(q:PySem.W.excIn K C aq ay=true):
  ∃bm N nm qn bs hd sn sub ab col dd k0 k1 k2 k3 k5 mN,h.get? C=some (excClassObj nm qn C N bs bm hd sn sub ab col dd k0 k1 k2 k3 k5 ay)/\h.Ns N mN/\mN "__init__"=none/\OwnTail h aq bm:=by
 unfold PySem.W.excIn at q;split at q
 ·rename_i L cd sl M;split at q
  ·rename_i C2 bm S j1 j2 j3 n j5 hm hs;simp only[bW,fg,pb]at q;obtain⟨⟨⟨⟨⟨e1,e2⟩,e3⟩,e4⟩,e5⟩,e6⟩:=q;subst e1 e2;obtain⟨nm,bs,mro,ns,qn,hd,sn,sub,ab,col,del⟩:=cd;have g:mro=_:=hm;have U6:del=false:=e3;have b:PySem.W.nsOkIn K ns=true:=e5;have r:PySem.W.nsIn K ns "__init__"=some none:=e6;subst g U6;obtain⟨l⟩:=sl;have I:l=_:=hs;subst I;exact⟨bm,ns,nm,qn,bs,hd,sn,sub,ab,col,L,S,j1,j2,j3,j5,_,X _ _ M,.of_isNs (PySem.W.isNs_of_in X b),PySem.W.nsMap_none_of_in X b r,PySem.W.tail_of_in X e4⟩
  ·cases q
 ·cases q
section
variable {np:Pos}
def Fj(x:Str)(l:Rz (List Tr)):Rz Out:=l.bind λts A=>if ts.length<=ee then .exc (.str x) A else .bad
theorem OH(D:rP X.K X.mg x)(ha:PA X (e::aA) (M6 X aH))(hx:X.ex=[]:=by rfl) (hc:X.calm=true:=by rfl) (hg:Gl X x:=by rfl) (fM:Db x:=by decide) (cG:bA (e::aA)=true:=by rfl):
  PS X (.Raise (some (.Call (.Name x np) (e::aA) [] b8)) none pos) (tZ X λY A=>Fj x (aH Y A)):=by
 intro U s Z H D' I ⟨B0,H0,B,A,Y,hb,g,hA,r,n,q⟩;obtain⟨bm,N,nm,qn,bs,hd,sn,sub,ab,col,dd,k0,k1,k2,k3,k5,mN,hC,hN,M,T⟩:=OG (h:=X.base) I.ok.mod.PV D.ex;have XU:starEach (e::aA) X.env=(false,eval e X.env)::starEach aA X.env:=bL _ _ (bq cG).1;have oO:(backTo b8 (starEach aA X.env)).any (·.1)=false:=cR (bq cG).2;refine wpAny_Raise_call_subU (C:=clsAt X.K x) (nm:=nm) (q:=qn) (N:=N) (bs:=bs) (bm:=bm) (hdct:=hd) (sn:=sn) (sub:=sub) (ab:=ab) (col:=col) (dd:=dd) (k0:=k0) (k1:=k1) (k2:=k2) (k3:=k3) (k5:=k5)
  Cp (by decide+kernel) Cp (mN:=mN) (T.hasType (by decide+kernel)) (I.ok.hd hc) (by rw[XU];show(false||(backTo b8 (starEach aA X.env)).any (·.1))=false;rw[oO];rfl) M
  (qO I hg D.mg ⟨rfl,?_⟩ fM)
 have L:=ha b8 U s Z H (λvs H2=>vs.length<=sizeLine/\EX X (.ref (clsAt X.K x)) none H2) I ⟨B,A,Y,hA,r,n,((gZ.bind q).imp λc A' z=>z.grow hb g).mono λts A2 qt vs B2 H2 g2 p8 rs=>by
  obtain⟨S,q2⟩:=iw qt;exact⟨by rw[rs.length,<-i_];exact S,(show XE X B0 H0 (.str x) A2 from q2) B2 H2 (g.trans hb g2) p8⟩⟩
 rw[XU]at L⊢;refine nJ (eK L λus s2 ⟨vs,H2,l,rv,S,hE⟩=>⟨rfl,by rw[<-rv.length];exact S,l.bk _ _ hC,hN.keeps l.bk,T.keeps l.bk,λh' a hm=>hE _ _ ?_⟩);obtain⟨t,e1,e2,e3⟩:=hm.there;refine⟨a,U,Z,s2.heap,rfl,l.kept (t':=s2.toks) hm.keeps,⟨⟨_,_,_,e1,rfl,rfl,rfl,.inl rfl⟩,?_,hm.new⟩,λb n=>l.C_ hx n,λp hp=>⟨_,(l.pin p (kj _ hp)).1⟩,λb nb=>by
  cases z:s2.heap.get? b with
  |none=>rfl
  |some o=>rw[hm.keeps b o z]at nb;cases nb⟩
 cases z:H2 a with
 |none=>rfl
 |some o=>
  obtain⟨u,e4⟩:=(l.cY a o z).get;rw[hm.new]at e4;cases e4
end
def IT{env:Env}:swapsWith e (some (.Subscript o tg p)) az env=pure false:=by cases e<;>rfl
def IU{f:Str}{env:Env}:swapsWith e (some (.Attribute o f p)) i env=pure false:=by cases e<;>rfl
noncomputable def Ai(f:Str)(t:Tr):List (Str×Tr)->List (Str×Tr)
 |[]=>[(f,t)]
 |(g,x)::r=>if g=f then(g,t)::r else(g,x)::Ai f t r
theorem Dz{W:Vw}{f:Str}{v:V}{t:Tr}(q:Rep K W v t):∀{iu:List (Str×V)} {fs:List (Str×Tr)},iu.map (·.1)=fs.map (·.1)->bP K W (iu.map (·.2)) (fs.map (·.2))->(mS f v iu).map (·.1)=(Ai f t fs).map (·.1)/\bP K W ((mS f v iu).map (·.2)) ((Ai f t fs).map (·.2))
 |[],[],_,_=>⟨rfl,.cons q .nil⟩
 |[],_::_,e,_=>by cases e
 |_::_,[],e,_=>by cases e
 |(k1,v1)::iu,(k2,I)::fs,e,r=>by
  rw[bO,bO]at e;injection e with g b
  have l:k1=k2:=g;subst l;cases r with
  |cons n r=>
   unfold mS Ai;by_cases z:k1=f
   ·rw[aW z,aW z];exact⟨by rw[bO,bO,b],.cons q r⟩
   ·rw[bc z,bc z];obtain⟨p1,p2⟩:=Dz q b r;exact⟨by rw[bO,bO,p1],.cons n p2⟩
def lookup_some{W:Vw}{iu:List (Str×V)}{t:Tr}(h:iu.map (·.1)=bC.map (·.1))(r:bP K W (iu.map (·.2)) (bC.map (·.2)))(e:bC.lookup x=some t):∃v,iu.lookup x=some v/\Rep K W v t:=by
 rcases nU x h r with⟨z,_⟩|⟨t',v,z,ev,rv⟩
 ·cases e.symm.trans z
 ·cases e.symm.trans z;exact⟨v,ev,rv⟩
structure iZ(K:Frag)(xs:List Str)(f:Str):Prop where
 all:∀x∈xs,EC K (clsAt K x)/\r_ K (clsAt K x) f
section
variable {f:Str}
def kg(ps:List Str)(f:Str):Tr->Rs Tr
 |.ob x fs=>if ps.contains x=true then kY (fs.lookup f)else .bad
 |_=>.bad
theorem Te(T:iZ X.K ps f)(he:PE X e (tP X F))(hb:attributeBase e f X.env (eval e X.env)=eval e X.env:=by first|exact gD rfl|rfl):PE X (.Attribute e f pos) (tP X λY=>(F Y).bind (kg ps f)):=
 (J5 he hb).weak λZ H Q ⟨B,Y,hb,r,q⟩=>⟨B,Y,hb,r,q.bind.mono λt b v H1 s1 rv=>by
  unfold kg at b;split at b
  ·obtain⟨a,dx,iu,rfl,h,g,rr⟩:=rv.A9;split at b
   ·rename_i l;obtain⟨t,n,k⟩:=gE b;have c:=T.all _ (dg.mp l);obtain⟨v,ev,rv⟩:=lookup_some g rr n;exact⟨a,_,dx,iu,v,rfl,eB h,c.1,c.2,ev,k v H1 s1 rv⟩
   ·exact b.elim
  ·exact b.elim⟩
def uB(ps:List Str)(f:Str)(r:Rz Tr):Rz Tr:=r.bind λt A=>match t with
 |.at i=>match A[i]? with
  |some (.ins x fs)=>if ps.contains x=true then gO (kY (fs.lookup f)) A else .bad
  |_=>.bad
 |_=>.bad
theorem Tf(T:iZ X.K ps f)(he:PE X e (tE X aJ))(hb:attributeBase e f X.env (eval e X.env)=eval e X.env:=by first|exact gD rfl|rfl):PE X (.Attribute e f pos) (tE X λY A=>uB ps f (aJ Y A)):=
 (J5 he hb).weak λZ H Q ⟨B,A,Y,ha,r,n,q⟩=>⟨B,A,Y,ha,r,n,q.bind.mono λt A1 b v B1 H1 g1 g rv=>by
  split at b
  ·obtain⟨a,rfl,l⟩:=rv.nP;split at b
   ·rename_i I;obtain⟨L,M⟩:=iw b;obtain⟨_,dx,iu,h1,_,_,S,h5⟩:=g.get l I;have c:=T.all _ (dg.mp L);obtain⟨t,et,k⟩:=gE (m4 (X:=X) (H:=H1) M);obtain⟨v,ev,rv⟩:=lookup_some S h5 et;exact⟨a,_,dx,iu,v,rfl,h1,c.1,c.2,ev,k v B1 H1 g1 g rv⟩
   ·exact b.elim
  ·exact b.elim⟩
def XW(ps:List Str)(f:Str)(v:Rz Tr)(o:Ab->Rz Tr)(Y:bV):Rz Out:=v.bind λtv A=>(o A).bind λt A=>match t with
 |.at i=>match A[i]? with
  |some (.ins x fs)=>if ps.contains x=true/\fs.length<1000 then .ok (.nx Y) (A.set i (.ins x (Ai f tv fs)))else .bad
  |_=>.bad
 |_=>.bad
theorem XX(T:iZ X.K ps f)(ho:PE X o (tE X aJ))(hv:PE X tg (tE X aI)):PS X (.Assign [.Attribute o f p] tg pos) (tZ X λY A=>XW ps f (aI Y A) (aJ Y) Y):=
 (Ry ho hv IU).weak λD Z H ⟨B0,H0,B,A,Y,hb,g,ha,r,n,q⟩=>p5 hb g ha r n q.bind λtv A1 v B1 H1 q1 g1 nC r1 rv _=>p5 hb g1 nC r1 n (gZ.bind q1) λt A2 w B2 H2 b g2 S r2 pN l=>by
  split at b
  ·obtain⟨a,rfl,I⟩:=pN.nP;split at b
   ·rename_i i _ x fs eo;obtain⟨⟨hx,hl⟩,q3⟩:=iw b;obtain⟨hd,dx,iu,h1,h2,L,h4,h5⟩:=S.get I eo;have c:=T.all x (dg.mp hx);have b9:iu.length=fs.length:=by have:=cX List.length h4;rw[bu,bu]at this;exact this
    obtain⟨p1,p2⟩:=Dz (f:=f) (rv.same l.jU) h4 h5;have M:dx≠a:=λz=>by rw[z,show B2.ix a=some i from I]at L;cases L
    obtain⟨g3,h6⟩:=S.write (o:=.ins x (Ai f tv fs)) (u:=.ins (clsAt X.K x) dx (mS f v iu)) I ⟨hd,dx,_,bM,by rw[bp M];exact h2,L,p1,by rw[jv hd];exact p2⟩;exact⟨a,_,dx,iu,rfl,h1,c.1,c.2,by rw[b9];exact hl,q3 Z B2 _ (g2.trans hb g3) h6 (r2.grow n g3) n⟩
   ·exact b.elim
  ·exact b.elim
end
def OI{xc:Tr->Ab->Prop}{r:Rs Tr}{A:Ab}{k:Tr->Ab->Prop}(q:gZ xc (sx r A) k):Fi X H r λt=>JC t=true/\k t A:=by
 cases r with
 |ok t=>exact iw q
 |exc c=>exact fe q
 |bad=>exact q
section
variable {a b i:Expr}{E:bV->Ab->Rz Tr}{h:Tr->Tr->Rs Tr}
def OJ(h:Tr->Tr->Rs Tr)(a:Rz Tr)(b:Ab->Rz Tr):Rz Tr:=a.bind λx A=>(b A).bind λy A=>sx (h (aZ 1 A x) (aZ 1 A y)) A
def IV{Q:VK}(q:tE X (λY A=>OJ h (aI Y A) (aJ Y)) Z H Q):Ro (rT X h) (tE X aI) (tE X aJ) Z H Q:=by
 obtain⟨B,A,Y,ha,r,n,q⟩:=q;refine⟨B,A,Y,ha,r,n,q.bind.mono λx A1 g v B1 H1 g1 l I=>⟨B1,A1,Y,l,r.grow n g1,n,((gZ.bind g).imp λc A' z=>z.grow ha.hb g1).mono λy A2 L u B2 H2 g2 b M=>?_⟩⟩;refine⟨B2.un,aZ 1 A2 x,aZ 1 A2 y,C8 b.hb,jJ b 1 (I.same g2.jU),jJ b 1 M,(OI L).mono λt ⟨S,k⟩ w H3 s3 pN=>?_⟩;exact k w B2 H3 ((g1.trans ha.hb g2).trans ha.hb (.of s3)) (b.same s3) (z8 (b.same s3) pN S)
def aa9(hu:X.A.units+1<cLine)(h1:PE X a (tE X aI))(h2:PE X b (tE X aJ))(hs:ue b:=by exact λ_ _=>rfl):PE X (.Subscript a b pos) (tE X λY A=>OJ jW (aI Y A) (aJ Y)):=(P_ (WN hu) h1 h2 hs).weak λ_ _ _ q=>IV q
def DA(A:Ab)(t q tv:Tr):Option Ab:=match t,kr q with
 |.at i,some k=>match A[i]? with
  |some (.bX bC)=>if bC.length<ee then some (A.set i (.bX (kZ bC k tv)))else none
  |_=>none
 |_,_=>none
def Tg(v:Rz Tr)(o k:Ab->Rz Tr)(Y:bV):Rz Out:=v.bind λtv A=>(o A).bind λt A=>(k A).bind λb A=>match DA A t b tv with
 |some A'=>.ok (.nx Y) A'
 |none=>.bad
theorem d6.length {W:Vw}{kvs:List (Key×V)}{bC:List (Key×Tr)}(h:d6 K W kvs bC):kvs.length=bC.length:=by
 have e:=cX List.length h.keys;rw[bu,bu]at e;exact e
def Fl{A A':Ab}{tk tv:Tr}(e:DA A aC tk tv=some A'):∃j bC key,aC=.at j/\kr tk=some key/\A[j]?=some (.bX bC)/\bC.length<ee/\A'=A.set j (.bX (kZ bC key tv)):=by
 unfold DA at e;split at e
 ·rename_i b;split at e
  ·rename_i g;split at e
   ·rename_i l;cases e;exact⟨_,_,_,rfl,b,g,l,rfl⟩
   ·cases e
  ·cases e
 ·cases e
theorem Th(hu:X.A.units+1<cLine)(ho:PE X o (tE X aI))(hi:PE X i (tE X aJ))(hv:PE X tg (tE X E)):
  PS X (.Assign [.Subscript o i p] tg pos) (tZ X λY A=>Tg (E Y A) (aI Y) (aJ Y) Y):=
 (NJ hu ho hi hv IT).weak λD Z H ⟨B0,H0,B,A,Y,hb,g,ha,r,n,q⟩=>p5 hb g ha r n q.bind λtv A1 v B1 H1 q1 g1 nC r1 rv _=>p5 hb g1 nC r1 n (gZ.bind q1) λt A2 w B2 H2 q2 g2 p8 r2 pN l=>p5 hb g2 p8 r2 n (gZ.bind q2) λtk A3 y B3 H3 I g3 M r3 ry b=>by
  have L:=pN.same b.jU;have Z5:=(rv.same l.jU).same b.jU;split at I
  ·rename_i ed;obtain⟨j,bC,key,rfl,ek,eo,hl,rfl⟩:=Fl ed;obtain⟨c,rfl,S⟩:=L.nP;obtain⟨hd,kvs,h1,h2⟩:=M.get S eo;cases nQ ry ek;obtain⟨g4,h6⟩:=M.write (o:=.bX (kZ bC key tv)) (u:=.dK (putK kvs key v)) S ⟨hd,_,bM,by rw[jv hd];exact h2.put key Z5⟩;exact⟨c,_,rfl,EI.k h1 (by rw[h2.length,<-i_];exact hl),I Z B3 _ (g3.trans hb g4) h6 (r3.grow n g4) n⟩
  ·exact I.elim
end
noncomputable def iL(bC:List (Key×Tr))(k:Key):List (Key×Tr):=bC.filter λb=>decide (b.1≠k)
theorem d6.drop {W:Vw}(k:Key):∀{kvs:List (Key×V)} {bC:List (Key×Tr)},d6 K W kvs bC->d6 K W (rJ kvs k) (iL bC k)
 |[],[],_=>.nil
 |[],_::_,h=>by cases h.keys
 |_::_,[],h=>by cases h.keys
 |(k1,v1)::kvs,bC,h=>by
  obtain⟨t,r,rfl,rv,g⟩:=h.inv;have b:=d6.drop k g;unfold rJ iL at b⊢;by_cases z:k1=k
  ·rw[ki (by simp[z]),ki (by simp[z])];exact b
  ·rw[lL (by simp[z]),lL (by simp[z])];exact .cons rv b
def m7(A:Ab)(i:Nat):Bool:=match A[i]? with
 |some (.bX _)=>true
 |_=>false
def qX{A:Ab}(q:HA K B A H)(e:B.ix a=some i)(h:m7 A i=true):∃bC kvs,A[i]?=some (.bX bC)/\B.hd a=true/\H a=some (.dK kvs)/\d6 K (cj B H) kvs bC:=by
 obtain⟨o,b,g⟩:=q.ex e;unfold m7 at h;rw[b]at h;cases o with
 |bX bC=>obtain⟨hd,kvs,h1,h2⟩:=g;exact⟨bC,kvs,b,hd,h1,h2⟩
 |_=>cases h
def dkZ{α:Type}(o:Rz Tr)(k:Ab->Rz Tr)(f:Nat->Key->Ab->Rz α):Rz α:=o.bind λt A=>match t with
 |.at i=>if m7 A i=true then(k A).bind λb A=>match kr b with
  |some key=>f i key A
  |none=>.bad
  else .bad
 |_=>.bad
def oR(A:Ab)(i:Nat):List (Key×Tr):=match A[i]? with
 |some (.bX bC)=>bC
 |_=>[]
def Lh(o:Rz Tr)(k:Ab->Rz Tr):Rz Tr:=dkZ o k λi key A=>if m7 A i=true then match fc (oR A i) key with
 |some v=>.ok v (A.set i (.bX (iL (oR A i) key)))
 |none=>.bad
 else .bad
section
variable {dM:Pos}{E:bV->Ab->Rz Tr}
def Bx{A:Ab}{bC:List (Key×Tr)}(h:A[i]?=some (.bX bC)):oR A i=bC:=by unfold oR;rw[h]
theorem Ti(ho:PE X o (tE X aI))(he:PE X e (tE X aJ))(hb:isCall o=false:=by rfl) (cG:bA [e]=true:=by rfl) (hl:(b8.endLine==dM.line)=true:=by rfl):PE X (.Call (.Attribute o "pop" b8) [e] [] dM) (tE X λY A=>Lh (aI Y A) (aJ Y)):=
 (Kh ho he (Ql hb cG hl)).weak λZ H Q ⟨B,A,Y,ha,r,n,q⟩=>⟨B,A,Y,ha,r,n,q.bind.mono λt A1 l v B1 H1 g1 L rv=>by
  split at l
  ·obtain⟨a,rfl,M⟩:=rv.nP;rename_i i;obtain⟨hd,q2⟩:=iw l;obtain⟨bC,kvs,e1,e2,e3,e4⟩:=qX L M hd;refine⟨a,rfl,.inl ⟨_,.inl e3⟩,B1,A1,Y,L,r.grow n g1,n,((gZ.bind q2).imp λc A' z=>z.grow ha.hb g1).mono λtk A2 g y B2 H2 g2 S ry=>?_⟩;have By:=g2.jU.x _ _ M;cases I:kr tk with
   |none=>simp only[I]at g;exact fe g
   |some key=>
    simp only[I]at g;obtain⟨hd2,b⟩:=iw g;obtain⟨Tj,Li,f1,f2,f3,f4⟩:=qX S By hd2;rw[Bx f1]at b;have ey:=nQ ry I;subst ey;rcases qS key f4.keys f4.vals with⟨z,_⟩|⟨t,w,z,ev,pN⟩
    ·simp only[z]at b;exact fe b
    ·simp only[z]at b;obtain⟨g4,h6⟩:=S.write (o:=.bX (iL Tj key)) (u:=.dK (rJ Li key)) By ⟨f2,_,bM,by rw[jv f2];exact f4.drop key⟩;exact⟨Li,key,w,f3,rfl,ev,b w B2 _ ((g1.trans ha.hb g2).trans ha.hb g4) h6 (by rw[jv f2];exact pN)⟩
  ·exact l.elim⟩
def Lj(o:Rz Tr)(k x:Ab->Rz Tr):Rz Tr:=dkZ o k λi key A=>(x A).bind λtx A=>if m7 A i=true then match fc (oR A i) key with
 |some v=>.ok v (A.set i (.bX (iL (oR A i) key)))
 |none=>.ok tx A
 else .bad
theorem Tn(ho:PE X o (tE X aI))(he:PE X e (tE X aJ))(hf:PE X tg (tE X E))(hb:isCall o=false:=by rfl) (cG:bA [e,tg]=true:=by rfl) (hl:(b8.endLine==dM.line)=true:=by rfl):PE X (.Call (.Attribute o "pop" b8) [e,tg] [] dM) (tE X λY A=>Lj (aI Y A) (aJ Y) (E Y)):=
 (Ki ho he hf (Qm hb cG hl)).weak λZ H Q ⟨B,A,Y,ha,r,n,q⟩=>⟨B,A,Y,ha,r,n,q.bind.mono λt A1 M v B1 H1 g1 nC rv=>by
  split at M
  ·obtain⟨a,rfl,rE⟩:=rv.nP;rename_i i;obtain⟨hd,q2⟩:=iw M;obtain⟨bC,kvs,e1,e2,e3,e4⟩:=qX nC rE hd;refine⟨a,rfl,.inl ⟨_,.inl e3⟩,B1,A1,Y,nC,r.grow n g1,n,((gZ.bind q2).imp λc A' z=>z.grow ha.hb g1).mono λtk A2 I y B2 H2 g2 p8 ry=>?_⟩;have L:=g1.trans ha.hb g2;cases S:kr tk with
   |none=>simp only[S]at I;exact fe I
   |some key=>
    simp only[S]at I;refine⟨B2,A2,Y,p8,r.grow n L,n,((gZ.bind I).imp λc A' z=>z.grow ha.hb L).mono λtx A3 qx z B3 H3 g3 GR rz=>?_⟩;have XY:=g3.jU.x _ _ (g2.jU.x _ _ rE);obtain⟨hd3,b⟩:=iw qx;obtain⟨aba,XZ,f1,f2,f3,f4⟩:=qX GR XY hd3;rw[Bx f1]at b;have ey:=nQ ry S;subst ey;refine⟨XZ,key,f3,rfl,λw ev=>?_,λev=>?_⟩
    ·rcases qS key f4.keys f4.vals with⟨_,g⟩|⟨t,w2,g,l,pN⟩
     ·rw[ev]at g;cases g
     ·rw[ev]at l;cases l;simp only[g]at b;obtain⟨g4,h6⟩:=GR.write (o:=.bX (iL aba key)) (u:=.dK (rJ XZ key)) XY ⟨f2,_,bM,by rw[jv f2];exact f4.drop key⟩;exact b w B3 _ ((L.trans ha.hb g3).trans ha.hb g4) h6 (by rw[jv f2];exact pN)
    ·rcases qS key f4.keys f4.vals with⟨z1,_⟩|⟨t,w2,g,l,_⟩
     ·simp only[z1]at b;exact b z B3 H3 (L.trans ha.hb g3) GR rz
     ·rw[ev]at l;cases l
  ·exact M.elim⟩
variable {c:Str}{h:List Tr->Ab->Rz Tr}{fa:Addr}{fd:FuncData}{k:Nat}
def yy(c:Str)(h:List Tr->Ab->Rz Tr)(l:Rz (List Tr)):Rz Tr:=l.bind λts A=>(h (.at A.length::ts) (A++[.ins c []])).bind λt A'=>if ZP t=true then .ok (.at A.length) A' else .bad
structure yz(K:Frag)(mg:Str->Option Value)(c:Str)(ps:List Str)(fa:Addr)(fd:FuncData):Prop where
 X1:Mk K (clsAt K c) fa
 bd:Binds K fd ps []
 mg:mg c=some (.ref (clsAt K c))
def G4{B1:fh}{A1:Ab}{vs:List V}{ts:List Tr}{Q:VK}(hb:HB B H)(g:Grows B H B1 ac)(ha:HA X.K B1 A1 ac)(rs:bP X.K (cj B1 ac) vs ts)
  (q:gZ (XE X B H) ((h (.at A1.length::ts) (A1++[.ins c []])).bind λt A'=>if ZP t=true then .ok (.at A1.length) A' else .bad) λt A'=>∀v B' H',Grows B H B' H'->HA X.K B' A' H'->Rep X.K (cj B' H') v t->Q v H')
  (x dx:Addr) (h1:ac x=none) (h2:ac dx=none) (h3:dx≠x):vQ X.K h (.ref x::vs) (upd (upd ac dx (.own x)) x (.ins (clsAt X.K c) dx [])) (λv H2=>v=.cA/\Q (.ref x) H2) (EX X):=by
 have s1:bg ac (upd (upd ac dx (.own x)) x (.ins (clsAt X.K c) dx [])):=((bg.upd h2).trans (bg.upd (by rw[bp (Ne.symm h3)];exact h1)));obtain⟨g1,b⟩:=ha.push (p:=x) (o:=.ins c []) h1 s1 ⟨qT,dx,[],bM,by rw[bp h3,bM],by rw[iK h3];exact ha.free h2,rfl,.nil⟩;refine⟨_,_,_,b,.cons (.at iJ) (rs.same g1.jU),((gZ.bind q).imp λc A' z=>z.grow hb (g.trans hb g1)).mono λt A' z v B' H' g' l n=>?_⟩;obtain⟨r,I⟩:=iw z;refine⟨?_,I (.ref x) B' H' ((g.trans hb g1).trans hb g') l (.at (g'.jU.x _ _ iJ))⟩;have e:=GD n;rw[r]at e;exact eO e
theorem To(D:yz X.K X.mg c ps fa fd)(aJ:eI X.prog X.w X.K X.mg X.base (vf X.prog X.w) k fa fd ps (vQ X.K h))(hr:di (k+1) X.A)(ha:PA X (e::aA) (M6 X aH))(hx:X.ex=[]:=by rfl) (hg:Gl X c:=by rfl) (fM:Db c:=by decide) (cG:bA (e::aA)=true:=by rfl):
  PE X (.Call (.Name c p) (e::aA) [] pos) (tE X λY A=>yy c h (aH Y A)):=
 (Nu (p:=p) (pos:=pos) D.X1 aJ hr hg D.mg D.bd .nil (m3 hx) ha (fM:=fM) (he:=bL _ _ (bq cG).1) (oO:=cR (bq cG).2)).weak λZ H Q ⟨B,A,Y,ha,r,n,q⟩=>⟨B,A,Y,ha,r,n,q.bind.mono λts A1 b vs B1 H1 g1 g rs x dx l h2 I=>by
  show vQ X.K h (.ref x::(vs++[])) _ _ _;rw[kl];exact G4 ha.hb g1 g rs b x dx l h2 I⟩
theorem OK(D:yz X.K X.mg c ps fa fd)(aJ:eI X.prog X.w X.K X.mg X.base (vf X.prog X.w) k fa fd ps (vQ X.K h))(hr:di (k+1) X.A)(hx:X.ex=[]:=by rfl) (hg:Gl X c:=by rfl) (fM:Db c:=by decide):
  PE X (.Call (.Name c p) [] [] pos) (tE X λ_ A=>yy c h (.ok [] A)):=
 (J8 (p:=p) (pos:=pos) D.X1 aJ hr hg D.mg D.bd .nil (m3 hx) (fM:=fM)).weak λZ H Q ⟨B,A,Y,ha,r,n,q⟩ x dx b h2 g=>G4 (vs:=[]) (ts:=[]) ha.hb .refl ha .nil q x dx b h2 g
end
def OL(ok:X.Ok):∀b∈X.fs,b∈kc X.stack:=λb hb=>by
 rcases ok.M0 with e|⟨e,_⟩
 ·rw[e];exact hb
 ·rw[e];obtain⟨v,g,hf⟩:=lO.mp hb;exact lO.mpr ⟨v,cu _ g,hf⟩
def Inv.Tp {h':Heap}{hs:List Addr}(I:Inv X U Z H s)(hx:X.ex=[])
  (kp:∀b o,b∉hs->b∉kc X.stack->s.heap.get? b=some o->h'.get? b=some o) (sl:∀b o,b∈kc X.stack->s.heap.get? b=some o->∃sl,h'.get? b=some {o with slots:=sl})
  (hn:∀b∈hs,H b=none/\X.gA.heap.get? b=none/\(∀p∈X.pn++U,p.1≠b)/\((∃o ws,s.heap.get? b=some o/\o.data=.fields ws)\/s.heap.get? b=none)):Inv X U Z H {s with heap:=h'}:=by
 have S:∀b:Addr,b∉X.ex:=λb=>by rw[hx];simp
 have any:∀b o,b∉hs->s.heap.get? b=some o->∃sl,h'.get? b=some {o with slots:=sl}:=λb o nb e=>by
  by_cases m:b∈kc X.stack
  ·exact sl b o m e
  ·exact⟨o.slots,kp b o nb m e⟩
 have hsF:∀b o,s.heap.get? b=some o->(∀ws,o.data≠ .fields ws)->b∉hs:=λb o e d m=>by
  rcases(hn b m).2.2.2 with⟨o2,ws,g,d2⟩|g
  ·rw[e]at g;cases g;exact d ws d2
  ·rw[e]at g;cases g
 have cellK:∀c v,s.heap.IsCell c v->h'.IsCell c v:=λc v ⟨o,ho,hd⟩=>by
  obtain⟨s1,L⟩:=any c o (hsF c o ho λws z=>by rw[hd]at z;cases z) ho;exact⟨_,L,hd⟩
 have old:∀b o,X.gA.heap.get? b=some o->b∉hs:=λb o e m=>by rw[(hn b m).2.1]at e;cases e
 refine⟨I.ok,I.os,I.bare,⟨λb o e n hb _=>?_,λb o e n hb _=>?_,I.base.free,λb o e _=>?_,I.base.mR,I.base.lI,I.base.nM⟩,?_,λx c e=>?_,I.free,I.f',λp hp=>?_,λb u e=>?_,I.len⟩
 ·refine kp b o (old b o e) (λm=>?_) (I.base.keep b o e n hb (S b));rcases bG.mp (I.xC b m)with z|z
  ·exact absurd (dh (bx e) I.ok.above) (by rw[z];exact eV _)
  ·exact hb z
 ·obtain⟨s1,L⟩:=I.base.slot b o e n hb (S b);obtain⟨s2,g⟩:=sl b _ (OL I.ok b hb) L;exact⟨s2,g⟩
 ·obtain⟨o1,L⟩:=I.base.there b o e (S b);obtain⟨s2,g⟩:=any b o1 (old b o e) L;exact⟨_,g⟩
 ·obtain⟨m,hm,hl⟩:=I.loc;refine⟨m,?_,λi x v L g e3=>?_⟩
  ·obtain⟨o,es,ep,ho,hd,r⟩:=hm;obtain⟨s1,L⟩:=any _ o (hsF _ o ho λws z=>by rw[hd]at z;cases z) ho;exact⟨_,es,ep,L,hd,r⟩
  ·obtain⟨u,r,l⟩:=hl i x v L g e3;refine⟨u,r,?_⟩;rcases l with l|⟨k,c,e,z⟩
   ·exact .inl l
   ·exact .inr ⟨k,c,e,cellK c _ z⟩
 ·obtain⟨v,z⟩:=I.cell x c e;exact⟨v,cellK c v z⟩
 ·obtain⟨e,n,ne,nf,d⟩:=I.pin p hp;refine⟨kp p.1 p.2 (λm=>(hn _ m).2.2.1 p hp rfl) (λm=>?_) e,n,ne,nf,d⟩;rcases bG.mp (I.xC _ m)with z|z
  ·exact ne z
  ·exact nf z
 ·refine(I.cY b u e).pK (λc v M q=>kp c v (λm=>?_) (λm=>?_) q) (λ_ q=>q) λ_ _ q=>q
  ·have n:=(hn c m).1;rcases M with rfl|M
   ·rw[n]at e;cases e
   ·rw[n]at M;cases M
  ·have n:=I.wx c m;rcases M with rfl|M
   ·rw[n]at e;cases e
   ·rw[n]at M;cases M
def X2(h0:Heap)(H:Hp)(h:Heap)(a:Addr)(cls:Value):Prop:=∃b vs a0 T g ts,h.get? a=some b/\b.cls=cls/\b.data=.fields vs/\vs[0]?=some a0/\vs[1]?=some (.ref T)/\T≠a/\h0.get? T=none/\H T=none/\h.get? T=some g/\g.data=.fields ts/\ts[3]?=some .none
structure M9(X:Cx)(h0:Heap)(Z:St)(H:Hp)(s:Shared)(a:Addr)(cls:Value):Prop where
 inv:Inv X [] Z H s
 GP:Qr h0 H s.heap a cls
 old:∀b,h0.get? b=none->X.gA.heap.get? b=none
 pn:∀p∈X.pn,∃o,h0.get? p.1=some o
 gr:∀b,s.heap.get? b=none->h0.get? b=none
def XS.cau {cls e:Value}(x:XS X H cls e s):∃a Z h0,e=.ref a/\M9 X h0 Z H s a cls:=by
 obtain⟨a,U,Z,h0,rfl,I,GP,old,pn,gr⟩:=x;exact⟨a,Z,h0,rfl,I.ko (λp hp=>I.pin p (kj _ (by simpa using hp))),GP,old,pn,gr⟩
def M9.step {h0:Heap}{cls a0:Value}{h':Heap}{hs:List Addr}(C:M9 X h0 Z H s a cls)(hx:X.ex=[])(ha:a∈hs)(q:∀b∈hs,H b=none/\h0.get? b=none/\∃o ws,s.heap.get? b=some o/\o.data=.fields ws)
  (k1:(PySem.W.hideAll s.heap (hs++kc X.stack)).StaysIn h') (k4:∀b o,s.heap.get? b=some o->(∀ws,o.data≠ .fields ws)->∃sl,h'.get? b=some {o with slots:=sl})
  (k3:h'.TracedW (PySem.W.hideAll s.heap (hs++kc X.stack)) a cls a0) (fr':∀b∈kc X.stack,∃o,h'.get? b=some o/\∀ws,o.data≠ .fields ws):M9 X h0 Z H {s with heap:=h'} a cls/\X2 h0 H h' a cls:=by
 have hk:=C.inv.stack;have Vb:∀L∈kc X.stack,∃o,s.heap.get? L=some o/\∀ws,o.data≠ .fields ws:=λL hL=>(hk.mem hL).2;have gp:∀b,h0.get? b=none->∀p∈X.pn++[],p.1≠b:=λb n p hp z=>by
  obtain⟨o,e⟩:=C.pn p (by simpa using hp);rw[z,n]at e;cases e
 have kp:∀b o,b∉hs->b∉kc X.stack->s.heap.get? b=some o->h'.get? b=some o:=λb o n1 n2 e=>k1 b o (mz _ e λm=>(dr.mp m).elim n1 n2);have sl:∀b o,b∈kc X.stack->s.heap.get? b=some o->∃sl,h'.get? b=some {o with slots:=sl}:=λb o m e=>by
  obtain⟨o2,e2,d2⟩:=Vb b m;rw[e]at e2;cases e2;exact k4 b o e d2
 have tr:X2 h0 H h' a cls:=by
  obtain⟨l,vs,T,oT,ts,r,⟨I,M⟩,S,q5,g,q7,q8,q9,q10⟩:=k3;have hTf:T∉kc X.stack:=λm=>by
   obtain⟨o,e,d⟩:=fr' T m;rw[q8]at e;cases e;exact d ts q9
  have key:h0.get? T=none/\H T=none:=by
   by_cases m:T∈hs
   ·exact⟨(q T m).2.1,(q T m).1⟩
   ·have n:s.heap.get? T=none:=by
     cases z:s.heap.get? T with
     |none=>rfl
     |some o=>rw[mz _ z λmm=>(dr.mp mm).elim m hTf]at g;cases g
    refine⟨C.gr T n,?_⟩;cases z:H T with
    |none=>rfl
    |some o=>obtain⟨u,e⟩:=(C.inv.cY T o z).get;rw[n]at e;cases e
  exact⟨l,vs,a0,T,oT,ts,r,I,S,M,q5,q7,key.1,key.2,q8,q9,q10⟩
 refine⟨⟨C.inv.Tp hx kp sl λb m=>⟨(q b m).1,C.old b (q b m).2.1,gp b (q b m).2.1,.inl (q b m).2.2⟩,⟨?_,C.GP.fr,C.GP.nw⟩,C.old,C.pn,λb n=>?_⟩,tr⟩
 ·obtain⟨l,vs,b0,T,oT,ts,r,I,M,S,q5,g⟩:=tr;exact⟨l,vs,b0,r,I,M,S,.inr ⟨T,oT,ts,q5,g⟩⟩
 ·by_cases m:b∈hs
  ·exact(q b m).2.1
  ·refine C.gr b ?_
   cases z:s.heap.get? b with
   |none=>rfl
   |some o=>
    have n':h'.get? b=none:=n;by_cases m2:b∈kc X.stack
    ·obtain⟨s1,e1⟩:=sl b o m2 z;rw[n']at e1;cases e1
    ·rw[kp b o m m2 z]at n';cases n'
section
variable {h0:Heap}{cls:Value}{M:Model}
theorem OM(C:M9 X h0 Z H s a cls)(hx:X.ex=[])(cG:X.stack=X.env::X.outer)(hf:X.env.frame=some X.env.locals)(hA:A.frames=some X.stack){Q:Unit->Shared->Prop}(q:∀s',M9 X h0 Z H s' a cls->X2 h0 H s'.heap a cls->Q () s'):
  wpAny M A (noteFrame (.ref a) X.env) (λ_ s2=>wpAny M A (setFlight (.ref a) none) Q E s2) E s:=by
 obtain⟨⟨oe,vs,a0,he,S,hd,g,h1⟩,fr,nw⟩:=C.GP;have hk:s.heap.FunFrames X.base X.stack:=C.inv.stack;have lJ:∀e∈X.stack,∀b,e.frame=some b->b∈kc X.stack:=λe he b hb=>lO.mpr ⟨e,he,hb⟩;have after:∀(hs:List Addr) (h':Heap),a∈hs->(∀b∈hs,H b=none/\h0.get? b=none/\∃o ws,s.heap.get? b=some o/\o.data=.fields ws)->Heap.NotedW (PySem.W.hideAll s.heap (hs++kc X.stack)) X.stack a cls a0 (rawInt X.env.locals) s.heap h'->wpAny M A (setFlight (.ref a) none) Q E {s with heap:=h'}:=by
  intro hs h' n hh ⟨k1,k2,k3,k4⟩;refine wpAny_setFlight_noneW (s:={s with heap:=h'}) k1 k2 k3 λh2 j1 j2 j3 j4=>?_
  obtain⟨c1,c2⟩:=C.step hx n hh j1 (λb o e d=>by obtain⟨sl,e1⟩:=k4 b o e d;exact⟨sl,j4 b _ e1 d⟩) j3 λb m=>(j2.mem m).2;exact q _ c1 c2
 rcases h1 with h1|⟨T,oT,ts,h1,r,I,M5,hT,ZR,h3⟩
 ·have L:s.heap.FunFrames (PySem.W.hideAll s.heap ([a]++kc X.stack)) (X.env::X.outer):=by rw[<-cG];exact oZ hk λe he b hb=>dG _ (lJ e he b hb)
  unfold noteFrame;simp only[hf];refine aT (gz he hd h1 ?_);rw[bc (by decide)];refine wpAny_entryW (base:=PySem.W.hideAll s.heap ([a]++kc X.stack)) (by rw[hA,cG]) L hf he (λb o z=>mB _ z) (lM _ (kj _ (cV.mpr rfl))) hd (Array.getElem?_eq_some_iff.mp h1).1 g λh' l=>?_
  rw[S,<-cG]at l;refine after [a] h' (cV.mpr rfl) (λb m=>?_) l;cases cV.mp m;exact⟨fr,nw,oe,vs,he,hd⟩
 ·have L:s.heap.FunFrames (PySem.W.hideAll s.heap ([a,T]++kc X.stack)) (X.env::X.outer):=by rw[<-cG];exact oZ hk λe he b hb=>dG _ (lJ e he b hb)
  refine wpAny_noteFrame_onW (base:=PySem.W.hideAll s.heap ([a,T]++kc X.stack)) (cls:=cls) (a0:=a0) (by rw[hA,cG]) L hf ⟨oe,vs,T,oT,ts,he,⟨S,g⟩,hd,h1,lM _ (kj _ (by simp)),r,hT,ZR,h3⟩ (λb o z=>mB _ z) (lM _ (kj _ (by simp))) λh' l=>?_
  rw[<-cG]at l;refine after [a,T] h' (by simp) (λb m=>?_) l;simp only[bG,cP,cQ]at m;rcases m with rfl|rfl
  ·exact⟨fr,nw,oe,vs,he,hd⟩
  ·exact⟨M5,I,oT,ts,hT,ZR⟩
theorem IW(C:M9 X h0 Z H s a cls)(T:X2 h0 H s.heap a cls)(hx:X.ex=[])(q:∀s',M9 X h0 Z H s' a cls->X2 h0 H s'.heap a cls->ae () s'):wpAny M A (setFlight (.ref a) none) ae E s:=by
 obtain⟨oe,vs,a0,T,oT,ts,n,L,r,S,e5,e6,e7,e8,I,g,l⟩:=T;have hk:s.heap.FunFrames X.base X.stack:=C.inv.stack;have lJ:∀e∈X.stack,∀b,e.frame=some b->b∈kc X.stack:=λe he b hb=>lO.mpr ⟨e,he,hb⟩;have hl:s.heap.FunFrames (PySem.W.hideAll s.heap ([a,T]++kc X.stack)) X.stack:=oZ hk λe he b hb=>dG _ (lJ e he b hb);refine wpAny_setFlight_noneW (base:=PySem.W.hideAll s.heap ([a,T]++kc X.stack)) (cls:=cls) (a0:=a0) (fl:=.none) (λb o z=>mB _ z) hl ⟨oe,vs,T,oT,ts,n,⟨L,S⟩,r,e5,lM _ (kj _ (by simp)),e6,I,g,l⟩ λh2 j1 j2 j3 j4=>?_
 obtain⟨c1,c2⟩:=C.step hx (hs:=[a,T]) (by simp) (λb m=>by
  simp only[bG,cP,cQ]at m;rcases m with rfl|rfl
  ·exact⟨C.GP.fr,C.GP.nw,oe,vs,n,r⟩
  ·exact⟨e8,e7,oT,ts,I,g⟩) j1 (λb o e d=>⟨o.slots,j4 b o e d⟩) j3 λb m=>(j2.mem m).2
 exact q _ c1 c2
def M9.X3 (C:M9 X h0 Z H s a cls)(hx:X.ex=[]):∃oe:Obj,oe.cls=cls/\s.heap.get? a=some oe/\Inv X [] Z (upd H a (.ext λh=>h.get? a=some oe)) s:=by
 obtain⟨⟨oe,vs,a0,he,l,hd,_⟩,fr,nw⟩:=C.GP;have I:=C.inv;refine⟨oe,l,he,I.ok,I.os,I.bare,⟨I.base.keep,I.base.slot,λb o e n hb=>?_,I.base.there,λb ts e=>?_,λb o u e=>?_,λb p e=>?_⟩,I.loc,I.cell,?_,λy c e=>?_,λp hp=>?_,λb u e=>?_,I.len⟩
 ·rw[bp λz=>?_]
  ·exact I.base.free b o e n hb
  ·rw[z,C.old a nw]at e;cases e
 ·rw[bp λz=>?_]
  ·exact I.base.mR b ts e
  ·have q:=I.base.mR b ts e;rw[z,fr]at q;cases q
 ·rw[bp λz=>?_]
  ·exact I.base.lI b o u e
  ·have q:=I.base.lI b o u e;rw[z,fr]at q;cases q
 ·obtain⟨more,q⟩:=I.base.nM b p e;exact⟨more,by rw[bp λz=>(by rw[z,fr]at q;cases q)];exact q⟩
 ·rw[bp λz=>?_]
  ·exact I.free
  ·obtain⟨m,⟨o,es,ep,g,hd2,_⟩,_⟩:=I.loc;rw[z,he]at g;cases g;rw[hd]at hd2;cases hd2
 ·rw[bp λz=>?_]
  ·exact I.f' y c e
  ·obtain⟨v,o,g,hd2⟩:=I.cell y c e;rw[z,he]at g;cases g;rw[hd]at hd2;cases hd2
 ·obtain⟨r,L,M⟩:=I.pin p hp;refine⟨r,?_,M⟩;rw[bp λz=>?_]
  ·exact L
  ·obtain⟨o,e⟩:=C.pn p (by simpa using hp);rw[z,nw]at e;cases e
 ·by_cases z:b=a
  ·subst z;rw[bM]at e;cases e;exact⟨he,⟨oe,he⟩,λS h2 p k=>k _ p⟩
  ·rw[bp z]at e;exact(I.cY b u e).pK (λ_ _ _ q=>q) (λc q=>by rw[bp (bS q fr)];exact q) λc xs q=>by rw[bp (bS q fr)];exact q
theorem Aj{n:Str}(I:Inv X U Z H s)(hN:X.N.Nodup)(hi:X.N[i]?=some n)(hl:X.env.scope.names.lookup n=some .local)(q:∀s',Inv X U (Z.set i none) H s'->ae () s'):wpAny M A (do bindName X.env n .none;unbindBehindTheSuite X.env n pos) ae E s:=by
 obtain⟨m,hn,hlk⟩:=id I.loc;have Gk:(X.env.scope.kind== .class||(X.env.scope.kind== .module&&X.env.locals !=X.env.globals))=false:=by rw[I.ok.kind];rfl
 obtain⟨oL,_,_,F3,_⟩:=id hn;refine wpAny_nameGoes_keeps hl hn Gk λh' v PY hs=>q _ ?_
 have ne:∀b o,X.gA.heap.get? b=some o->b≠X.env.locals:=λb o e=>cc (dh (bx e) I.ok.above);refine⟨I.ok,I.os,I.bare,⟨λb o e n hb L=>?_,λb o e n hb L=>?_,I.base.free,λb o e L=>?_,I.base.mR,I.base.lI,I.base.nM⟩,⟨_,PY,λj y w g S e3=>?_⟩,λy c e=>?_,I.free,I.f',λp hp=>?_,λb u e=>?_,by rw[kQ];exact I.len⟩
 ·exact(hs.2 b (ne b o e)).trans (I.base.keep b o e n hb L)
 ·obtain⟨sl,g⟩:=I.base.slot b o e n hb L;exact⟨sl,(hs.2 b (ne b o e)).trans g⟩
 ·obtain⟨o1,g⟩:=I.base.there b o e L;exact⟨o1,(hs.2 b (ne b o e)).trans g⟩
 ·by_cases hj:j=i
  ·subst hj;have hjl:j<Z.length:=by rw[I.len];exact(gu.mp hi).1
   rw[oY hjl]at S;cases S
  ·rw[my (Ne.symm hj)]at S;obtain⟨u,r,l⟩:=hlk j y w g S e3;refine⟨u,r,?_⟩;rcases l with⟨k,e⟩|⟨k,c,e,z⟩
   ·refine .inl ⟨k,?_⟩;have hy:y≠n:=λz=>hj (t8 hN g (z▸hi));show(if y=n then v else m y)=some u;rw[bc hy];exact e
   ·exact .inr ⟨k,c,e,z.sameBut hs (I.HM y c e)⟩
 ·obtain⟨w,z⟩:=I.cell y c e;exact⟨w,z.sameBut hs (I.HM y c e)⟩
 ·obtain⟨e,n2,ne2,nf,d⟩:=I.pin p hp;exact⟨(hs.2 p.1 ne2).trans e,n2,ne2,nf,d⟩
 ·refine(I.cY b u e).pK (λc w hc z=>(hs.2 c λy=>?_).trans z) (λ_ z=>z) λ_ _ z=>z;subst y;rcases hc with z2|z2
  ·rw[<-z2,I.free]at e;cases e
  ·rw[I.free]at z2;cases z2
end
theorem cI.none:cI K B H Z (List.replicate Z.length .no):=by
 have no:∀(i:Nat) (c:Cell),(List.replicate Z.length Cell.no)[i]?=some c->c=.no:=λi c e=>by
  rw[sR]at e;split at e
  ·exact(Option.some.inj e).symm
  ·cases e
 exact⟨w8,(λi t e=>by cases no i _ e),(λi ts e=>by cases no i _ e),(λi j ts us D _ e=>by cases no i _ e)⟩
def cI.unset {Y:bV}(h:cI K B H Z Y)(n:fT Y)(i:Nat):cI K B H (Z.set i Option.none) (Y.set i .no):=by
 refine⟨by rw[kQ,kQ];exact h.len,λj t e=>?_,λj ts e=>?_,λj k ts us D _ e=>?_⟩
 ·rcases fR e with⟨_,_,z⟩|⟨b,e⟩
  ·cases z
  ·obtain⟨v,g,r⟩:=h.sh j t e;exact⟨v,by rw[my b];exact g,r⟩
 ·rcases fR e with⟨_,_,z⟩|⟨b,e⟩
  ·cases z
  ·exact absurd e (n j ts)
 ·rcases fR e with⟨_,_,z⟩|⟨b,e⟩
  ·cases z
  ·exact absurd e (n j ts)
def fT.unset {Y:bV}(h:fT Y)(i:Nat):fT (Y.set i .no):=λj ts e=>by
 rcases fR e with⟨_,_,z⟩|⟨b,e⟩
 ·cases z
 ·exact h j ts e
noncomputable abbrev Cx.lh (X:Cx)(pn:List (Addr×Obj))(E':Value->Shared->Prop):Cx:={X with pn:=pn,xe:=E'}
noncomputable abbrev Cx.qa (X:Cx)(pn:List (Addr×Obj))(e:Value):Cx:={X with A:=X.A.mark (some e),calm:=false,pn:=pn,xe:=fun _ _=>False}
section
variable {pn:List (Addr×Obj)}
theorem Cx.Ok.lh (ok:X.Ok):(X.lh pn E).Ok:=⟨ok.mod,ok.kind,ok.glob,ok.blt,ok.above,ok.inj,ok.has,ok.PX,ok.hd,ok.frames,ok.M0,ok.U2,ok.bs,ok.HL,ok.AO,ok.Cu,ok.rB,ok.JI⟩
def Cx.Ok.mh (ok:(X.lh pn E).Ok):X.Ok:=⟨ok.mod,ok.kind,ok.glob,ok.blt,ok.above,ok.inj,ok.has,ok.PX,ok.hd,ok.frames,ok.M0,ok.U2,ok.bs,ok.HL,ok.AO,ok.Cu,ok.rB,ok.JI⟩
theorem Cx.Ok.qa (ok:X.Ok):(X.qa pn af).Ok:=⟨ok.mod,ok.kind,ok.glob,ok.blt,ok.above,ok.inj,ok.has,ok.PX,(λz=>by cases z),ok.frames,ok.M0,ok.U2,ok.bs,ok.HL,ok.AO,ok.Cu,ok.rB,ok.JI⟩
theorem Inv.lh (I:Inv X U Z H s):Inv (X.lh (X.pn++U) E) [] Z H s:=⟨I.ok.lh,I.os,I.bare,I.base,I.loc,I.cell,I.free,I.f',λp hp=>I.pin p (by simpa using hp),I.cY,I.len⟩
theorem Inv.mh (I:Inv (X.lh (X.pn++U) E) [] Z H s):Inv X U Z H s:=⟨I.ok.mh,I.os,I.bare,I.base,I.loc,I.cell,I.free,I.f',λp hp=>I.pin p (by simpa using hp),I.cY,I.len⟩
theorem Inv.qa (I:Inv (X.lh pn E) [] Z H s):Inv (X.qa pn af) [] Z H s:=⟨I.ok.mh.qa,I.os,I.bare,I.base,I.loc,I.cell,I.free,I.f',I.pin,I.cY,I.len⟩
def Inv.Ll (ok:X.Ok)(I:Inv (X.qa (X.pn++U) af) [] Z H s):Inv X U Z H s:=⟨ok,I.os,I.bare,I.base,I.loc,I.cell,I.free,I.f',λp hp=>I.pin p (by simpa using hp),I.cY,I.len⟩
theorem SP.mh {D:Ends}{f:Flow}(h:SP (X.lh (X.pn++U) E) [] D f s):SP X U D f s:=by
 cases f with
 |next=>obtain⟨dF,H',I,q⟩:=h;exact⟨dF,H',I.mh,q⟩
 |brk=>obtain⟨dF,H',I,q⟩:=h;exact⟨dF,H',I.mh,q⟩
 |cont=>obtain⟨dF,H',I,q⟩:=h;exact⟨dF,H',I.mh,q⟩
 |ret u=>obtain⟨v,dF,H',I,r,q⟩:=h;exact⟨v,dF,H',I.mh,r,q⟩
end
structure qY(K:Frag)(mg:Str->Option Value)(c:Str)(xs:List Str):Prop where
 mg:mg c=some (.ref (clsAt K c))
 all:∀x∈xs,PySem.W.exmOne K (.ref (clsAt K x)) (.ref (clsAt K c))=some true
noncomputable def X4(N i:Nat)(xs:List Str)(x:Str)(A:Ab)(G2:bV->Ab->Rz Out):Rz Out:=if xs.contains x=true then match G2 ((List.replicate N Cell.no).set i (.sh (.at A.length))) (A++[.Em x])with
 |.ok (.nx Y) A=>.ok (.nx (Y.set i .no)) A
 |.ok (.ret t) A=>.ok (.ret t) A
 |_=>.bad
 else .bad
def Fm(N i:Nat)(xs:List Str)(r:Rz Out)(G2:bV->Ab->Rz Out):Rz Out:=match r with
 |.ok o A=>.ok o A
 |.exc (.str x) A=>X4 N i xs x A G2
 |_=>.bad
section
variable {c:Str}{tp hp:Pos}{G2:bV->Ab->Rz Out}
theorem Qr.X5 {h0 h:Heap}{c:Value}(u:Qr h0 H h a c):PySem.W.Looks (model P w) h (typeOf (.ref a)) c:=by
 obtain⟨⟨b,vs,a0,he,rfl,_⟩,_,_⟩:=u;exact(mO (M:=model P w) (part:=none) he).andThen (f:=λo:Obj=>pure o.cls) .now
theorem Lm(Tc:qY X.K X.mg c ps)(hb:∀pn E',oU (X.lh pn E') ah (tZ (X.lh pn E') aK))(hs:∀pn e,oU (X.qa pn e) (ai::aj) (tZ (X.qa pn e) G2))(hN:X.N.Nodup)(hi:X.N[i]?=some av)(hl:X.env.scope.names.lookup av=some .local)
  (cG:X.stack=X.env::X.outer) (hf:X.env.frame=some X.env.locals) (hx:X.ex=[]) (Ng:zf X av) (hg:Gl X c) (fM:Db c):
  PS X (.Try ah [.ExceptHandler (some (.Name c tp)) (some av) (ai::aj) hp] [] [] pos) (tZ X λY A=>Fm X.N.length i ps (aK Y A) G2):=by
 intro U s Z H D I ⟨B0,H0,B,A,Y,Ci,g,ha,r,no,q⟩;have l:=I.ok;refine wpAny_Try_except (d_ (hb (X.pn++U) _ [] s Z H D I.lh ⟨B0,H0,B,A,Y,Ci,g,ha,r,no,?_⟩) (λf s1 h1=>?_) λe s1 z=>z)
 ·have b:gZ (XE X B0 H0) (Fm X.N.length i ps (aK Y A) G2) (vK X D B0 H0):=q;cases eG:aK Y A with
  |bad=>rw[eG]at b;exact fe b
  |ok o A1=>rw[eG]at b;cases o<;>exact b
  |exc t A1=>
   rw[eG]at b;cases t with
   |str x=>
    obtain⟨hxs,n⟩:=iw b;intro B' H' g' ke e s1 xs1;obtain⟨a,ZC,h0,rfl,C⟩:=xs1.cau;refine OM C hx cG hf l.frames λs3 S T3=>?_
    refine wpAny_handleBy_cons (codeAny_handlers_test ?_) (by intro z;cases z);refine wX l.kind hg (Calls.loadGlobal_global (by rw[l.glob];exact l.mod.glob.keeps S.inv.bk) Tc.mg ?_) fM;refine PySem.W.exm_one S.inv.l9 S.GP.X5 (Tc.all x (by simpa using hxs)) _ _ _ s3 (λ_ _ z=>z) ?_
    refine codeAny_handlers_suite_as ?_
    refine IW S T3 hx λs4 C4 T4=>?_
    refine hide λP go=>?_
    obtain⟨L,hc4,he4,I4⟩:=C4.X3 hx;refine go ?_
    have M:H' a=none:=C4.GP.fr;refine xD (X:=X.lh (X.pn++U) _) I4 hN hi (.inl hl) (v:=.ref a) rfl (λs5 I5=>?_) Ng;have g5:=ke.push (p:=a) (o:=.Em x) M (bg.upd M) ⟨qT,L,bM,hc4⟩;have b9:ZC.length=X.N.length:=C4.inv.len;have r5:cI X.K (pY B' a A1.length) (upd H' a (.ext λh=>h.get? a=some L)) (ZC.set i (some (.ref a))) ((List.replicate X.N.length Cell.no).set i (.sh (.at A1.length))):=by
     rw[<-b9];exact cI.none.set i (.at iJ)
    have no5:fT ((List.replicate X.N.length Cell.no).set i (.sh (.at A1.length))):=fT.set (λj ts z=>by
     rw[sR]at z;split at z<;>cases z) i _
    have key:gZ (λ_ _=>False) (G2 ((List.replicate X.N.length Cell.no).set i (.sh (.at A1.length))) (A1++[.Em x])) λo A2=>match o with
      |.nx Y=>vK X D B0 H0 (.nx (Y.set i .no)) A2
      |.ret t=>vK X D B0 H0 (.ret t) A2
      |_=>False:=by
     cases e2:G2 ((List.replicate X.N.length Cell.no).set i (.sh (.at A1.length))) (A1++[.Em x])with
     |bad=>simp only[e2]at n;exact n
     |exc c1 A2=>simp only[e2]at n;exact n
     |ok o A2=>
      simp only[e2]at n;cases o<;>exact n
    refine d_ (hs (X.pn++U) (.ref a) [] s5 _ _ {nx:=λwy H2=>D.nx (wy.set i none) H2,rt:=D.rt} I5.qa ⟨B0,H0,pY B' a A1.length,A1++[.Em x],_,Ci,g'.trans Ci g5.1,g5.2,r5,no5,?_⟩) (λf s6 h6=>?_) λ_ _ z=>(show False from z).elim
    ·refine(key.imp λ_ _ z=>z.elim).mono λo A2 z=>?_
     cases o with
     |nx iC=>exact λwy B2 H2 g2 p8 r2 n2=>z (wy.set i none) B2 H2 g2 p8 (r2.unset n2 i) (n2.unset i)
     |ret t=>exact z
     |_=>exact z.elim
    ·cases f with
     |next=>
      obtain⟨σ6,H6,I6,q6⟩:=h6;exact Aj (I6.Ll l) hN hi hl λs7 I7=>⟨_,H6,I7,q6⟩
     |ret u=>
      obtain⟨v,σ6,H6,I6,rv,q6⟩:=h6;exact Aj (I6.Ll l) hN hi hl λs7 I7=>⟨v,_,H6,I7,rv,q6⟩
     |_=>obtain⟨_,_,_,z⟩:=h6;exact fe z
   |_=>exact fe b
 ·cases f with
  |next=>exact tN h1.mh
  |_=>exact h1.mh
end
section
variable {es:List Expr}{E:bV->Ab->Rz Tr}{keys:List (Option Expr)}{P:bV->Ab->Rz (List (Tr×Tr))}
structure Tq(X:Cx)(pos:Pos)(keys:List (Option Expr))(aA:List Expr)(P:bV->Ab->Rz (List (Tr×Tr))):Prop where
 h:∃A5,U5 X pos keys aA A5/\∀Z H Q,(∃B A Y,HA X.K B A H/\cI X.K B H Z Y/\fT Y/\gZ (XE X B H) (P Y A) fun Sw A'=>∀Of B' H',Grows B H B' H'->HA X.K B' A' H'->yi X.K (cj B' H') Of Sw->Q Of H')->xN A5 Z H Q
theorem Ln:Tq X pos [] [] λ_ A=>.ok [] A:=⟨[],Gh,λZ H Q ⟨B,A,Y,ha,r,n,q⟩=>q [] B H .refl ha .nil⟩
def QM(k:Rz Tr)(v:Ab->Rz Tr)(r:Ab->Rz (List (Tr×Tr))):Rz (List (Tr×Tr)):=k.bind λx A=>(v A).bind λy A=>(r A).bind λps A=>.ok ((x,y)::ps) A
theorem Lo(hk:PE X e (tE X aI))(hv:PE X o (tE X aJ))(hr:Tq X pos keys aA P):Tq X pos (some e::keys) (o::aA) λY A=>QM (aI Y A) (aJ Y) (P Y):=by
 obtain⟨A5,h1,h2⟩:=hr.h;refine⟨_,CI hk hv h1,λZ H Q ⟨B,A,Y,ha,r,n,q⟩=>?_⟩;refine⟨B,A,Y,ha,r,n,(gZ.bind q).mono λx A1 b u B1 H1 g1 g l=>⟨B1,A1,Y,g,r.grow n g1,n,((gZ.bind b).imp λc A' z=>z.grow ha.hb g1).mono λy A2 I w B2 H2 g2 L M=>h2 _ _ _ ⟨B2,A2,Y,L,(r.grow n g1).grow n g2,n,((gZ.bind I).imp λc A' z=>z.grow ha.hb (g1.trans ha.hb g2)).mono λps A3 S Of B3 H3 g3 GR r3=>?_⟩⟩⟩;exact S _ B3 H3 ((g1.trans ha.hb g2).trans ha.hb g3) GR (.cons ((l.same g2.jU).same g3.jU) (M.same g3.jU) r3)
def isE(A:Ab)(i:Nat):Bool:=match A[i]? with
 |some (.bX [])=>true
 |_=>false
def X6(P:Ab->Rz (List (Tr×Tr)))(A:Ab):Rz Tr:=(P (A++[.bX []])).bind λps A2=>if ps.length<=15/\isE A2 A.length=true then(gO (yh ps) A2).bind λbC A2=>.ok (.at A.length) (A2.set A.length (.bX (md [] bC)))else .bad
theorem ON(h:Tq X pos keys aA P)(u4:keys.all (·.isSome)=true:=by rfl) (hl:keys.length=aA.length:=by rfl) (h0:keys.isEmpty=false:=by rfl) (NK:keys.length<=15:=by decide):PE X (.Dict keys aA pos) (tE X λY A=>X6 (P Y) A):=by
 obtain⟨A5,h1,h2⟩:=h.h;refine(Gi h1 u4 hl (λz=>by rw[z]at h0;cases h0) NK).weak λZ H Q ⟨B,A,Y,ha,r,n,q⟩ p hp=>?_
 obtain⟨g1,nC⟩:=ha.push (p:=p) (o:=.bX []) hp (bg.upd (o:=.dK []) hp) ⟨qT,[],bM,.nil⟩;have rE:(pY B p A.length).ix p=some A.length:=iJ;refine h2 Z _ _ ⟨_,_,Y,nC,r.grow n g1,n,((gZ.bind q).imp λc A' z=>z.grow ha.hb g1).mono λSw A2 g Of B2 H2 g2 p8 r2=>?_⟩;obtain⟨⟨hz,he⟩,g⟩:=iw g;have I:=g2.jU.x _ _ rE;have L:A2[A.length]?=some (.bX []):=by
  unfold isE at he;split at he
  ·assumption
  ·cases he
 obtain⟨hd,l,e0,M⟩:=(show sq X.K B2 H2 p (.bX [])from p8.get I L);have S:l=[]:=by
  have e:=M.keys;cases l with
  |nil=>rfl
  |cons a b=>cases e
 subst S;cases ep:yh Sw with
 |ok bC=>
  rw[ep]at g;obtain⟨kvs,X7,k1,e1,rd⟩:=zZ (X:=X) (H0:=H2) (k:=λz=>z=bC) r2 (by rw[ep];rfl);subst k1;refine⟨e0,kvs,e1,?_,?_⟩
  ·have e2:=cX List.length e1;rw[bu,r2.length]at e2;rw[<-e2];exact hz
  ·obtain⟨g4,h6⟩:=p8.write (o:=.bX (md [] X7)) (u:=.dK (i9 [] kvs)) I ⟨hd,_,bM,by rw[jv hd];exact d6.merge rd d6.nil⟩;exact(show∀v B' H',Grows B H B' H'->HA X.K B' (A2.set A.length (.bX (md [] X7))) H'->Rep X.K (cj B' H') v (.at A.length)->Q v H' from g) (.ref p) B2 _ ((g1.trans ha.hb g2).trans ha.hb g4) h6 (.at I)
 |_=>rw[ep]at g;exact fe g
end
section
variable {a b:Expr}{es:List Expr}{ix:List (Option Nat)}{T:oQ}
def Fo{Q:VK}(hT:jV T)(q:tF X (λY=>vI ix T aF F (L Y) Y) Z H Q):U7 (tJ X L) ix (Qh X.K T) (Qg X.K aF) (Qf X.K F) Z H (λv H'=>k_ X H' (Q v)):=by
 obtain⟨B,Y,hb,r,q⟩:=q;refine⟨B,Y,hb,r,q.bind.mono λts b J H1 g gt D l=>?_⟩;by_cases hz:ts.length<=ee
 ·rw[aW hz]at b;exact wB hT (wA ix Y) (g.hb hb) gt hz ((g.Iq r).comp ix (kX l)) l (Fi.bind b) λys H' k s' n=>by
   obtain⟨M,S,I,ku⟩:=g.Qt hb s';exact ku _ (k _ M S (I n) λp e=>by cases e;exact .lst (g.free l) (I n))
 ·rw[bc hz]at b;exact b.elim
theorem Lp(Lk:gY X ps ix ax)(hit:PI X tg am (tJ X L))(lJ:NY X ax ps tg o aA T aF F)(hT:jV T)(hN:X.N.Nodup:=by assumption) (hc:X.calm=true:=by rfl) (hi:X.N[i]?=some x:=by rfl) (hx:Loc X.env.scope x:=by first|exact Or.inl rfl|exact Or.inr rfl)
  (HZ:swapsWith (.ListComp o [⟨tg,am,aA,0⟩] ax pos) (some (.Name x p)) b8.line X.env=pure true:=by rfl) (hs:isSet am=false:=by rfl) (hf:zf X x:=by first|exact .inl rfl|exact .inr rfl|assumption):
  PS X (.Assign [.Name x p] (.ListComp o [⟨tg,am,aA,0⟩] ax pos) b8) (tZ X λY A'=>Bi i (vg (vI ix T aF F (L (dv A' Y)) (dv A' Y)) A') Y):=
 (xV Lk hc hN hi hx hit lJ.U' HZ (gC hs) hf).Vc.weak λD Z H ⟨B0,H0,B,A',Y,hb,g,ha,r,n,q⟩=>Fo (Q:=λv H'=>D.nx (Z.set i (some v)) H') hT (sA (F:=λY=>vI ix T aF F (L Y) Y) (p5 (F:=λY A'=>vg (vI ix T aF F (L (dv A' Y)) (dv A' Y)) A') hb g ha r n q.bind λt A2 v B' H' b g' l I M _=>b _ B' H' g' l (I.set i M) (n.set i t)))
end
section
variable {P:bV->Ab->Rz Bool}{hp:Pos}{G2:bV->Ab->Rz Out}
def Ts(r:Rz Tr):Rz Bool:=r.bind λt A=>gO (pT t) A
theorem Tt(h:PE X e (tE X aI))(he:mW e=true:=by rfl):PT X e (Qs X λY A=>Ts (aI Y A)):=
 (Cw h (xZ he)).weak λZ H Q ⟨B,A,Y,ha,r,av,q⟩=>⟨B,A,Y,ha,r,av,q.bind.mono λt A1 b v B1 H1 g1 g l=>by
  obtain⟨o,h1,h2⟩:=x9 (l.same fH) (m4 (X:=X) (H:=H1) b);exact⟨o,h1,h2 B1 H1 g1 g⟩⟩
def Tu(r:Rz Bool):Rz Bool:=r.bind λo A=>.ok (!o) A
theorem eq_not(h:PT X e (Qs X P)):PT X (.UnaryOp .Not e pos) (Qs X λY A=>Tu (P Y A)):=
 (JM h).weak λZ H Q ⟨B,A,Y,ha,r,av,q⟩=>⟨B,A,Y,ha,r,av,q.bind⟩
variable {st:Stmt}
def X8:PE X e (tP X λ_=>.bad):=λ_ _ _ _ _ _ ⟨_,_,_,_,q⟩=>(show False from q).elim
def X9:PS X st (tS X λ_=>.bad):=λ_ _ _ _ _ _ ⟨_,_,_,_,_,_,_,q⟩=>(show False from q).elim
end
open PySem.W
structure Bz(K:Frag)(D:Addr):Prop where
 ga:findIn K (.ref D) "__getattribute__"=some (some (.builtin "BaseException.__getattribute__"))
 gh:findIn K (.ref D) "__getattr__"=some none
 cl:findIn K (.ref D) "__class__"=some (some (.builtin "object.__class__"))
 ob:mroIn K D (.type "object")=some true
 be:mroIn K D (.type "BaseException")=some true
section
variable {g:Array GenState}{d:Drawn}{t:Nat}{os:OsState}{o:Obj}{K:Frag}
theorem Tv(G:Bz K au)(X:K.In aa)(q:aa.get? a=some o)(hc:o.cls=.ref au)(hq:aw (.ok (.ret (.ref au))) ⟨aa,g,d,t,os⟩):
  codeAny (model P w) A (.call (.builtin "getset_descriptor.__get__") ⟨[.builtin "object.__class__",.ref a,af],[]⟩) aw ⟨aa,g,d,t,os⟩:=by
 have b:(⟨aa,g,d,t,os⟩:Shared).TypeIs (.builtin "object.__class__") "getset_descriptor":=xg;have l:Looks (model P w) aa (typeOf (.ref a)) (.ref au):=hc▸(mO q).andThen .now;have n:Looks (model P w) aa (isSubtype (.ref au) (.type (".".intercalate ("object.__class__".cutAt '.').dropLast))) true:=by rw[show".".intercalate ("object.__class__".cutAt '.').dropLast="object" by decide+kernel];exact looks_mroIn X G.ob
 refine xk F.slot_gs_get.plain F.entry_gs_get (F.slot_gs_get.check _ _ _ _ _ _ _ _ b (F.args_gs_get _ _ _) ?_)
 repeat(any_goals (first|assumption|(with_reducible refine l.at ?_)|(with_reducible refine n.at ?_)|wp_step))
 refine⟨Code.quiet_builtin _ (by decide+kernel),fY F.entry_object_class ?_⟩
 repeat(any_goals (first|assumption|(with_reducible refine l.at ?_)|wp_step))
theorem Lq{tk:Tok}{Q:Fin->Shared->Prop}(G:Bz K au)(X:K.In aa)(q:aa.get? a=some o)(hc:o.cls=.ref au)(hq:Q (.done (.ret (.ref au))) ⟨aa,g,d,t,os⟩):
  wpAny (model P w) A (Builtin.«object.__getattribute__» ⟨[.ref a,.str "__class__" tk],[]⟩) Q E ⟨aa,g,d,t,os⟩:=by
 have b:Looks (model P w) aa (typeOf (.ref a)) (.ref au):=hc▸(mO q).andThen .now;have l:=tT (M:=model P w) X G.cl;have n:(⟨aa,g,d,t,os⟩:Shared).TypeIs (.builtin "object.__class__") "getset_descriptor":=xg;have r:=xg;have I:=F.slot_gs_get.lookup;have L:=F.slot_gs_set.lookup
 repeat(any_goals (first|assumption|(with_reducible refine b.at ?_)|(with_reducible refine l.at ?_)|wp_step))
 refine Tv G X q hc ?_
 repeat(any_goals (first|assumption|wp_step))
theorem Lr{M:Model}(G:Bz K au)(X:K.In aa)(q:aa.get? a=some o)(hc:o.cls=.ref au)(hq:ae () ⟨aa,g,d,t,os⟩):wpAny M A (checkBuiltinCall "BaseException.__getattribute__" ⟨[.ref a,af],[]⟩) ae E ⟨aa,g,d,t,os⟩:=by
 have b:Looks M aa (typeOf (.ref a)) (.ref au):=hc▸(mO q).andThen .now;have l:=looks_mroIn (M:=M) X G.be;have k1:builtinKind "BaseException.__getattribute__"=some .slot:=by decide+kernel
 have k2:splitId "BaseException.__getattribute__"=some ("BaseException","__getattribute__"):=by decide+kernel
 have n:=F.args_bexc_ga (.ref a) af;simp only[checkBuiltinCall,k1,k2];refine aT ?_
 unfold isInstance
 repeat(any_goals (first|assumption|(with_reducible refine b.at ?_)|(with_reducible refine l.at ?_)|wp_step))
theorem OO{tk:Tok}(G:Bz K au)(X:K.In aa)(q:aa.get? a=some o)(hc:o.cls=.ref au)(hq:aw (.ok (.ret (.ref au))) ⟨aa,g,d,t,os⟩):
  codeAny (model P w) A (.call (.builtin "BaseException.__getattribute__") ⟨[.ref a,.str "__class__" tk],[]⟩) aw ⟨aa,g,d,t,os⟩:=
 xk (by decide+kernel) F.entry_bexc_ga (Lr G X q hc (Lq G X q hc hq))
theorem X_{tk:Tok}(FB:Slot "ValueError" "__getattribute__" "BaseException.__getattribute__")(G:Bz K au)(X:K.In aa)(q:aa.get? a=some o)(hc:o.cls=.ref au)(hq:Q (.ref au) ⟨aa,g,d,t,os⟩):
  wpAny (model P w) A (getAttrBy (.ref a) (.str "__class__" tk) false) Q E ⟨aa,g,d,t,os⟩:=by
 have b:Looks (model P w) aa (typeOf (.ref a)) (.ref au):=hc▸(mO q).andThen .now;have l:=tT (M:=model P w) X G.ga;have L2:=tT (M:=model P w) X G.gh;have n:=FB.bind (.ref a);have k0:onTheHeap (Value.builtin "BaseException.__getattribute__")=false:=rfl;have k2:(Value.builtin "BaseException.__getattribute__"==Value.builtin "object.__getattribute__")=false:=by decide+kernel
 have k1:(onTheHeap (Value.ref au)&&Value.builtin "BaseException.__getattribute__"==Value.builtin "object.__getattribute__")=false:=by rw[k2];rfl
 repeat(any_goals (first|assumption|(with_reducible refine b.at ?_)|(with_reducible refine l.at ?_)|(with_reducible refine L2.at ?_)|wp_step))
 refine OO G X q hc ?_
 repeat(any_goals (first|assumption|wp_step))
def OP(FB:Slot "ValueError" "__getattribute__" "BaseException.__getattribute__")(G:Bz K au)(X:K.In aa)(q:aa.get? a=some o)(hc:o.cls=.ref au)(hq:aM (some (.ref au)) ⟨aa,g,d,t+1,os⟩):
  wpAny (model P w) A (getAttr? (.ref a) "__class__") aM E ⟨aa,g,d,t,os⟩:=by
 unfold getAttr? getAttrBy?
 repeat(any_goals (first|assumption|with_reducible apply X_ FB G X q hc|wp_step))
theorem Ls(G:Bz K au)(Gk:(clsIn K au).isSome=true):KitX K (.ref a) (.ref au) (λaa=>∃o,aa.get? a=some o/\o.cls=.ref au) where
 ty:=λM aa X ⟨o,b,l⟩=>l▸(mO b).andThen .now
 it:=λM aa X _=>by
  unfold clsIn at Gk;split at Gk
  ·rename_i S d' r Vz I;intro A' Q' E' s' k q;unfold isType loadHead;exact aT (wpAny_loadPart (k _ _ (X _ _ I)) (bf q))
  ·cases Gk
 ne:=λaa tp dd cy n sl X L=>by
  refine Bool.eq_false_iff.mpr λq=>?_
  have e:au=tp:=Value.ref.inj (fg.mp q);subst e;unfold clsIn at Gk;split at Gk
  ·rename_i S d' r Vz I;cases(X _ _ I).symm.trans L
  ·cases Gk
 ca:=λ{P w A E Q s} X ⟨o,b,l⟩ k=>by
  obtain⟨aa,g,d,t,os⟩:=s;exact OP F.excAttr_ValueError.ga G X b l k
end
structure i7(K:Frag)(u:Value)(tab:List (Str×Bool)):Prop where
 all:∀x b,tab.lookup x=some b->kitOne K (.ref (clsAt K x)) u=some b/\Bz K (clsAt K x)/\(clsIn K (clsAt K x)).isSome=true
noncomputable def IX(tab:List (Str×Bool)):Tr->Rs Tr
 |.zR x=>match tab.lookup x with
  |some b=>.ok (.bl b)
  |none=>.bad
 |_=>.bad
section
variable {p2:Pos}{c:Str}{tab:List (Str×Bool)}{cv:V}
theorem DB(T:i7 X.K af tab)(hu:∀u',RelV cv u'->u'=af):gL X (.builtin "isinstance") (λxs H Q=>∃B y t,HB B H/\xs=[y,cv]/\Rep X.K (cj B H) y t/\Fi X H (IX tab t) λt=>∀v H',bg H H'->Rep X.K (cj B H') v t->Q v H'):=by
 intro U s Z H xs us Q I r ⟨B,y,t,hb,ex,L,q⟩;subst ex;obtain⟨v,M,rfl,r1,r2⟩:=vals2 r;cases hu M r2;cases L with
 |@zR a n x h S=>
  cases r1;have g:=q;unfold IX at g;dsimp only at g;cases l:tab.lookup x with
  |none=>rw[l]at g;exact fe g
  |some b=>
   rw[l]at g;obtain⟨k1,k2,k3⟩:=T.all x b l;obtain⟨ho,_⟩:=(show cZ X.prog X.w H s.heap a (.ext λh=>h.get? a=some n)from I.cY a _ (eB h));exact ff (Ls k2 k3) I.l9 ⟨n,ho,S⟩ k1 (λz=>nomatch z) λtk=>⟨.bl b,H,I.tok _,rfl,(show∀v H',bg H H'->Rep X.K (cj B H') v (.bl b)->Q v H' from g) _ H (bg.refl H) (.bl b)⟩
 |_=>exact fe q
def DC(hv:PE X (.Name c p2) (tC cv))(he:PE X e (tP X F))(cG:isStar e=false):PA X [e,.Name c p2] (λZ H Q=>∃B Y,HB B H/\cI X.K B H Z Y/\Fi X H (F Y) λt=>∀v H',bg H H'->Rep X.K (cj B H') v t->Q [v,cv] H'):=
 (lS he (lS hv se (bL _ _ rfl)) (bL _ _ cG)).weak λZ H Q ⟨B,Y,hb,r,q⟩=>⟨B,Y,hb,r,q.mono λt b v H1 s1 g=>b v H1 s1 g⟩
theorem Tw(T:i7 X.K (.ref (clsAt X.K c)) tab)(hm:X.mg c=some (.ref (clsAt X.K c)))(hi:X.mg "isinstance"=none)(he:PE X e (tP X F))(hg:Gl X c:=by rfl) (Lu:Gl X "isinstance":=by rfl) (fM:Db c:=by decide) (cG:bA [e,.Name c p2]=true:=by rfl):
  PE X (.Call (.Name "isinstance" p) [e,.Name c p2] [] pos) (tP X λY=>(F Y).bind (IX tab)):=
 (pM (DB (cv:=.ref (clsAt X.K c)) T λu' z=>z) Lu hi rfl (DC (AS (v:=.ref (clsAt X.K c)) hg hm rfl fM) he (bq cG).1) (by decide) (by decide) (bL _ _ (bq cG).1) (cR (bq cG).2)).weak λZ H Q ⟨B,Y,hb,r,q⟩=>⟨B,Y,hb,r,q.bind.mono λt b v H1 s1 rv=>⟨B,v,t,hb.same s1,rfl,rv,(b.same s1).mono λt k v H2 s2 g=>k v H2 (s1.trans s2) g⟩⟩
theorem Tx(T:i7 X.K (.type ay) tab)(hm:X.mg c=none)(hi:X.mg "isinstance"=none)(he:PE X e (tP X F))(hv:bootBuiltins c=some (.type ay):=by rfl) (hg:Gl X c:=by rfl) (hn:c≠"__name__":=by decide) (Lu:Gl X "isinstance":=by rfl) (fM:Db c:=by decide) (cG:bA [e,.Name c p2]=true:=by rfl):
  PE X (.Call (.Name "isinstance" p) [e,.Name c p2] [] pos) (tP X λY=>(F Y).bind (IX tab)):=
 (pM (DB (cv:=.ty ay) T λu' z=>z) Lu hi rfl (DC (F4 (v:=.ty ay) hg hm hv rfl hn fM) he (bq cG).1) (by decide) (by decide) (bL _ _ (bq cG).1) (cR (bq cG).2)).weak λZ H Q ⟨B,Y,hb,r,q⟩=>⟨B,Y,hb,r,q.bind.mono λt b v H1 s1 rv=>⟨B,v,t,hb.same s1,rfl,rv,(b.same s1).mono λt k v H2 s2 g=>k v H2 (s1.trans s2) g⟩⟩
end
noncomputable def rQ:List Tr->Option (List Int)
 |[]=>some []
 |.int i::ts=>(rQ ts).map λr=>i::r
 |_=>none
theorem Ak{W:Vw}:∀{vs:List V} {ts:List Tr} {ns:List Int},bP K W vs ts->rQ ts=some ns->vs=ns.map V.int
 |[],[],ns,_,e=>by cases e;rfl
 |[],_::_,_,h,_=>by cases h
 |v::vs,ts,ns,h,e=>by
  cases h with
  |cons h r=>
   cases h with
   |int i=>
    rename_i ts;have b:(rQ ts).map (λr=>i::r)=some ns:=e;cases q:rQ ts with
    |none=>rw[q]at b;cases b
    |some rs=>
     rw[q]at b;cases b;rw[Ak r q];rfl
   |_=>cases e
noncomputable def rR(ns:List Int):Int:=ns.getD (argBest (λi j=>decide (ns.getD i 0>ns.getD j 0)) (ns.length - 1)) 0
def Lv:List Tr->Rs Tr
 |[.lst ts]=>match rQ ts with
  |some ns=>if 0<ns.length then .ok (.int (rR ns))else .bad
  |none=>.bad
 |[.int i,.int j]=>.ok (.int (if j>i then j else i))
 |_=>.bad
section
theorem IY(hc:X.calm=true):gL X (.builtin "max") (λxs H Q=>∃(a:Addr) (ns:List Int),xs=[.ref a]/\lR X.K H a (ns.map V.int)/\0<ns.length/\Q (.int (rR ns)) H):=by
 intro U s Z H xs us Q I r h;obtain⟨a,ns,rfl,ha,ij,q⟩:=h;obtain⟨u,rfl,g⟩:=vals1 r;cases(show u=Value.ref a from g);obtain⟨cy,rv,pl,_⟩:=I.list ha;have l:cy.length=ns.length:=by have e:=rv.length;rw[bu]at e;exact e.symm
 have L:∀(i:Nat) (v:Value),cy.toArray[i]?=some v->∃t,v=.int (ns.getD i 0) t:=λi v hv=>by
  have M:cy[i]?=some v:=by simpa using hv
  have hi:i<ns.length:=by rw[<-l];exact(gu.mp M).1
  obtain⟨u,S,g⟩:=rv.get (i:=i) (x:=V.int ns[i]) (by rw[ck,bY hi];rfl);rw[M]at S;cases S;obtain⟨t,rfl⟩:=(show∃t,v=Value.int ns[i] t from g);exact⟨t,by rw[eN,bY hi];rfl⟩
 have n:=pl.isList;have gB:a<s.heap.objs.size:=by obtain⟨_,e,_⟩:=n;exact bx e
 refine call_max_walk (kN n ?_);refine⟨_,_,_,_,_,_,_,rfl,Walks.list (A:=X.A.in1) (I.ok.hd hc) _ a (cc gB) cy.toArray,⟨⟨_,cz _ rfl,rfl,rfl⟩,n.push _⟩,λb hb=>?_,by simpa[l]using ij,CmpOf.ints_gt (λi=>ns.getD i 0) L,λv h' tk hP hk=>?_⟩
 ·show b<(s.heap.push _).objs.size;rw[jD];rcases bG.mp hb with rfl|hb
  ·exact pd _
  ·rw[cV.mp hb];exact lP gB
 ·obtain⟨t,rfl⟩:=L _ v hP;have e:cy.toArray.size=ns.length:=by rw[cW];exact l
  rw[e];refine⟨.int (rR ns),H,I.kept (t':=tk) λb o e=>?_,⟨t,rfl⟩,q⟩;refine hk b o (λhm=>?_) (bR _ e);rw[cV.mp hm]at e;exact absurd (bx e) (eV _)
def Lw(q:Fi X H (Lv ts) aB):(∃us ns,ts=[.lst us]/\rQ us=some ns/\0<ns.length/\aB (.int (rR ns)))\/∃i j:Int,ts=[.int i,.int j]/\aB (.int (if j>i then j else i)):=by
 unfold Lv at q;split at q
 ·rename_i us;cases e:rQ us with
  |none=>rw[e]at q;exact fe q
  |some ns=>
   rw[e]at q;obtain⟨h0,z⟩:=gM q;exact .inl ⟨us,ns,rfl,e,h0,z⟩
 ·exact .inr ⟨_,_,rfl,q⟩
 ·exact fe q
theorem QN(hc:X.calm=true):lU X (.builtin "max") Lv:=by
 intro U s Z H xs us Q I b ⟨B,ts,hb,r,q⟩;rcases Lw q with⟨g,ns,rfl,e,h0,k⟩|⟨i,j,rfl,k⟩
 ·obtain⟨x,rfl,h⟩:=gg r;obtain⟨a,vs,rfl,h,rr⟩:=h.lst_inv;cases Ak rr e;exact IY hc U s Z H _ us Q I b ⟨_,ns,rfl,.of (eB h),h0,k _ H (bg.refl H) (.int _)⟩
 ·obtain⟨x,y,e,h1,h2⟩:=zT r;exact HS hc U s Z H _ us Q I b ⟨i,j,by rw[e,h1.int_inv,h2.int_inv],k _ H (bg.refl H) (.int _)⟩
variable {l:Expr}{p1 p2 XD XF:Pos}
def DD(q:Fi X H (p_ aC) aB):∃ts ss,aC=.lst ts/\oC ts=some ss/\ss.length<64/\aB (.lst ((de (eQ [] ss)).map .str)):=by
 unfold p_ at q;split at q
 ·rename_i ts;cases e:oC ts with
  |none=>rw[e]at q;exact fe q
  |some ss=>
   rw[e]at q;obtain⟨h0,z⟩:=gM q;exact⟨ts,ss,rfl,e,h0,z⟩
 ·exact fe q
theorem yA:∀(xs ss:List Str),(eQ ss xs).length<=ss.length+xs.length
 |[],ss=>bz _
 |x::xs,ss=>by
  have b:=yA xs (gS ss x);have h2:=yp ss x;show(eQ (gS ss x) xs).length<=_;rw[dB];omega
def Fp{ss:List Str}(h:av∈gS ss x):av∈ss\/av=x:=by
 unfold gS at h;split at h
 ·exact .inl h
 ·rcases dr.mp h with h|h
  ·exact .inl h
  ·exact .inr (cV.mp h)
theorem yB:∀{xs ss:List Str} {z:Str},z∈eQ ss xs->z∈ss\/z∈xs
 |[],ss,z,h=>.inl h
 |x::xs,ss,z,h=>by
  rcases yB (xs:=xs) (ss:=gS ss x) h with h|h
  ·rcases Fp h with h|h
   ·exact .inl h
   ·exact .inr (bG.mpr (.inl h))
  ·exact .inr (cu _ h)
theorem Tz(hs:X.mg "sorted"=none)(hm:X.mg "set"=none)(hl:PE X l (tP X F))(hc:X.calm=true:=by rfl) (hg:Gl X "sorted":=by rfl) (Lu:Gl X "set":=by rfl) (cG:bA [l]=true:=by rfl):
  PE X (.Call (.Name "sorted" p1) [.Call (.Name "set" p2) [l] [] XF] [] XD) (tP X λY=>(F Y).bind p_):=
 (pM (yr hc) hg hs rfl (lS (u_ (II hc) Lu hm rfl (lS hl se (bL _ _ (bq cG).1)) (by decide) (by decide) (bL _ _ (bq cG).1) (cR (bq cG).2)) se (bL _ _ rfl)) (by decide) (by decide) (bL _ _ rfl) (cR (es:=[]) rfl)).weak λZ H Q ⟨B,Y,hb,r,q⟩=>⟨B,Y,hb,r,q.bind.mono λt g v H1 s1 n=>by
  obtain⟨ts,ss,rfl,I,S,k⟩:=DD g;cases n with
  |lst h L=>
   obtain⟨rfl,hs⟩:=vn L I;refine⟨_,ss,rfl,.of (eB h),?_,λa M=>⟨a,eQ [] ss,rfl,bM,?_,λD b=>?_⟩⟩
   ·have:scanBound=9007199254740992\/ss.length+1<scanBound:=by
     right;show ss.length+1<scanBound;have NM:65<scanBound:=by decide
     omega
    rcases this with h|h
    ·omega
    ·exact h
   ·have:=yA ss [];simp at this;omega
   ·have s2:bg H1 (upd H1 a (IG X.w a (eQ [] ss))):=bg.upd M;have s3:bg (upd H1 a (IG X.w a (eQ [] ss))) (upd (upd H1 a (IG X.w a (eQ [] ss))) D (.lst ((de (eQ [] ss)).map V.str))):=bg.upd b;exact k _ _ ((s1.trans s2).trans s3) (.zt ((hb.same s1).same s2) b (yx λz hz=>hs z ((yB hz).resolve_left (by simp))))⟩
end
def abb:V->List V->Hp->VK->Prop:=λx xs H Q=>∃a b kvs more,x=.ref a/\xs=[.ref b]/\a≠b/\H a=some (.dK kvs)/\Rd H b (.dK more)/\kvs.length+more.length<=sizeLine/\Q .cA (upd H a (.dK (i9 kvs more)))
theorem IZ:RH X "dict.update" abb:=by
 intro U s Z H x xs v us Q I L M ⟨a,b,kvs,more,S,e2,EV,ha,hb,hz,q⟩;subst S e2;obtain⟨u,rfl,ru⟩:=vals1 M;cases L;cases(show u=Value.ref b from ru);obtain⟨z1,s1,l,r1,r⟩:=(show cZ X.prog X.w H s.heap a (.dK kvs)from I.cY a _ ha);obtain⟨z2,s2,n,r2,d2⟩:=(show cZ X.prog X.w H s.heap b (.dK more)from hb.ok I.cY);refine jF PySem.F.slot_dict_update r.typeIs PySem.F.entry_dict_update (PySem.F.args_dict_update_2 _ _) (meets_dict_update (cp X.prog X.w) a b EV s2) ⟨l,n,r,d2,by rw[<-KV.length r1,<-KV.length r2];exact hz,λh' g _ hs=>?_⟩;have he:∃q,h'.get? a=some q:=let⟨q,_,_,hq,_⟩:=g;⟨q,hq⟩
 have hl:(i9 kvs more).length<=sizeLine:=cF (by have:=jt more kvs;omega) hz;exact⟨.cA,_,uj I (by rw[ha];exact True.intro) hs he (xM hl s1 (r2.merge r1) g),rfl,q⟩
def X'(o:Rz Tr)(k:Ab->Rz Tr):Rz Tr:=o.bind λt A=>match t with
 |.at i=>if m7 A i=true then(k A).bind λb A=>match b with
  |.bX E2=>if m7 A i=true/\(oR A i).length+E2.length<=ee then .ok .cA (A.set i (.bX (md (oR A i) E2)))else .bad
  |_=>.bad
  else .bad
 |_=>.bad
theorem Ya(ho:PE X o (tE X aI))(he:PE X e (tE X aJ))(hb:isCall o=false:=by rfl) (cG:bA [e]=true:=by rfl) (hl:(b8.endLine==p.line)=true:=by rfl):PE X (.Call (.Attribute o "update" b8) [e] [] p) (tE X λY A=>X' (aI Y A) (aJ Y)):=
 (Gd qL PySem.F.slot_dict_update PySem.F.type_dict_update IZ ho (GU he KO (bq cG).1) (gD hb) (by rw[jH cG];rfl) hl (bL _ _ (bq cG).1) (cR (bq cG).2)).weak λZ H Q ⟨B,A,Y,ha,r,n,q⟩=>⟨B,A,Y,ha,r,n,q.bind.mono λt A1 I v B1 H1 g1 S rv=>by
  split at I
  ·obtain⟨a,rfl,rE⟩:=rv.nP;rename_i i;obtain⟨hd,q2⟩:=iw I;obtain⟨bC,kvs,e1,e2,e3,e4⟩:=qX S rE hd;refine⟨.inr (.inr (.inl ⟨rfl,.inl ⟨_,e3⟩⟩)),B1,A1,Y,S,r.grow n g1,n,?_⟩;have l:=(gZ.bind q2).imp (λc A' (z:XE X B H c A')=>z.grow ha.hb g1);have step:gZ (XE X B1 H1) (GS (aJ Y A1) λA=>.ok [] A) (λts A2=>∃L,ts=[L]/\gZ (XE X B H) (match L with
     |.bX E2=>if m7 A2 i=true/\(oR A2 i).length+E2.length<=ee then .ok .cA (A2.set i (.bX (md (oR A2 i) E2)))else .bad
     |_=>.bad) λt A'=>∀v B' H',Grows B H B' H'->HA X.K B' A' H'->Rep X.K (cj B' H') v t->Q v H'):=by
    cases eg:aJ Y A1 with
    |ok x A2=>rw[eg]at l;exact⟨x,rfl,l⟩
    |_=>rw[eg]at l;exact l
   refine step.mono λts A2 ⟨L,et,M⟩ vs B2 H2 g2 p8 rs=>?_
   subst et;obtain⟨y,rfl,ry⟩:=gg rs;have By:=g2.jU.x _ _ rE;split at M
   ·obtain⟨b,g,rfl,hm,em,rm⟩:=ry.nO;rename_i E2 _;obtain⟨⟨hd2,hz⟩,q4⟩:=iw M;obtain⟨Tj,Li,f1,f2,f3,f4⟩:=qX p8 By hd2;rw[Bx f1]at hz q4;have EV:a≠b:=λz=>by
     have n:(cj B2 H2).H a=none:=by show(if B2.hd a=true then none else H2 a)=none;rw[aW f2]
     rw[<-z]at hm;rcases hm with h|⟨o,h⟩<;>(rw[n]at h;cases h)
    have b9:g.length=E2.length:=by have:=cX List.length em;rw[bu,bu]at this;exact this
    obtain⟨g4,h6⟩:=p8.write (o:=.bX (md Tj E2)) (u:=.dK (i9 Li g)) By ⟨f2,_,bM,by rw[jv f2];exact d6.merge ⟨em,rm⟩ f4⟩;exact⟨a,b,Li,g,rfl,rfl,EV,f3,hm.same bI,by rw[f4.length,b9,<-i_];exact hz,q4 .cA B2 _ ((g1.trans ha.hb g2).trans ha.hb g4) h6 .cA⟩
   ·exact M.elim
  ·exact I.elim⟩
def Itk(ks:List Str):It:=⟨λi _=>i<ks.length,λi H x H'=>H'=H/\∃z,ks[i]?=some z/\x=.str z,λi _=>ks.length<=i⟩
theorem Fq(a it:Addr)(kvs:List (Str×Value))(o:Obj)(es:Array DictEntry)(ep:Nat)(lk:K.lookup a=some o)(ex:o.ExactDict)(hd:o.data=.dict es ep)(hk:KeysOf (PySem.strKind P w) es/\Pairs (PySem.strKind P w) es.toList kvs/\(kvs.map (·.1)).Nodup):Turn P w K tg (Itk (kvs.map (·.1))) [it] it (λi h=>h.IsKeyIter it a i kvs.length ep) where
 mem:=by simp
 obj:=λi h st b hb=>by
  have e:b=it:=by simpa using hb
  subst e;obtain⟨o,e,c,d⟩:=st;exact⟨o,e,λv z=>by rw[d]at z;cases z⟩
 keep:=λi h h' st k=>by
  obtain⟨o,e,c⟩:=st;exact⟨o,k it (by simp) o e,c⟩
 item:=by
  intro X l hw n hc i U s Z H E I hf st r;subst l hw n;have hi:i<kvs.length:=by have q:i<(kvs.map (·.1)).length:=r;rw[bu]at q;exact q
  have L:s.heap.get? a=some o:=I.l9 a o lk;obtain⟨f0,f1,f2,M,f4,S⟩:=hf it (by simp);have g:kvs[i]?=some (kvs[i].1,kvs[i].2):=by simp[hi]
  refine wpAny_pyNext_dict_item (knd:=PySem.strKind X.prog X.w) st ⟨o,es,L,ex,hd,hk⟩ g λkey h' hk1 xF sb=>?_
  have I1:Inv X U Z H {s with heap:=h'}:=I.turned (t':=s.toks) (λb o hb e=>(sb.2 b hb).trans e) f0 f1 M f4 S;obtain⟨oi,e,c,d⟩:=id xF;refine⟨key,rfl,zH (s:={s with heap:=h'}) e c d (by decide) ⟨.str kvs[i].1,H,I1,?_,⟨rfl,kvs[i].1,by rw[ck,g];rfl,rfl⟩,xF,λb hb=>(hf b hb).1⟩⟩;exact vm (k:=.inr kvs[i].1) hk1
 done:=by
  intro X l hw n hc i U s Z H E I hf st r;subst l hw n;have hi:kvs.length<=i:=by have q:(kvs.map (·.1)).length<=i:=r;rw[bu]at q;exact q
  have L:s.heap.get? a=some o:=I.l9 a o lk;obtain⟨f0,f1,f2,M,f4,S⟩:=hf it (by simp);exact wpAny_pyNext_dict_end (knd:=PySem.strKind X.prog X.w) (I.ok.hd hc) st ⟨o,es,L,ex,hd,hk⟩ (List.getElem?_eq_none hi) λh' eb=>⟨rfl,I.turned (t':=s.toks) (λb o hb e=>eb b o hb e) f0 f1 M f4 S⟩
 self:=λ_ _ _ _ _ st h=>wpAny_pyIter_keyiter st h
def BA(K:Frag)(w:World)(mg:Str->Option Value)(x:Str)(ks:List Str):Prop:=∃a kvs,mg x=some (.ref a)/\CL K w a kvs/\kvs.map (·.1)=ks/\∀z∈ks,z.length<=dc
theorem TB(T:BA X.K X.w X.mg x ps)(hg:Gl X x:=by rfl) (fM:Db x:=by decide):PI X tg (.Name x p) (tI X λ_=>.ok (ps.map .str)):=by
 obtain⟨a,kvs,hm,⟨hs,o,es,ep,lk,ex,hd,g⟩,rfl,hz⟩:=T;intro U s Z H R I ⟨B,Y,hb,r,q⟩;refine qO I hg hm ?_ fM
 have n:s.heap.get? a=some o:=I.l9 a o lk;refine wpAny_pyIter_dict (knd:=PySem.strKind X.prog X.w) hs ⟨o,es,n,ex,hd,g X.prog⟩ ?_
 refine⟨s.heap.objs.size,[s.heap.objs.size],_,Itk (kvs.map (·.1)),H,rfl,I.kept (t':=s.toks) λb o e=>bR _ e,Fq a _ kvs o es ep lk ex hd (g X.prog),⟨_,cz _ rfl,rfl,rfl⟩,λb hb=>?_,?_⟩
 ·have e:b=s.heap.objs.size:=by simpa using hb
  subst e;exact I.xE (bz _) (I.cY.fresh (bz _))
 ·refine(show∀J H',bg H H'->lV X.K B J H' ((kvs.map (·.1)).map .str)->R J H' from q) _ H (bg.refl H) ⟨λi B' H' hi _ _=>?_,λi B' H' y S hi s2 Ot ⟨L,z,l,M⟩=>?_,λB' H' _=>?_⟩
  ·have e:i<((kvs.map (·.1)).map Tr.str).length:=hi;rw[bu]at e;exact e
  ·subst L M;exact⟨bg.refl _,.str z,by rw[ck,l];rfl,.str z (hz z (d7 l))⟩
  ·show(kvs.map (·.1)).length<=((kvs.map (·.1)).map Tr.str).length;rw[bu (f:=Tr.str)];exact bz _
noncomputable def BB:Heap:={}
def qd(b:Addr):BB.get? b=none:=by
 cases e:BB.get? b with
 |none=>rfl
 |some o=>exact absurd (bx e) (xq _)
noncomputable def Fs(h:Heap)(L:Addr):List (Addr×Obj):=(List.range h.objs.size).filterMap λb=>if b=L then none else(h.get? b).map λo=>(b,o)
def Ft{o:Obj}:(au,o)∈Fs aa a↔au≠a/\aa.get? au=some o:=by
 unfold Fs;rw[lO];constructor
 ·rintro ⟨c,_,e⟩
  by_cases z:c=a
  ·rw[aW z]at e;cases e
  ·rw[bc z]at e;cases q:aa.get? c with
   |none=>rw[q]at e;cases e
   |some u=>rw[q]at e;cases e;exact⟨z,q⟩
 ·rintro ⟨n,e⟩
  exact⟨au,tM.mpr (bx e),by rw[bc n,e];rfl⟩
theorem Inv.Lx {m:Str->Option Value}{h':Heap}{tk:Nat}(I:Inv X U Z H s)(hn0:s.heap.Ns X.env.locals m)(hn:h'.Ns X.env.locals m)(kp:∀b o,b≠X.env.locals->s.heap.get? b=some o->h'.get? b=some o):Inv X U Z H {s with heap:=h',toks:=tk}:=by
 obtain⟨m0,L,hl⟩:=id I.loc;have HM:=I.HM;have lo:∀{b:Addr} {o:Obj},X.gA.heap.get? b=some o->b≠X.env.locals:=λ{b o} e=>cc (dh (bx e) I.ok.above);have em:m0=m:=by
  obtain⟨o1,wc,ep1,a1,b1,_,d1⟩:=L;obtain⟨o2,es2,ep2,a2,b2,_,d2⟩:=hn0;rw[a1]at a2;cases a2;rw[b1]at b2;cases b2;funext x;rw[<-d1 x,<-d2 x]
 subst em;refine⟨I.ok,I.os,I.bare,⟨λb o e n hb g=>kp b o (lo e) (I.base.keep b o e n hb g),λb o e n hb g=>?_,I.base.free,λb o e g=>?_,I.base.mR,I.base.lI,I.base.nM⟩,⟨m0,hn,λj y v' l e2 e3=>?_⟩,λy c e=>?_,I.free,I.f',λp hp=>?_,λb u e=>?_,I.len⟩
 ·obtain⟨sl,l⟩:=I.base.slot b o e n hb g;exact⟨sl,kp b _ (lo e) l⟩
 ·obtain⟨o',l⟩:=I.base.there b o e g;exact⟨o',kp b o' (lo e) l⟩
 ·obtain⟨u',r',q⟩:=hl j y v' l e2 e3;refine⟨u',r',?_⟩;rcases q with⟨k,e⟩|⟨k,c,e,z⟩
  ·exact .inl ⟨k,e⟩
  ·obtain⟨oc,M,S⟩:=id z;exact .inr ⟨k,c,e,oc,kp c oc (HM y c e) M,S⟩
 ·obtain⟨w',z⟩:=I.cell y c e;obtain⟨oc,M,S⟩:=id z;exact⟨w',oc,kp c oc (HM y c e) M,S⟩
 ·obtain⟨e,n,ne,nf,d⟩:=I.pin p hp;exact⟨kp p.1 p.2 ne e,n,ne,nf,d⟩
 ·refine(I.cY b u e).pK (λc w' r q=>kp c w' ?_ q) (λ_ q=>q) λ_ _ q=>q
  rintro rfl
  rcases r with rfl|r
  ·rw[I.free]at e;cases e
  ·rw[I.free]at r;cases r
def Al:List Tr->Rs Tr
 |[.bX bC]=>.ok (.int bC.length)
 |ts=>Ob ts
theorem jb:lU X (.builtin "len") Al:=by
 intro U s Z H xs us Q I b ⟨B,ts,hb,r,q⟩;by_cases z:∃bC,ts=[.bX bC]
 ·obtain⟨bC,rfl⟩:=z;cases r with
  |cons h r=>
   cases r;cases h with
   |@bX a kvs _ h g M=>
    obtain⟨u,rfl,l⟩:=vals1 b;cases l;have n:kvs.length=bC.length:=by have:=cX List.length g;rw[bu,bu]at this;exact this
    exact V5 I (h.same bI) λt s' L=>⟨.int kvs.length,H,L,⟨t,rfl⟩,(show∀v H',bg H H'->Rep X.K (cj B H') v (.int bC.length)->Q v H' from q) _ H (bg.refl H) (by rw[n];exact .int _)⟩
 ·have e:Al ts=Ob ts:=by
   unfold Al;split
   ·exact absurd ⟨_,rfl⟩ z
   ·rfl
  rw[e]at q;exact WO U s Z H xs us Q I b ⟨B,ts,hb,r,q⟩
def I0:typeLookup (.type "list") "keys"=pure none:=by rw[typeLookup_type,xf];kernel_rfl
section
variable {k:Nat}{sl:Array (Option Value)}
theorem Fu(q:s.heap.get? a=some {cls:=.type "list",dict:=none,data:=.seq ak k,slots:=sl}) (hA:A.handled=none)
  (h:∀h' tk,(∀b o,s.heap.get? b=some o->h'.get? b=some o)->aM none {s with heap:=h',toks:=tk}):wpAny (model P w) A (getAttr? (.ref a) "keys") aM E s:=by
 obtain⟨hp,g,d,tk,os⟩:=s;have r:∀l,(⟨hp,g,d,l,os⟩:Shared).TypeIs (.ref a) "list":=λ_=>⟨_,q,rfl⟩;have f1:=sub_AttributeError;have L:=w_.lookup;have f4:=w_.bind (.ref a);have M:=am_list_getattr_none;unfold getAttr? getAttrBy? getAttrBy
 repeat(any_goals (first|assumption|exact r _|((with_reducible show wpAny _ _ (call (Value.builtin "list.__getattribute__") _ _) _ _ _);refine kT w_ (r _) am_entry_list_getattribute (F.args_list_getattribute_2 _ _) (meets_getattribute_miss_list a ak k sl "keys" _ I0 (by decide+kernel) (by size_fits)) ⟨q,hA,λh' l e I=>?_⟩)|wp_step))
 obtain⟨t',u',he⟩:=I.there;have n:∀l,(⟨h',g,d,l,os⟩:Shared).TypeIs (.ref e) "AttributeError":=λ_=>⟨_,he,rfl⟩;show wpAny _ _ (getattributeRaised _ _ _ _ _ _ _) _ _ _;unfold getattributeRaised
 repeat(any_goals (first|assumption|exact n _|wp_step))
 exact h h' l I.of.keeps
def Am:entryFor table "dict.update.loop"=some Builtin.«dict.update.loop»:=entryFor_of_tree (by kernel_rfl)
def qZ:plainId "dict.update.loop"=true:=by decide+kernel
theorem Ly{h0:Heap}{d I:Addr}{pairs:List (Key×Value)}(hh:A.handled=none)(hl:h0.IsList a aq.toArray)(b9:aq.length=pairs.length)(hp:∀(j:Nat) (t:Value),aq[j]?=some t->∃ad key k v,t=.ref ad/\h0.IsTuple ad #[key,v]/\mQ k key=true/\pairs[j]?=some (k,v))
  (XH:h0.get? d=none) (hI0:h0.get? I=none) (q:d≠I) (hz:pairs.length<=100000)
  (hR:∀h' wg,(∀b o,h0.get? b=some o->h'.get? b=some o)->h'.DictOf (cp P w) d (merged [] pairs)->aw (.ok (.ret .none)) {s with heap:=h',toks:=wg}):
  ∀(r i:Nat) (h:Heap) (tk:Nat) (kvs:List (Key×Value)),pairs.length - i=r->i<=pairs.length->kvs.length<=i->merged kvs (pairs.drop i)=merged [] pairs->(∀b o,h0.get? b=some o->h.get? b=some o)->h.IsListIter I a i->h.DictOf (cp P w) d kvs->
   codeAny (model P w) A (.builtin "dict.update.loop" ⟨[.ref d,.ref I,rawInt i,.none],[]⟩) aw {s with heap:=h,toks:=tk}:=by
 have l:∀{h:Heap},(∀b o,h0.get? b=some o->h.get? b=some o)->h.IsList a aq.toArray:=λ{h} k=>by obtain⟨o,e,x⟩:=hl;exact⟨o,k _ _ e,x⟩
 have nd:∀{b:Addr} {o:Obj},h0.get? b=some o->b≠d:=λ{b o} e z=>by rw[z,XH]at e;cases e
 have nI:∀{b:Addr} {o:Obj},h0.get? b=some o->b≠I:=λ{b o} e z=>by rw[z,hI0]at e;cases e
 intro r
 induction r with
 |zero=>
  intro i h tk kvs hr hi hk hm kp it dd;have e:i=pairs.length:=by omega
  subst e;refine fY Am ?_
  rw[g9 qZ _];show wpAny _ A.in1 (pyNext (.ref I)>>=_) _ _ _;refine aT (wpAny_pyNext_list_end hh it (l kp) (by simp[b9]) λh' eb=>?_);rw[pj]at hm;have S:h'.DictOf (cp P w) d kvs:=by
   obtain⟨o,es,ep,e,x⟩:=dd;exact⟨o,es,ep,eb d o q e,x⟩
  show wpAny _ A.in1 (Builtin.Dict.addKeywords d []>>=_) _ _ _;refine aT (bf (bf ?_));exact hR h' tk (λb o e=>eb b o (nI e) (kp b o e)) (by rw[<-hm];exact S)
 |succ r ih=>
  intro i h tk kvs hr hi hk hm kp it dd;have gB:i<pairs.length:=by omega
  have L:i<aq.length:=by omega
  obtain⟨ad,key,k,v,et,tp,JY,ep⟩:=hp i aq[i] (by simp[L]);have JK:pairs[i]=(k,v):=by rw[bY gB]at ep;exact Option.some.inj ep
  refine fY Am ?_
  rw[g9 qZ _];show wpAny _ A.in1 (pyNext (.ref I)>>=_) _ _ _;refine aT (wpAny_pyNext_list_item it (l kp) (x:=.ref ad) (by simp[L,et]) λh' it' sb=>?_);have g:∀b o,h0.get? b=some o->h'.get? b=some o:=λb o e=>(sb.2 b (nI e)).trans (kp b o e);have S:h'.DictOf (cp P w) d kvs:=by
   obtain⟨o,es,ep,e,x⟩:=dd;exact⟨o,es,ep,(sb.2 d q).trans e,x⟩
  obtain⟨ot,e1,e2,n,e3⟩:=tp;have hT:Shared.TypeIs {s with heap:=h',toks:=tk} (.ref ad) "tuple":=⟨ot,g _ _ e1,e2⟩;refine aT ?_
  refine fG ?_
  refine aT (kR ?_);unfold Builtin.Dict.pairItems;refine aT (tX hT ?_);rw[aW (by decide)];refine aT (hU (g _ _ e1) e3 ?_);refine bf ?_
  show wpAny _ A.in1 (holding [key,v] (dictSet d key v)) _ _ _;refine fG (wpAny_dictSet_pairs (knd:=cp P w) (hsz:=by rw[dX];omega) JY S λh2 UZ M=>?_);show wpAny _ A.in1 (pure _) _ _ _;refine bf ⟨hV qZ _,?_⟩;have hc:rawInt ((i:Int)+1)=rawInt ((i+1:Nat):Int):=by push_cast;rfl
  rw[hc];refine ih (i+1) h2 _ (stored kvs k v) (by omega) gB ?_ ?_ (λb o e=>(M.2 b (nd e)).trans (g b o e)) ?_ UZ
  ·exact cF (stored_length_le kvs k v) (by omega)
  ·rw[oW gB,JK]at hm;exact hm
  ·obtain⟨o,e,x⟩:=it';exact⟨o,(M.2 I (Ne.symm q)).trans e,x⟩
theorem Fv{pairs:List (Key×Value)}{q:Array (Option Value)}(hh:A.handled=none)(hx:s.heap.get? a=some {cls:=.type "list",dict:=none,data:=.seq aq.toArray i,slots:=q}) (b9:aq.length=pairs.length)
  (hp:∀(j:Nat) (t:Value),aq[j]?=some t->∃ad key k v,t=.ref ad/\s.heap.IsTuple ad #[key,v]/\mQ k key=true/\pairs[j]?=some (k,v)) (hz:pairs.length<=100000)
  (h:∀h' wg,(∀b o,s.heap.get? b=some o->h'.get? b=some o)->h'.DictOf (cp P w) s.heap.objs.size (merged [] pairs)->Q (.ref s.heap.objs.size) {s with heap:=h',toks:=wg}):
  wpAny (model P w) A (call (.type "dict") [.ref a]) Q E s:=by
 refine callType_codes (Q₁:=λobj I=>obj=.ref s.heap.objs.size/\I={s with heap:=s.heap.push {cls:=.type "dict",data:=.dict #[]}}) F.kt_called_dict (F.kt_typeCall_dict_1 _) F.entry_dict_init (kt_code_dict_new _ ⟨rfl,rfl⟩) ?_
 rintro obj I ⟨rfl,rfl⟩
 have n:(s.heap.push {cls:=.type "dict",data:=.dict #[]}).DictOf (cp P w) s.heap.objs.size []:=Heap.DictOf.new s.heap;have l:=bR {cls:=.type "dict",data:=.dict #[]} hx;have L:Shared.TypeIs {s with heap:=s.heap.push {cls:=.type "dict",data:=.dict #[]}} (.ref a) "list":=⟨_,l,rfl⟩;refine⟨n.typeIs,F.args_dict_init_2 _ _,?_⟩;unfold Builtin.«dict.__init__»;refine aT ?_
 unfold Builtin.Dict.selfAndRest;refine aT (wpAny_notOrdered_dict n.typeIs ?_);show wpAny _ _ (pure (s.heap.objs.size,[Value.ref a])) _ _ _;refine bf ?_
 show wpAny _ _ (Builtin.Dict.updateFrom "dict.__init__" s.heap.objs.size (.ref a) [] .none) _ _ _;unfold Builtin.Dict.updateFrom;refine aT (tX L ?_);rw[aW (by decide)];refine aT (Fu l hh λg M k1=>?_);rw[aW (show(none:Option Value).isNone=true from rfl)];have k2:∀b o,s.heap.get? b=some o->g.get? b=some o:=λb o e=>k1 b o (bR _ e);have S:g.get? s.heap.objs.size=some {cls:=.type "dict",data:=.dict #[]}:=k1 _ _ (cz _ rfl);have r:g.DictOf (cp P w) s.heap.objs.size []:=by
  obtain⟨o,es,ep,e,x⟩:=n;exact⟨o,es,ep,k1 _ _ e,x⟩
 have gB:s.heap.objs.size<g.objs.size:=bx S;have hl:s.heap.IsList a aq.toArray:=⟨_,hx,rfl,_,rfl⟩;refine aT (fL ?_);refine aT (kN (show g.IsList a aq.toArray from⟨_,k2 _ _ hx,rfl,_,rfl⟩) ?_);refine bf ⟨hV qZ _,?_⟩;refine Ly (s:=s) (h0:=s.heap) (A:=A.in1) hh hl b9 hp (by
   cases e:s.heap.get? s.heap.objs.size with
   |none=>rfl
   |some o=>exact absurd (bx e) (eV _)) (by
   cases e:s.heap.get? g.objs.size with
   |none=>rfl
   |some o=>exact absurd (bx (k2 _ _ e)) (eV _)) (cc gB) hz (λh' wg kp dd=>⟨rfl,h h' wg kp dd⟩) _ 0 _ _ [] rfl (d9 _) (bz _) rfl (λb o e=>bR _ (k2 b o e)) ⟨_,cz _ rfl,rfl,rfl⟩ ?_
 obtain⟨o,es,ep,e,x⟩:=r;exact⟨o,es,ep,bR _ e,x⟩
end
def BC:List Tr->Option (List (Key×Tr))
 |[]=>some []
 |.tup [k,v]::r=>match kr k,BC r with
  |some key,some l=>some ((key,v)::l)
  |_,_=>none
 |_=>none
def Fw:List Tr->Rs Tr
 |[.lst ts]=>match BC ts with
  |some bC=>if bC.length<=100000 then .ok (.bX (md [] bC))else .bad
  |none=>.bad
 |_=>.bad
def I_(h:BC (aC::ts)=some aG):∃k v key l,aC=.tup [k,v]/\kr k=some key/\BC ts=some l/\aG=(key,v)::l:=by
 unfold BC at h;split at h
 ·cases‹aC::ts=[]›
 ·rename_i k v r e;cases e;cases b:kr k with
  |none=>rw[b]at h;cases h
  |some key=>
   cases g:BC ts with
   |none=>rw[b,g]at h;cases h
   |some l=>rw[b,g]at h;cases h;exact⟨k,v,key,l,rfl,b,rfl,rfl⟩
 ·cases h
theorem G5(I:Inv X U Z H s):∀{vs:List V} {ts:List Tr} {bC:List (Key×Tr)} {cy:List Value},bP X.K (cj B H) vs ts->BC ts=some bC->Vals vs cy->
  ∃(kvs:List (Key×V)) (ps:List (Key×Value)),d6 X.K (cj B H) kvs bC/\KV kvs ps/\cy.length=ps.length/\∀(j:Nat) (t:Value),cy[j]?=some t->∃ad key k v,t=.ref ad/\s.heap.IsTuple ad #[key,v]/\mQ k key=true/\ps[j]?=some (k,v)
 |[],[],_,_,_,e,rv=>by cases e;cases rv;exact⟨[],[],.nil,.nil,rfl,λj t e=>by simp at e⟩
 |[],_::_,_,_,h,_,_=>by cases h
 |v::vs,ts,bC,cy,h,e,rv=>by
  cases h with
  |cons h r=>
   obtain⟨k,w',key,l,rfl,n,L,rfl⟩:=I_ e;cases rv with
   |cons M rv=>
    obtain⟨kvs,ps,S,q,q3,q4⟩:=G5 I r L rv;obtain⟨ad,us,rfl,hq,rr⟩:=h.dY;cases M;obtain⟨x1,x2,rfl,rk,pN⟩:=zT rr;obtain⟨xK,M8,pl,_⟩:=I.tuple (bg.tup bI hq);obtain⟨u1,b,rfl,r1,r2⟩:=vals2 M8;cases nQ rk n;refine⟨(key,_)::kvs,(key,b)::ps,.cons pN S,.cons ⟨rfl,r2⟩ q,by rw[dB,dB,q3],λj t g=>?_⟩;cases j with
    |zero=>cases g;exact⟨ad,u1,key,b,rfl,pl,pQ (P:=X.prog) (w:=X.w) r1,rfl⟩
    |succ j=>exact q4 j t g
theorem G6(hc:X.calm=true):gL X (.type "dict") (rF X Fw):=by
 intro U s Z H xs us Q I rv ⟨B,ts,hb,r,q⟩;have key:∃b bC,ts=[.lst b]/\BC b=some bC/\bC.length<=100000/\∀v H',bg H H'->Rep X.K (cj B H') v (.bX (md [] bC))->(∀p,v=.ref p->SE H H' p)->Q v H':=by
  unfold Fw at q;split at q
  ·rename_i b;cases e:BC b with
   |none=>rw[e]at q;exact fe q
   |some bC=>
    rw[e]at q;obtain⟨h0,z⟩:=gM q;exact⟨b,bC,rfl,e,h0,z⟩
  ·exact fe q
 obtain⟨b,bC,rfl,ep,hz,k⟩:=key;obtain⟨x,rfl,h⟩:=gg r;obtain⟨a,vs,rfl,h,rr⟩:=h.lst_inv;obtain⟨u,rfl,ru⟩:=vals1 rv;cases(show u=Value.ref a from ru);obtain⟨z0,cy,n0,g,hx⟩:=(show cZ X.prog X.w H s.heap a (.lst vs)from I.cY a _ (eB h));obtain⟨kvs,ps,l,S,q3,q4⟩:=G5 I rr ep g;have hl:kvs.length=bC.length:=l.length;have n:ps.length<=100000:=by rw[<-KV.length S,hl];exact hz
 refine Fv (I.ok.hd hc) hx q3 q4 n λh' wg kp dd=>?_
 have hf:H s.heap.objs.size=none:=I.fresh;have L:(i9 [] kvs).length<=sizeLine:=by have:=jt kvs [];rw[xp]at this;rw[dX];omega
 have M:(s.heap.objs.size==sysModules)=false:=by
  have:=I.big;exact kn (dQ this)
 refine⟨.ref s.heap.objs.size,_,I.laid (t':=wg) (o:=.dK (i9 [] kvs)) kp (bz _) (xM L M (S.merge .nil) dd),rfl,k _ _ (bg.upd hf) (.bX (.inl (hb.new hf)) ?_ ?_) λp' e=>by cases e;exact .upd hf (λ_ _ z=>by cases z)⟩
 ·exact(d6.merge l d6.nil).keys
 ·exact(d6.merge l d6.nil).vals.same (bJ (bg.upd hf))
section
variable {prog:Program}
noncomputable def jX(x y:Int×Int):Bool:=decide (x.1<y.1\/(x.1=y.1/\x.2<y.2))
theorem int_lt{x y:Int}{t u:Tok}(h:Q (.bool (decide (x<y))) s):wpAny (model prog w) A (richCompare .Lt (.int x t) (.int y u)) Q E s:=
 CmpOf.ints_lt (prog:=prog) (w:=w) (A:=A) (P:=λi v=>∃t,v=.int ([x,y].getD i 0) t) (λi=>[x,y].getD i 0) (λi v h=>h) 0 1 _ _ _ _ _ ⟨t,rfl⟩ ⟨u,rfl⟩ h
theorem BD{x y:Int×Int}{t1 t2 u1 u2:Tok}{oa ob:Obj}{P:PySem.Fin->Shared->Prop}
  (Yb:s.heap.get? a=some oa) (q:oa.data=.seq #[.int x.1 t1,.int x.2 t2] i) (Ov:s.heap.get? au=some ob) (fM:ob.data=.seq #[.int y.1 u1,.int y.2 u2] az) (hTb:s.TypeIs (.ref au) "tuple")
  (h:P (.done (.ret (.bool (jX x y)))) s):wpAny (model prog w) A (Builtin.«tuple.__lt__» ⟨[.ref a,.ref au],[]⟩) P E s:=by
 show wpAny _ _ (isInstance (.ref au) (.type "tuple")>>=_) _ _ s;refine aT (pA hTb isSubtype_tuple_tuple ?_);simp only[dA,cK,cg];refine aT (wpAny_tupleItemsOf Yb q ?_);refine aT (wpAny_tupleItemsOf Ov fM ?_);refine aT ?_
 show wpAny _ _ (forIn [(Value.int x.1 t1,Value.int y.1 u1),(Value.int x.2 t2,Value.int y.2 u2)] _ _) _ _ s;rw[pw];refine aT (aT (wpAny_eqBool_int ?_));by_cases b:x.1=y.1
 ·rw[fg.mpr b];simp only[dA,cK,cg];refine bf ?_
  dsimp only;rw[pw];refine aT (aT (wpAny_eqBool_int ?_));by_cases g:x.2=y.2
  ·rw[fg.mpr g];simp only[dA,cK,cg];refine bf ?_
   dsimp only;rw[xA];refine bf (bf ?_);have e:jX x y=false:=by unfold jX;exact fF (by omega)
   rw[e]at h;exact h
  ·rw[kn g];simp only[d8,cw];have e:jX x y=decide (x.2<y.2):=by unfold jX;exact xn.mpr (by omega)
   rw[e]at h;exact aT (fL (aT (int_lt (aT (bf (bf (bf (bf h))))))))
 ·rw[kn b];simp only[d8,cw];have e:jX x y=decide (x.1<y.1):=by unfold jX;exact xn.mpr (by omega)
  rw[e]at h;exact aT (fL (aT (int_lt (aT (bf (bf (bf (bf h))))))))
theorem OQ{x y:Int×Int}{t1 t2 u1 u2:Tok}{q ob:Obj}(hu:A.units<cLine)
  (Yb:s.heap.get? a=some q) (hca:q.cls=.type "tuple") (hda:q.data=.seq #[.int x.1 t1,.int x.2 t2] i) (Ov:s.heap.get? au=some ob) (hcb:ob.cls=.type "tuple") (fM:ob.data=.seq #[.int y.1 u1,.int y.2 u2] az)
  (h:Q (.bool (jX x y)) s):wpAny (model prog w) A (richCompare .Lt (.ref a) (.ref au)) Q E s:=
 wpAny_richCompare_same_room (op:=.Lt) (T:="tuple") ⟨q,Yb,hca⟩ ⟨ob,Ov,hcb⟩ F.slot_tuple_lt (g_ F.slot_tuple_lt ⟨q,Yb,hca⟩ F.entry_tuple_lt (BD Yb hda Ov fM ⟨ob,Ov,hcb⟩ ⟨_,rfl,(λe=>nomatch e),h⟩) (F.args_tuple_lt_2 _ _)) hu
end
def dm(kf:Nat->Int×Int):Nat->Nat
 |0=>0
 |j+1=>if jX (kf (j+1)) (kf (dm kf j))=true then j+1 else dm kf j
section
variable {f l S I:Addr}{fd:FuncData}{k:Nat}{kf:Nat->Int×Int}
theorem DE(G:eI X.prog X.w X.K X.mg X.base mw k f fd ps (spT X.K h))(bd:Binds X.K fd ps [])(hr:di (k+1) X.A){v:V}{t:Tr}{p:Int×Int}
  (q:Inv X U Z H s) (hq:(au,PySem.W.methodObj (.ref f) (.ref a))∈U) (hb:HB B H) (ro:Rep X.K (cj B H) (.ref a) aC) (rt:Rep X.K (cj B H) v t) (rv:RelV v af) (he:h [aC,t]=.ok (.tup [.int p.1,.int p.2])):
  wpAny (model X.prog X.w) X.A.in1 (call (.ref au) [af]) (λw' s'=>∃kb H',w'=.ref kb/\Inv X U Z H' s'/\bg H H'/\js X.K H' kb [.int p.1,.int p.2]) E s:=by
 have l:spT X.K h [.ref a,v] H (λv' H'=>bg H H'/\Rep X.K (cj B H') v' (.tup [.int p.1,.int p.2])) E0:=⟨B,[aC,t],hb,.cons ro (.cons rt .nil),_,he,λv' H' b r=>⟨b,r⟩⟩;have I:([.ref a,af]++[]:List Value).length=ps.length:=G.len _ _ _ _ l;refine pJ (PySem.W.method_call (q.pin _ (dG _ hq)).1 ?_);refine iH (G.run X.A.in1 X.stack s H ⟨[.ref a,af],[]⟩ [.ref a,af] [.ref a,v] _ E0 hr.in1 q.RD.in1 (bd s [.ref a,af] q.l9 I) (.cons rfl (.cons rv .nil)) l) λr s' g=>?_
 match r,g with
 |.ok (.ret w'),g=>
  obtain⟨v',H',L,M,b,rep⟩:=q.after g;obtain⟨kb,vs,rfl,n,rr⟩:=rep.dY;obtain⟨x,y,rfl,r1,r2⟩:=zT rr;rw[r1.int_inv,r2.int_inv]at n;exact⟨kb,H',M,L,b,bg.tup bI n⟩
end
section
variable {f l S I:Addr}{fd:FuncData}{k:Nat}{kf:Nat->Int×Int}
theorem DF{p:Int×Int}(Iv:Inv X U Z H s)(hT:js X.K H a [.int p.1,.int p.2]):∃q t1 t2 n,s.heap.get? a=some q/\q.cls=.type "tuple"/\q.data=.seq #[.int p.1 t1,.int p.2 t2] n:=by
 obtain⟨cy,rv,⟨q,e,b,n,hd⟩,_⟩:=Iv.tuple hT;obtain⟨g,l,rfl,r1,r2⟩:=vals2 rv;obtain⟨t1,rfl⟩:=(show∃t,g=Value.int p.1 t from r1);obtain⟨t2,rfl⟩:=(show∃t,l=Value.int p.2 t from r2);exact⟨q,t1,t2,n,e,b,hd⟩
def G7{c:HO}{vs:List V}(ij:a≠S)(q:js K H a vs):js K (upd H S c) a vs:=by
 rcases q with(q|⟨b,q⟩)|q
 ·exact .inl (.inl (by rw[bp ij];exact q))
 ·exact .inl (.inr ⟨b,by rw[bp ij];exact q⟩)
 ·exact .inr q
def Lz{l:List V}(Iv:Inv X U Z H s)(q:js X.K H a ar)(e:H S=some (.lst l)):a≠S:=λz=>by
 subst z;rcases q with(q|⟨aC,q⟩)|⟨aC,cy,n,b,_⟩
 ·rw[e]at q;cases q
 ·rw[e]at q;cases q
 ·rw[(Iv.bs _ _ (Iv.ok.mod.PV _ _ b)).2]at e;cases e
theorem Ja(hc:X.calm=true)(G:eI X.prog X.w X.K X.mg X.base mw k f fd ps (spT X.K h))(bd:Binds X.K fd ps [])(hr:di (k+1) X.A)(hq:(au,PySem.W.methodObj (.ref f) (.ref a))∈U)
  (hS:ac S=none) (hb:HB B ac) (ro:Rep X.K (cj B ac) (.ref a) aC) (rx:bP X.K (cj B ac) ar ts) (hl:lR X.K ac l ar) (Yc:l≠I)
  (hk:∀i t,ts[i]?=some t->h [aC,t]=.ok (.tup [.int (kf i).1,.int (kf i).2]))
  (hR:∀q u H s,ar[dm kf (ar.length - 1)]?=some q->Inv X U Z H s->bg ac H->RelV q u->aw (.ok (.ret u)) s):
  ∀(r j:Nat) (s:Shared) (H:Hp) (q:V) (kb:Addr),ar.length - (j+1)=r->j+1<=ar.length->Inv X U Z H s->bg ac H->H S=some (.lst [q,.ref kb])->ar[dm kf j]?=some q->
   js X.K H kb [.int (kf (dm kf j)).1,.int (kf (dm kf j)).2]->s.heap.IsListIter I l (j+1)->kU X U H I->
   codeAny (model X.prog X.w) X.A (.builtin "min.loop" ⟨[.ref I,.ref au,.ref S],[]⟩) aw s:=by
 have DG:(toString "min"++toString ".loop":String)="min.loop":=by decide
 intro r
 induction r with
 |zero=>
  intro j s H q kb LA hj g n Vh DH hT hit L;have lJ:j+1=ar.length:=by omega
  obtain⟨cy,rv,pl,_⟩:=g.list (bg.seq n hl);have b9:cy.length=ar.length:=rv.length.symm;have W:=Walks.list (prog:=X.prog) (w:=X.w) (A:=X.A.in1) (g.ok.hd hc) I l Yc cy.toArray;obtain⟨_,xK,n2,M8,_,eS⟩:=g.zo Vh;obtain⟨u,u2,rfl,ru,Xy⟩:=vals2 M8;cases(show u2=Value.ref kb from Xy);refine fY w6 ?_
  rw[g9 nE _];show wpAny _ X.A.in1 (seqItems? (.ref S)>>=_) _ _ _;refine aT (hU eS rfl ?_);show wpAny _ X.A.in1 (tryCatch (pyNext (.ref I)) _>>=_) _ _ _;refine aT (kR (W.done _ _ _ ⟨by rw[cW,b9,<-lJ];exact hit,pl.isList⟩ λh' wg Ow=>?_));have I1:Inv X U Z H {s with heap:=h',toks:=wg}:=g.qW (ch:=[I]) (λb hb=>by rw[cV.mp hb];exact L) Ow;obtain⟨_,Yd,n3,Z5,_,eS'⟩:=I1.zo Vh;have M:=I1.NC (t9:=[]) (f:=λ_=>(#[]:Array Value)) (t':=wg) Vh eS' rfl .nil (d9 _);show wpAny _ X.A.in1 (updateSeq S (λ_=>#[])>>=_) _ _ _;refine aT (pD eS' rfl (aT (mM (bf ?_))));refine hR q u _ _ ?_ M (n.A7 hS) ru
  rw[<-lJ];exact DH
 |succ r ih=>
  intro j s H q kb LA hj g n Vh DH hT hit L;have gB:j+1<ar.length:=by omega
  obtain⟨cy,rv,pl,_⟩:=g.list (bg.seq n hl);have b9:cy.length=ar.length:=rv.length.symm;have W:=Walks.list (prog:=X.prog) (w:=X.w) (A:=X.A.in1) (g.ok.hd hc) I l Yc cy.toArray;obtain⟨_,xK,n2,M8,_,eS⟩:=g.zo Vh;obtain⟨u,u2,rfl,ru,Xy⟩:=vals2 M8;cases(show u2=Value.ref kb from Xy);refine fY w6 ?_
  rw[g9 nE _];show wpAny _ X.A.in1 (seqItems? (.ref S)>>=_) _ _ _;refine aT (hU eS rfl ?_);show wpAny _ X.A.in1 (tryCatch (pyNext (.ref I)) _>>=_) _ _ _;refine aT (kR (W.item (j+1) _ _ _ (by rw[cW,b9];exact gB) ⟨hit,pl.isList⟩ λv h' wg hP K2 Ow=>?_));refine hide λP go=>?_
  have hv:cy[j+1]?=some v:=by simpa using hP
  obtain⟨xv,TC⟩:∃y,ar[j+1]?=some y:=⟨_,bY gB⟩
  obtain⟨v',JZ,Ye⟩:=rv.get TC;cases hv.symm.trans JZ;obtain⟨tv,htv,rtv⟩:=rx.xW TC;have I1:Inv X U Z H {s with heap:=h',toks:=wg}:=g.qW (ch:=[I]) (λb hb=>by rw[cV.mp hb];exact L) Ow;obtain⟨oI,hoI,Rf,Vi⟩:=id K2.1;have I1p:Inv X ((I,oI)::U) Z H {s with heap:=h',toks:=wg}:=I1.ko λp hp=>by
   rcases bG.mp hp with rfl|hp
   ·exact⟨hoI,L.1,L.2.1,L.2.2.1,λv z=>by rw[Vi]at z;cases z⟩
   ·exact I1.pin p (dG _ hp)
  refine go ?_
  show wpAny _ X.A.in1 (tryCatch (holding [v] (call (.ref au) [v])) _>>=_) _ _ _;refine aT (kR (fG (d_ (DE G bd hr I1p (cu _ hq) (hb.same n) (ro.same (bJ n)) (rtv.same (bJ n)) Ye (hk _ _ htv)) (λw' s2 hw=>?_) λ_ _ x=>x)));obtain⟨kb2,H2,rfl,TF,JD,Vj⟩:=hw;refine hide λP go=>?_
  have nI:=TF.pin (I,oI) (dG _ (cD ..));have M:Inv X U Z H2 s2:=TF.ko λp hp=>TF.pin p (dG _ (cu _ hp));have zw:H2 S=some (.lst [q,.ref kb]):=JD _ _ Vh;obtain⟨_,Yd,n3,Z5,_,Yf⟩:=M.zo zw;obtain⟨oa,t1,t2,na,ea,ca,da⟩:=DF M Vj;obtain⟨ob,t3,t4,nb,eb,cb,db⟩:=DF M (JD.tup hT);have hu:X.A.in1.units<cLine:=sZ (by show X.A.units+1<=X.A.units+16*(k+1)+200;omega) hr.un;have abc:kU X U H2 I:=⟨nI.2.1,L.2⟩;have TH:bg ac H2:=n.trans JD;refine go ?_
  show wpAny _ X.A.in1 (tryCatch (holding [v,.ref kb2] (richCompare .Lt (.ref kb2) (.ref kb)>>=_)) _>>=_) _ _ _;refine aT (kR (fG (aT (OQ (x:=kf (j+1)) (y:=kf (dm kf j)) hu ea ca da eb cb db ?_))));refine aT (fG (pq ?_));refine aT (mM (bf ?_));by_cases JA:jX (kf (j+1)) (kf (dm kf j))=true
  ·have Yg:dm kf (j+1)=j+1:=aW JA;have I3:=M.NC (t9:=[v,.ref kb2]) (f:=λ_=>(#[v,.ref kb2]:Array Value)) (ys:=[xv,.ref kb2]) (t':=s2.toks) zw Yf rfl (.cons Ye (.cons rfl .nil)) (by show 2<=sizeLine;decide);simp only[JA,cw];refine aT (pD Yf rfl (aT (mM ?_)));rw[DG];have M7:S≠I:=λz=>by rw[z,nI.2.1]at zw;cases zw
   have hkS:kb2≠S:=Lz M Vj zw;refine bf ⟨hV nE _,ih (j+1) _ _ xv kb2 (by omega) gB I3 (TH.A7 hS) bM (by rw[Yg];exact TC) ?_ ⟨oI,(nG s2.heap _ M7).trans nI.1,Rf,Vi⟩ ⟨by rw[bp M7.symm];exact nI.2.1,L.2⟩⟩;rw[Yg];exact G7 hkS Vj
  ·have Yg:dm kf (j+1)=dm kf j:=bc JA;simp only[JA,cg];refine aT (mM ?_);rw[DG];refine bf ⟨hV nE _,ih (j+1) s2 H2 q kb (by omega) gB M TH zw (by rw[Yg];exact DH) (by rw[Yg];exact JD.tup hT) ⟨oI,nI.1,Rf,Vi⟩ abc⟩
end
section
variable {f l S I:Addr}{fd:FuncData}{k:Nat}{xs:List V}{kf:Nat->Int×Int}
theorem Jb(hc:X.calm=true)(G:eI X.prog X.w X.K X.mg X.base mw k f fd ps (spT X.K h))(bd:Binds X.K fd ps [])(hr:di (k+1) X.A)(hq:(au,PySem.W.methodObj (.ref f) (.ref a))∈U)
  (q:Inv X U Z H s) (hb:HB B H) (ro:Rep X.K (cj B H) (.ref a) aC) (rx:bP X.K (cj B H) xs ts) (hl:lR X.K H l xs) (ij:0<xs.length)
  (hk:∀i t,ts[i]?=some t->h [aC,t]=.ok (.tup [.int (kf i).1,.int (kf i).2])) {Q:VK}
  (hQ:∀xb H',xs[dm kf (xs.length - 1)]?=some xb->bg H H'->Q xb H'):
  wpAny (model X.prog X.w) X.A (call (.builtin "min") [.ref l] [(Str.ofString "key",.ref au)]) (EP X U Z Q) X.xe s:=by
 have DG:(toString "min"++toString ".loop":String)="min.loop":=by decide
 obtain⟨cy,rv,pl,_⟩:=q.list hl;have b9:cy.length=xs.length:=rv.length.symm;have Vg:=pl.isList;obtain⟨ol,Qw,_⟩:=id Vg;have hll:l<s.heap.objs.size:=bx Qw;refine kmk_tree PySem.F.kind_min PySem.F.plain_min PySem.F.entry_min (kmk_min_key _ _) ?_
 show wpAny _ X.A.in1 (Builtin.Builtins.bindParams "min" ["key","default"] 0 ⟨[],[(Str.ofString "key",.ref au)]⟩>>=_) _ _ s;refine aT (wpAny_of_eq (show Builtin.Builtins.bindParams "min" ["key","default"] 0 ⟨[],[(Str.ofString "key",.ref au)]⟩=pure [some (.ref au),none]from rfl) ?_);refine aT (bf ?_);refine aT (kN Vg ?_);refine aT (pG ?_ (d9 _));rw[DG];have Yc:l≠s.heap.objs.size:=cc hll;have I1:Inv X U Z H {s with heap:=s.heap.push {cls:=.type "list_iterator",data:=.fields #[.ref l,.int 0 0]}}:=q.kept (t':=s.toks) λb u e=>bR _ e;have L:=I1.ND (cy:=[]) (ys:=[]) (t':=s.toks) .nil (d9 _);have hSe:(s.heap.push {cls:=.type "list_iterator",data:=.fields #[.ref l,.int 0 0]}).objs.size=s.heap.objs.size+1:=size_push' ..;have M:(s.heap.push {cls:=.type "list_iterator",data:=.fields #[.ref l,.int 0 0]}).objs.size≠s.heap.objs.size:=by rw[hSe];exact mG _
 have Z7:H (s.heap.push {cls:=.type "list_iterator",data:=.fields #[.ref l,.int 0 0]}).objs.size=none:=I1.fresh;have gI:((s.heap.push {cls:=.type "list_iterator",data:=.fields #[.ref l,.int 0 0]}).push {cls:=.type "list",data:=.seq (List.toArray [])}).get? s.heap.objs.size=some {cls:=.type "list_iterator",data:=.fields #[.ref l,.int 0 0]}:=
  bR _ (cz _ rfl)
 generalize hS:(s.heap.push {cls:=.type "list_iterator",data:=.fields #[.ref l,.int 0 0]}).objs.size=S at L M Z7;have g:kU X U (upd H S (.lst [])) s.heap.objs.size:=q.xE (bz _) (by rw[bp M.symm];exact q.fresh);have n:bg H (upd H S (.lst [])):=bg.upd Z7;refine bf ⟨hV nE _,?_⟩;have W:=Walks.list (prog:=X.prog) (w:=X.w) (A:=X.A.in1) (q.ok.hd hc) s.heap.objs.size l Yc cy.toArray;obtain⟨_,xK,n2,M8,_,eS⟩:=L.zo bM;cases M8;obtain⟨t9,Im,r,_⟩:=L.list (bg.seq n hl);have ei:t9=cy:=by
  obtain⟨o1,n1,e1,_,_,d1⟩:=pl;obtain⟨o2,n2,e2,_,_,d2⟩:=r;have e3:((s.heap.push {cls:=.type "list_iterator",data:=.fields #[.ref l,.int 0 0]}).push {cls:=.type "list",data:=.seq (List.toArray [])}).get? l=some o1:=bR _ (bR _ e1);have I:((s.heap.push {cls:=.type "list_iterator",data:=.fields #[.ref l,.int 0 0]}).push {cls:=.type "list",data:=.seq (List.toArray [])}).get? l=some o2:=e2;rw[e3]at I;cases I;rw[d1]at d2;injection d2 with d3 _
  simpa using(cX Array.toList d3).symm
 subst ei;refine fY w6 ?_
 rw[g9 nE _];show wpAny _ X.A.in1 (seqItems? (.ref S)>>=_) _ _ _;refine aT (hU eS rfl ?_);show wpAny _ X.A.in1 (tryCatch (pyNext (.ref s.heap.objs.size)) _>>=_) _ _ _;refine aT (kR (W.item 0 _ _ _ (by rw[cW,b9];exact ij) ⟨⟨_,gI,rfl,rfl⟩,r.isList⟩ λv h' wg hP K2 Ow=>?_));refine hide λP go=>?_
 have hv:t9[0]?=some v:=by simpa using hP
 obtain⟨xv,TC⟩:∃y,xs[0]?=some y:=⟨_,bY ij⟩
 obtain⟨v',JZ,Ye⟩:=rv.get TC;cases hv.symm.trans JZ;obtain⟨tv,htv,rtv⟩:=rx.xW TC;have J1:=L.qW (h':=h') (t':=wg) (ch:=[s.heap.objs.size]) (λb hb=>by rw[cV.mp hb];exact g) Ow;obtain⟨oI,hoI,Rf,Vi⟩:=id K2.1;have J1p:=J1.ko (JL:=(s.heap.objs.size,oI)::U) λp hp=>by
  rcases bG.mp hp with rfl|hp
  ·exact⟨hoI,g.1,g.2.1,g.2.2.1,λv z=>by rw[Vi]at z;cases z⟩
  ·exact J1.pin p (dG _ hp)
 refine go ?_
 show wpAny _ X.A.in1 (tryCatch (holding [v] (call (.ref au) [v])) _>>=_) _ _ _;refine aT (kR (fG (d_ (DE G bd hr J1p (cu _ hq) (hb.same n) (ro.same (bJ n)) (rtv.same (bJ n)) Ye (hk _ _ htv)) (λw' s2 hw=>?_) λ_ _ x=>x)));obtain⟨kb2,H2,rfl,TF,JD,Vj⟩:=hw;refine hide λP go=>?_
 have nI:=TF.pin (s.heap.objs.size,oI) (dG _ (cD ..));have J2:Inv X U Z H2 s2:=TF.ko λp hp=>TF.pin p (dG _ (cu _ hp));have zw:H2 S=some (.lst []):=JD _ _ bM;obtain⟨_,Yd,n3,Z5,_,Yf⟩:=J2.zo zw;have J3:=J2.NC (t9:=[v,.ref kb2]) (f:=λ_=>(#[v,.ref kb2]:Array Value)) (ys:=[xv,.ref kb2]) (t':=s2.toks) zw Yf rfl (.cons Ye (.cons rfl .nil)) (by show 2<=sizeLine;decide);have hkS:kb2≠S:=Lz J2 Vj zw;have TH:bg H H2:=n.trans JD;refine go ?_
 show wpAny _ X.A.in1 (updateSeq S (λ_=>#[v,.ref kb2])>>=_) _ _ _;refine aT (pD Yf rfl ?_);rw[DG];refine bf ⟨hV nE _,?_⟩;exact Ja hc G bd hr hq Z7 hb ro rx hl Yc hk (λxb u H' s' hx I' sm' ru=>⟨xb,H',I',ru,hQ xb H' hx sm'⟩) (xs.length - 1) 0 _ _ xv kb2 rfl ij J3 (TH.A7 Z7) bM TC (G7 hkS Vj)
  ⟨oI,(nG s2.heap _ M).trans nI.1,Rf,Vi⟩ ⟨by rw[bp M.symm];exact nI.2.1,g.2⟩
end
open Builtin Builtin.ObjectAttr
structure An(K:Frag)(f:Addr):Prop where
 get:PySem.W.specialIn K (.ref f) "__get__"=some (some (.builtin "function.__get__"))
 tk:PySem.W.takesIn K (.ref f)=some false
def DI{dx g:Addr}{fs:List (Str×V)}{b:Bool}(I:Inv X U Z H s)(e:H a=some (.ins au dx fs))(c:EC X.K au)(k:Meth X.K au x g)(l:fs.lookup x=none)(hg:An X.K g)
  (TJ:PySem.W.copiedNames.contains x=false) (h:∀q s',Inv X ((q,PySem.W.methodObj (.ref g) (.ref a))::U) Z H s'->Q (.ref q) s'):wpAny (model X.prog X.w) A (getAttr (.ref a) x b) Q E s:=by
 obtain⟨mA,O,r,_,_,_⟩:=uc I.cY e;have hn:mA x=none:=l8.none_of (by rw[<-l];exact r x);obtain⟨M,J,L⟩:=O.look;refine PySem.W.get_bind I.l9 J (o6 (c.get x)).1 (PySem.W.findObj_fn c.hd k.at_ hg.get hg.tk TJ (by rw[L,hn])) (o6 (c.get x)).2 (pJ (PySem.W.fn_get (s:={s with toks:=s.toks+1}) I.l9 (fg.mp k.fn) (PySem.W.handed_on rfl (h s.heap.objs.size _ ?_))));have n:Inv X U Z H {s with heap:=s.heap.push (PySem.W.methodObj (.ref g) (.ref a)),toks:=s.toks+1}:=I.kept λb u e=>bR _ e;refine n.ko λp hp=>?_
 rcases bG.mp hp with rfl|hp
 ·exact⟨cz _ rfl,I.fresh,dQ I.lt,I.VA (bz _),λv z=>by cases z⟩
 ·exact n.pin p (dG _ hp)
noncomputable def keyOf(r:Rs Tr):Option (Int×Int):=match r with
 |.ok (.tup [.int x,.int y])=>some (x,y)
 |_=>none
def LB{r:Rs Tr}{p:Int×Int}(h:keyOf r=some p):r=.ok (.tup [.int p.1,.int p.2]):=by
 unfold keyOf at h;split at h
 ·cases h;rfl
 ·cases h
def keysOf(h:List Tr->Rs Tr)(o:Tr):List Tr->Option (List (Int×Int))
 |[]=>some []
 |t::ts=>(keyOf (h [o,t])).bind λk=>(keysOf h o ts).map λks=>k::ks
theorem Ap{o:Tr}:∀{ts:List Tr} {ks:List (Int×Int)},keysOf h o ts=some ks->∀i t,ts[i]?=some t->h [o,t]=.ok (.tup [.int (ks.getD i (0,0)).1,.int (ks.getD i (0,0)).2])
 |[],_,_,i,t,e=>by simp at e
 |u::ts,ks,b,i,t,e=>by
  rw[keysOf]at b;cases g:keyOf (h [o,u])with
  |none=>rw[g]at b;cases b
  |some k=>
   rw[g]at b;cases l:keysOf h o ts with
   |none=>rw[l]at b;cases b
   |some r=>
    rw[l]at b;cases b;cases i with
    |zero=>simp at e;subst e;exact LB g
    |succ i=>exact Ap l i t (by simpa using e)
def vR(c m:Str)(h:List Tr->Rs Tr)(tl o:Tr):Rs Tr:=match tl,o with
 |.lst ts,.ob x fs=>if x=c/\En fs m=true/\0<ts.length then match keysOf h (.ob x fs) ts with
  |some ks=>kY ts[dm (λi=>ks.getD i (0,0)) (ts.length - 1)]?
  |none=>.bad
  else .bad
 |_,_=>.bad
def G8(c m:Str)(h:List Tr->Rs Tr)(q ro:Rs Tr):Rs Tr:=q.bind λtl=>ro.bind λo=>vR c m h tl o
def Jc{m:Str}{o:Tr}(q:Fi X H (vR av m h aC o) aB):∃ts fs ks t,aC=.lst ts/\o=.ob av fs/\En fs m=true/\0<ts.length/\keysOf h (.ob av fs) ts=some ks/\ts[dm (λi=>ks.getD i (0,0)) (ts.length - 1)]?=some t/\aB t:=by
 unfold vR at q;split at q
 ·rename_i ts x fs;by_cases b:x=av/\En fs m=true/\0<ts.length
  rotate_left
  ·rw[bc b]at q;exact fe q
  rw[aW b]at q;obtain⟨rfl,h2,l⟩:=b;have z:=q;cases e:keysOf h (.ob x fs) ts with
  |none=>rw[e]at z;exact fe z
  |some ks=>
   rw[e]at z;cases g:ts[dm (λi=>ks.getD i (0,0)) (ts.length - 1)]? with
   |none=>simp only[g]at z;exact fe z
   |some t=>simp only[g]at z;exact⟨ts,fs,ks,t,rfl,rfl,h2,l,e,g,z⟩
 ·exact fe q
section
variable {m:Str}{fd:FuncData}{k:Nat}{kp:Pos}{O:bV->Rs Tr}
theorem LC(D:MethAt X.K av m ai ps a fd)(Bn:An X.K a)(G:eI X.prog X.w X.K X.mg X.base mw k a fd ps (spT X.K h))(hr:di (k+1) X.A)(hm:X.mg "min"=none)(hl:PE X e (tP X F))(ho:PE X o (tP X O))
  (hc:X.calm=true:=by rfl) (hg:Gl X "min":=by rfl) (cG:bA [e]=true:=by rfl) (hb:isCall o=false:=by rfl) (TJ:PySem.W.copiedNames.contains m=false:=by decide+kernel):
  PE X (.Call (.Name "min" p) [e] [⟨some "key",.Attribute o m b8,kp⟩] pos) (tP X λY=>G8 av m h (F Y) (O Y)):=by
 intro U s Z H Q I ⟨B,Y,l,r,q⟩;refine mE (u5 (u:=.builtin "min") I hg hm rfl ?_ (by decide) (by decide));refine callWith_kw (eK (lS hl se (bL _ _ (bq cG).1) pos U s Z H (λvs H1=>∃tl,bP X.K (cj B H1) vs [tl]/\bg H H1/\Fi X H ((O Y).bind λo=>vR av m h tl o) λt=>∀v H',bg H H'->Rep X.K (cj B H') v t->Q v H') I ?_) λus s1 ⟨vs,H1,I1,rv,tl,rl,b,k1⟩=>?_) (by rw[bL _ _ (bq cG).1];rfl) (cR cG)
 ·exact⟨B,Y,l,r,q.bind.mono λtl qt v H1 s1 r1=>⟨tl,.cons r1 .nil,s1,qt⟩⟩
 obtain⟨y,rfl,n⟩:=gg rl;refine kws_cons (F9 (gD hb) (eK (ho U s1 Z H1 (λx H2=>∃o,Rep X.K (cj B H2) x o/\bg H1 H2/\Fi X H (vR av m h tl o) λt=>∀v H',bg H H'->Rep X.K (cj B H') v t->Q v H') I1 ⟨B,Y,l.same b,r.same b,(k1.bind.same b).mono λo qo v H2 s2 r2=>⟨o,r2,s2,qo⟩⟩) λu2 s2 ⟨x,H2,I2,rx,ot,ro,g,k2⟩=>?_));obtain⟨ts,fs,ks,t,rfl,rfl,JG,TK,L,DH,kq⟩:=Jc k2;obtain⟨a1,xs,rfl,Jy,Gz⟩:=n.lst_inv;obtain⟨a2,dx,iu,rfl,hh,ek,JB⟩:=ro.A9;obtain⟨w1,rfl,M⟩:=vals1 rv;cases(show w1=Value.ref a1 from M);cases(show u2=Value.ref a2 from rx);refine DI I2 (eB hh) D.cl D.mt (Bw ek JB JG) Bn TJ λq s3 I3=>kws_nil ?_
 have sl:bP X.K (cj B H2) xs ts:=Gz.same (bJ g);refine eK (Jb (H:=H2) (B:=B) (xs:=xs) (ts:=ts) (kf:=λi=>ks.getD i (0,0)) hc G D.bd hr (cD ..) I3 ((l.same b).same g) (.ob hh ek JB) sl (.of (g _ _ (eB Jy))) (by rw[sl.length];exact TK) (Ap L) λxb S hx TH=>?_) λw3 s4 ⟨v3,S,I4,r3,q3⟩=>⟨v3,S,I4.ko λp hp=>I4.pin p (dG _ (cu _ hp)),r3,q3⟩;rw[sl.length]at hx;obtain⟨t',e',rt'⟩:=sl.xW hx;cases DH.symm.trans e';exact kq xb S ((b.trans g).trans TH) (rt'.same (bJ TH))
end
def TL:Tr->Option Int->Option Int->Rs Tr
 |.tup ts,lo,hi=>.ok (.tup (Bg ts lo hi))
 |t,lo,hi=>slT t lo hi
def sI(r:Rs Tr)(lo hi:Rs (Option Int)):Rs Tr:=r.bind λt=>lo.bind λl=>hi.bind λh=>TL t l h
theorem Fx{ts:List ag}{lo hi:Option Int}(h:nR ts.length lo hi=true):Bg ts lo hi=ts:=by
 unfold nR at h;rw[bW]at h;unfold Bg;rw[eq_of_beq h.1,eq_of_beq h.2,List.drop_zero,Nat.sub_zero,List.take_length]
section
variable {P1 P2:bV->Rs (Option Int)}{lo hi:Option Expr}
inductive Yi(X:Cx)(x:V)(lo:Option Int)(hi:Option Int)(H:Hp)(Q:VK):Prop
 |mk (B:fh) (t:Tr):HB B H->Rep X.K (cj B H) x t->(Fi X H (TL t lo hi) fun t=>∀v H',bg H H'->Rep X.K (cj B H') v t->Q v H')->Yi X x lo hi H Q
theorem Yj:U4 X (Yi X):=by
 intro U s Z H x v n L lo hi sl Q I b hs pl pu ⟨B,t,hb,r,q⟩;by_cases hw:∃ts,t=.tup ts/\nR ts.length lo hi=true
 ·obtain⟨ts,rfl,hw⟩:=hw;have g:∀v H',bg H H'->Rep X.K (cj B H') v (.tup (Bg ts lo hi))->Q v H':=q;rw[Fx hw]at g;have M:=r;cases r with
  |@tup a vs _ h S=>
   cases b;obtain⟨cy,r2,l,hz⟩:=I.tuple h.up;have b9:cy.toArray.size=ts.length:=by rw[cW,<-r2.length];exact S.length
   refine⟨"tuple",_,wV.lookup,l.typeIs,?_⟩;unfold nR at hw;rw[bW]at hw;exact HT.rA l hs pl pu (by rw[b9];exact⟨eq_of_beq hw.1,eq_of_beq hw.2⟩) ⟨.ref a,H,I,rfl,g _ H (bg.refl H) M⟩
 ·have e:TL t lo hi=slT t lo hi:=by
   cases t with
   |tup ts=>
    have:¬nR ts.length lo hi=true:=λz=>hw ⟨ts,rfl,z⟩;exact(bc this).symm
   |_=>rfl
  rw[e]at q;exact aaV U s Z H x v n L lo hi sl Q I b hs pl pu ⟨B,t,hb,r,q⟩
theorem Yk(he:PE X e (tP X F))(hl:PO X lo (tO X P1))(hu:PO X hi (tO X P2)):PE X (.Subscript e (.Slice lo hi none p) pos) (tP X λY=>sI (F Y) (P1 Y) (P2 Y)):=
 (J' Yj he hl hu).weak λZ H Q ⟨B,Y,hb,r,q⟩=>⟨B,Y,hb,r,q.bind.mono λt b v H1 s1 r1=>⟨B,Y,hb.same s1,r.same s1,(b.bind.same s1).mono λl g H2 s2=>⟨B,Y,hb.same (s1.trans s2),r.same (s1.trans s2),(g.bind.same (s1.trans s2)).mono λh n M s3=>
  ⟨B,t,hb.same ((s1.trans s2).trans s3),r1.same (bJ (s2.trans s3)),(n.same ((s1.trans s2).trans s3)).mono λt b v I s4 L=>b v I (((s1.trans s2).trans s3).trans s4) L⟩⟩⟩⟩
end
noncomputable def qe{α:Type}(n:Nat)(lt:Nat->Nat->Bool):PySem.W.KasT α->Option α
 |.ret a=>some a
 |.ask i j k=>if i<n/\j<n/\i≠j then qe n lt (k (lt i j))else none
theorem Aq{α:Type}{n:Nat}{lt:Nat->Nat->Bool}{cmp:Nat->Nat->(Bool->Shared->Prop)->Shared->Prop}{Q:α->Shared->Prop}(q:∀i j C,i<n->j<n->i≠j->C (lt i j) s->cmp i j C s):∀(t:PySem.W.KasT α) {a:α},qe n lt t=some a->Q a s->t.kasWp cmp Q s
 |.ret b,a,e,h=>by cases e;exact h
 |.ask i j k,a,e,h=>by
  unfold qe at e;by_cases z:i<n/\j<n/\i≠j
  ·rw[aW z]at e;exact q i j _ z.1 z.2.1 z.2.2 (Aq q (k (lt i j)) e h)
  ·rw[bc z]at e;cases e
def Inv.adopt {b:Addr}{o:HO}(I:Inv X U Z H s)(h0:X.gA.heap.objs.size<=b)(f:kU X U H b)(new:cZ X.prog X.w (upd H b o) s.heap b o):Inv X U Z (upd H b o) s:=by
 obtain⟨g,l,_,_,hC,L⟩:=f;refine⟨I.ok,I.os,I.bare,⟨I.base.keep,I.base.slot,λc u e n M=>?_,I.base.there,λc xs e=>?_,λc u v e=>?_,λc ps e=>?_⟩,I.loc,I.cell,?_,λx c e=>?_,λp hp=>?_,λc u e=>?_,I.len⟩
 ·rw[bp (cc (dh (bx e) h0))];exact I.base.free c u e n M
 ·have q:=I.base.mR c xs e;rw[bp (bS q g)];exact q
 ·have q:=I.base.lI c u v e;rw[bp (bS q g)];exact q
 ·obtain⟨more,q⟩:=I.base.nM c ps e;exact⟨more,by rw[bp (bS q g)];exact q⟩
 ·rw[bp l.symm];exact I.free
 ·rw[bp (hC x c e)];exact I.f' x c e
 ·obtain⟨e,n,r⟩:=I.pin p hp;exact⟨e,by rw[bp (L p hp)];exact n,r⟩
 ·by_cases z:c=b
  ·subst z;rw[bM]at e;cases e;exact new
  ·rw[bp z]at e;exact(I.cY c u e).pK (λ_ _ _ q=>q) (λd q=>by rw[bp (bS q g)];exact q) λd xs q=>by rw[bp (bS q g)];exact q
def rS(H:Hp):List (Addr×List V)->Hp
 |[]=>H
 |p::r=>rS (upd H p.1 (.tup p.2)) r
theorem yC{H:Hp}:∀{l:List (Addr×List V)},(l.map (·.1)).Nodup->(∀p∈l,H p.1=none)->bg H (rS H l)/\∀p∈l,rS H l p.1=some (.tup p.2)
 |[],_,_=>⟨bg.refl H,λp m=>(nomatch m)⟩
 |p::l,nd,hn=>by
  rw[bO,hJ]at nd;have hp:H p.1=none:=hn p (cD ..);obtain⟨s,k⟩:=yC (H:=upd H p.1 (.tup p.2)) (l:=l) nd.2 λq m=>by
   rw[bp λz=>nd.1 (by rw[<-z];exact gx m)];exact hn q (cu _ m)
  refine⟨(bg.upd hp).trans s,λq m=>?_⟩;rcases bG.mp m with rfl|m
  ·exact s _ _ bM
  ·exact k q m
theorem Inv.DJ:∀{l:List (Addr×List V)} {H:Hp},Inv X U Z H s->(l.map (·.1)).Nodup->(∀p∈l,X.gA.heap.objs.size<=p.1/\kU X U H p.1/\p.2.length<=sizeLine/\∃cy:List Value,Vals p.2 cy/\IsTup s.heap p.1 cy.toArray)->Inv X U Z (rS H l) s
 |[],H,I,_,_=>I
 |p::l,H,I,nd,h=>by
  rw[bO,hJ]at nd;obtain⟨h0,hf,hz,cy,rv,it⟩:=h p (cD ..);refine Inv.DJ (H:=upd H p.1 (.tup p.2)) (I.adopt h0 hf ⟨hz,cy,rv,it⟩) nd.2 λq m=>?_
  obtain⟨g,b,r⟩:=h q (cu _ m);exact⟨g,⟨by rw[bp λz=>nd.1 (by rw[<-z];exact gx m)];exact b.1,b.2⟩,r⟩
def vS(v d:Addr):HO:=.ext λh=>h.IsItemsView v d
section
variable {to:TE}
def TM(to:TE):TE:=λZ H Q=>to Z H λx H1=>∃d kvs,x=.ref d/\Rd H1 d (.dK kvs)/\∀v,H1 v=none->Q (.ref v) (upd H1 v (vS v d))
theorem LD(q:PE X o to)(pO:attributeBase o "items" X.env (eval o X.env)=eval o X.env)(gb:(b8.endLine==p.line)=true):PE X (.Call (.Attribute o "items" b8) [] [] p) (TM to):=by
 intro U s Z H Q I h;refine wpAny_Call_method0_late pO gb (eK (q U s Z H _ I h) λv s1 ⟨x,H1,g,r1,d,kvs,ex,hd,L⟩=>?_);subst ex;cases(show v=Value.ref d from r1);obtain⟨hz,hs,vs,rv,hm⟩:=(show cZ X.prog X.w H1 s1.heap d (.dK kvs)from hd.ok g.cY);have l:=hm;obtain⟨n,es,ep,e,ex,_⟩:=hm;refine⟨"dict","dict.items",qL,PySem.F.slot_dict_items,PySem.F.type_dict_items,⟨n,e,ex.1⟩,λa M=>by cases M;exact⟨n,e,ex.2.1⟩,nF rfl (PySem.evalArgs_none ?_)⟩;refine jF PySem.F.slot_dict_items ⟨n,e,ex.1⟩ PySem.F.entry_dict_items (PySem.F.args_dict_items_1 _) (meets_dict_items (cp X.prog X.w) d hs) ⟨⟨vs,l⟩,?_⟩;refine⟨.ref s1.heap.objs.size,_,g.laid (t':=s1.toks) (o:=vS s1.heap.objs.size d) (λb u e=>bR _ e) (bz _) ?_,rfl,L _ g.fresh⟩;have S:(s1.heap.push {cls:=.type "dict_items",data:=.fields #[.ref d]}).IsItemsView s1.heap.objs.size d:=⟨_,cz _ rfl,rfl,rfl⟩;exact⟨S,⟨_,cz _ rfl⟩,λh1 h2 ⟨r,e1,r1⟩ k=>⟨r,k r e1,r1⟩⟩
end
noncomputable def yD(ss:List Str)(i j:Nat):Bool:=decide ((ss.getD i "").cps.toList<(ss.getD j "").cps.toList)
def ik(ss:List Str):Option (List Nat):=if ss.length<2 then some (List.range ss.length)else(qe ss.length (yD ss) (PySem.W.kas_sort ss.length)).bind λp=>if p.toList.all (λi=>decide (i<ss.length))=true/\p.toList.length<=64 then some p.toList else none
def Fy{p:List Nat}(h:ik ps=some p):p.length<=64:=by
 unfold ik at h;split at h
 ·cases h;rw[tB];omega
 ·cases e:qe ps.length (yD ps) (PySem.W.kas_sort ps.length)with
  |none=>rw[e]at h;cases h
  |some q=>
   rw[e]at h;by_cases z:q.toList.all (λi=>decide (i<ps.length))=true/\q.toList.length<=64
   ·have h':(if q.toList.all (λi=>decide (i<ps.length))=true/\q.toList.length<=64 then some q.toList else none)=some p:=h;rw[aW z]at h';cases h';exact z.2
   ·have h':(if q.toList.all (λi=>decide (i<ps.length))=true/\q.toList.length<=64 then some q.toList else none)=some p:=h;rw[bc z]at h';cases h'
def DK{ox oy:Obj}{b:Str}{t u:Tok}{q:Value}{Q:Bool->Shared->Prop}(hx:s.heap.get? a=some ox)(dx:ox.data=.seq #[.str av t,af] i) (hy:s.heap.get? au=some oy) (dy:oy.data=.seq #[.str b u,q] az) (ij:av≠b)
  (h:Q (decide (av.cps.toList<b.cps.toList)) s):wpAny (model P w) A (keyLt' (tuples' true) (.ref a) (.ref au)) Q E s:=by
 refine PySem.W.kat_lt hx dx hy dy (PySem.W.kat_cons (wpAny_eqBool_str ?_));rw[fF ij];exact PySem.W.kat_no (oneLt_str h)
section
variable {prog:Program}
theorem wk{P:PySem.Fin->Shared->Prop}(ho:s.heap.get? a=some (seqObj "list" aq.toArray i))(h2:aq.length<2)
  (h:∀h' c,(∀b o,b≠a->s.heap.get? b=some o->h'.get? b=some o)->h'.get? a=some (seqObj "list" aq.toArray c)->P (.done (.ret .none)) {s with heap:=h'}):
  wpAny (model prog w) A (Builtin.«list.sort» ⟨[.ref a],[]⟩) P E s:=by
 rw[list_sort_plain];have r:a<s.heap.objs.size:=bx ho;refine aT (listItems_at ho rfl ?_);refine aT (listUpdate_at ho rfl ?_ (by rw[cW,dX];omega) (d9 _));obtain⟨n,I⟩:∃n,(s.heap.update a (Obj.mapSeq λ_=>#[])).get? a=some (seqObj "list" #[] n):=⟨_,get?_update_seq ho (λ_=>#[])⟩;refine aT (seqEpoch_at I rfl ?_);refine aT (wpAny_newTuple ?_ (by rw[dX];simp;omega));refine aT (pG ?_ (d9 _));refine fG ?_
 have g:(((s.heap.update a (Obj.mapSeq λ_=>#[])).push (seqObj "tuple" aq.toArray 0)).push (seqObj "list" #[] 0)).get? a=some (seqObj "list" #[] n):=by
  rw[Heap.get?_push_ne _ _ _ (by rw[size_push',Heap.size_update];exact cc (lP r)),Heap.get?_push_ne _ _ _ (by rw[Heap.size_update];exact cc r)];exact I
 show wpAny (model prog w) A _ P E {s with heap:=((s.heap.update a (Obj.mapSeq λ_=>#[])).push (seqObj "tuple" aq.toArray 0)).push (seqObj "list" #[] 0)};dsimp only;have l:aq.toArray.size<2:=by simpa using h2
 rw[aW l,aW l];refine aT (bf ?_);rw[StateT.run_pure];refine aT (bf ?_);dsimp only;refine aT (seqEpoch_at g rfl ?_);refine aT (listUpdate_at g rfl ?_ (d9 _) (by rw[Array.size_map];show(pairsOf aq).size<=_;rw[pairsOf_size,dX];omega));simp only[tm,cK,cg];refine bf ?_
 have L:(aq.toArray.zip aq.toArray).map (·.2)=aq.toArray:=by
  apply Array.toList_inj.mp;simp only[Array.toList_map,Array.toList_zip];exact List.map_snd_zip (bz _)
 obtain⟨e,he⟩:=sortedHeap_at (out:=(aq.toArray.zip aq.toArray).map (·.2)) ho;refine h (sortedHeap s.heap a aq ((aq.toArray.zip aq.toArray).map (·.2))) e (λb o hb q=>(sortedHeap_old hb (bx q)).trans q) ?_
 rw[he,L]
end
def OR{kvs:List (Key×V)}{vs:List (Key×Value)}(r:KV kvs vs){k:Key}{v:V}(e:kvs[i]?=some (k,v)):∃u,vs[i]?=some (k,u)/\RelV v u:=by
 have g:Paired _ kvs vs:=r
 clear r
 induction g generalizing i with
 |nil=>simp at e
 |cons h t l=>
  cases i with
  |zero=>
   simp at e;rename_i a b _ _;obtain⟨n,h2⟩:=h;obtain⟨I,b2⟩:=b;subst e;exact⟨b2,by simpa using n.symm,h2⟩
  |succ i=>obtain⟨u,x,y⟩:=l (i:=i) (by simpa using e);exact⟨u,by simpa using x,y⟩
theorem yE{b:Addr}:∀{l:List (Addr×List V)} {H:Hp},b∉l.map (·.1)->rS H l b=H b
 |[],_,_=>rfl
 |p::l,H,h=>by
  rw[bO]at h;show rS (upd H p.1 (.tup p.2)) l b=_;rw[yE λz=>h (cu _ z),bp λz=>h (by rw[z];exact cD ..)]
theorem Ar(f:Nat->Addr):∀p:List Nat,Vals (p.map λi=>V.ref (f i)) (p.map λi=>Value.ref (f i))
 |[]=>.nil
 |i::p=>.cons rfl (Ar f p)
def BE(h:Heap)(L D:Addr):List (Addr×Obj):=(Fs h L).filter λp=>decide (p.1≠D)
def jL{b:Addr}{o:Obj}:(b,o)∈BE aa a au↔b≠a/\b≠au/\aa.get? b=some o:=by
 unfold BE;rw[gy,Ft,iD];exact⟨λz=>⟨z.1.1,z.2,z.1.2⟩,λz=>⟨⟨z.1,z.2.2⟩,z.2.1⟩⟩
theorem yF{h:Heap}:∀{as:List Addr} {ss:List Str},as.length=ss.length->(∀(i:Nat) (a:Addr) (z:Str),as[i]?=some a->ss[i]?=some z->∃t x,h.get? a=some {cls:=.type "tuple",data:=.seq #[.str z t,x]})->∃fs:List Value,PySem.W.KatTups h (as.map Value.ref) fs/\fs.length=ss.length/\∀v∈fs,∃z t,v=Value.str z t
 |[],[],_,_=>⟨[],.nil,rfl,λv m=>(nomatch m)⟩
 |[],_::_,e,_=>by cases e
 |_::_,[],e,_=>by cases e
 |a::as,z::ss,e,k=>by
  obtain⟨t,x,g⟩:=k 0 a z rfl rfl;obtain⟨fs,h1,h2,l⟩:=yF (as:=as) (ss:=ss) (by simpa using e) λi b y n r=>k (i+1) b y (by simpa using n) (by simpa using r);refine⟨.str z t::fs,.cons g rfl rfl rfl h1,by rw[dB,dB,h2],λv m=>?_⟩;rcases bG.mp m with rfl|m
  ·exact⟨z,t,rfl⟩
  ·exact l v m
theorem LF{α β:Type}:∀{xs:List α} {ys:List β} {p:α×β},p∈xs.zip ys->∃i:Nat,xs[i]?=some p.1/\ys[i]?=some p.2
 |[],_,_,h=>by simp at h
 |_::_,[],_,h=>by simp at h
 |x::xs,y::ys,p,h=>by
  rw[List.zip_cons_cons]at h;rcases bG.mp h with rfl|h
  ·exact⟨0,rfl,rfl⟩
  ·obtain⟨i,a,b⟩:=LF h;exact⟨i+1,by simpa using a,by simpa using b⟩
section
theorem zx(hc:X.calm=true):gL X (.builtin "sorted") (λxs H Q=>∃(v d:Addr) (kvs:List (Key×V)) (ss:List Str) (p:List Nat),xs=[.ref v]/\H v=some (vS v d)/\Rd H d (.dK kvs)/\kvs.map (·.1)=ss.map Sum.inr/\ss.length<64/\ik ss=some p/\
  ∀(as:List Addr) (D:Addr),as.length=kvs.length->as.Nodup->(∀a∈as,H a=none)->D∉as->H D=none->Q (.ref D) (upd (rS H (as.zip (kvs.map λq=>[kV q.1,q.2]))) D (.lst (p.map λi=>V.ref (as.getD i 0))))):=by
 intro U s Z H xs us Q I r h;obtain⟨v,d,kvs,ss,p,rfl,hv,hd,hk,Fc,hp,q⟩:=h;obtain⟨u,rfl,ru⟩:=vals1 r;cases(show u=Value.ref v from ru);obtain⟨hz,hs,vs,rv,hm⟩:=(show cZ X.prog X.w H s.heap d (.dK kvs)from hd.ok I.cY);obtain⟨ep,hm⟩:=hm.dictAt;have Yl:s.heap.IsItemsView v d:=(show cZ X.prog X.w H s.heap v (vS v d)from I.cY v _ hv).1;have Ym:=sD rv;have hsl:kvs.length=ss.length:=by have q:=cX List.length hk;rw[bu,bu]at q;exact q
 have hnd:ss.Nodup:=by
  obtain⟨_,_,_,_,_,_,_,nd⟩:=hm;have e:vs.map (·.1)=ss.map Sum.inr:=by
   rw[<-hk];refine o_ λi=>?_
   rw[ck,ck];cases e:kvs[i]? with
   |none=>
    have g:vs[i]?=none:=jm.mpr (by rw[<-Ym];exact jm.mp e)
    rw[g];rfl
   |some p=>
    obtain⟨z,e6⟩:=Bk rv (k:=p.1) (v:=p.2) e;rw[e6];rfl
  rw[e]at nd;exact List.Pairwise.of_map Sum.inr (λa b z e=>z (by rw[e])) nd
 refine call_function_entry kind_sorted plain_sorted entry_sorted (args_sorted1 _) ?_
 unfold Builtin.«sorted»;refine aT (m:=checkCount "sorted" 1 1 _) (bf ?_);refine aT (PySem.W.kdx_collect (A:=X.A.in1) (knd:=cp X.prog X.w) (kvs:=vs) (ep:=ep) (I.ok.hd hc) Yl hm (by rw[<-Ym];exact hz) λg tk as Z8 hl hG=>?_);refine aT (pG ?_ (by rw[bu,hl,<-Ym];exact hz));have F3:(g.push (seqObj "list" (as.map Value.ref).toArray 0)).get? g.objs.size=some (seqObj "list" (as.map Value.ref).toArray 0):=cz _ rfl;have QQ:∀i a,as[i]?=some a->∃z y t,ss[i]?=some z/\kvs[i]?=some (Sum.inr z,y)/\∃x,RelV y x/\g.get? a=some {cls:=.type "tuple",data:=.seq #[.str z t,x]}:=λi a e=>by
  obtain⟨key,k,x,e1,e2,e3⟩:=hG.pairs i a e;have hi:i<kvs.length:=by rw[Ym];exact(gu.mp e1).1
  have e4:kvs[i]?=some kvs[i]:=bY hi
  generalize kvs[i]=kv at e4;obtain⟨x',e6,rx⟩:=OR rv (k:=kv.1) (v:=kv.2) e4;rw[e1]at e6;cases e6;have e7:(kvs.map (·.1))[i]?=some kv.1:=by rw[ck,e4];rfl
  rw[hk,ck]at e7;cases e8:ss[i]? with
  |none=>rw[e8]at e7;cases e7
  |some z=>
   rw[e8]at e7;have e9:Sum.inr z=kv.1:=by simpa using e7
   obtain⟨t,rfl⟩:∃t,key=Value.str z t:=by
    rw[<-e9]at e2;exact Value.isStrOf_shape e2
   exact⟨z,kv.2,t,e8,by rw[e4,e9],x,rx,e3⟩
 obtain⟨m,RX,_⟩:=id I.loc;have hL:X.env.locals<s.heap.objs.size:=I.lt;have Z9:∀a∈as,s.heap.objs.size<=a:=λa L=>dC (hG.above a L);have aD:∀a∈as,a≠g.objs.size:=λa L=>cc (hG.there L);have aL:∀a∈as,a≠X.env.locals:=λa L=>dQ (dh hL (Z9 a L));have asz:∀b o,s.heap.get? b=some o->b<g.objs.size:=λb o e=>bx (Z8 b o e);have J:Inv X U Z H {s with heap:=g,toks:=tk}:=I.kept Z8;have TN:H g.objs.size=none:=J.fresh;have hDf:kU X U H g.objs.size:=J.xE (bz _) TN;have hD0:X.gA.heap.objs.size<=g.objs.size:=J.sz;have hDL:g.objs.size≠X.env.locals:=dQ J.lt;have S:as.length=ss.length:=by rw[hl,<-Ym,hsl]
 have nda:as.Nodup:=hG.rise.imp λh=>cc h;have hkl:(as.zip (kvs.map λq=>[kV q.1,q.2])).map (·.1)=as:=List.map_fst_zip (by rw[bu,S,hsl];exact bz _);have fin:∀h' c,(∀b o,b≠X.env.locals->b≠g.objs.size->(g.push (seqObj "list" (as.map Value.ref).toArray 0)).get? b=some o->h'.get? b=some o)->h'.Ns X.env.locals m->
   h'.get? g.objs.size=some (seqObj "list" (p.map λi=>Value.ref (as.getD i 0)).toArray c)->EP X U Z Q (.ref g.objs.size) {s with heap:=h',toks:=tk}:=by
  intro h' c kp PY hD;have kp1:∀b o,b≠X.env.locals->b≠g.objs.size->g.get? b=some o->h'.get? b=some o:=λb o n1 n2 e=>kp b o n1 n2 (bR _ e);have I1:Inv X U Z H {s with heap:=h',toks:=tk}:=I.Lx RX PY λb o n e=>kp1 b o n (cc (asz b o e)) (Z8 b o e);have zv:∀b,s.heap.objs.size<=b->kU X U H b:=λb hb=>I.xE hb (I.cY.fresh hb);have I2:=I1.DJ (l:=as.zip (kvs.map λq=>[kV q.1,q.2])) (by rw[hkl];exact nda) λt ht=>by
   obtain⟨i,e1,e2⟩:=LF ht;obtain⟨z,y,wg,_,e4,x,rx,e5⟩:=QQ i t.1 e1;have L:t.1∈as:=d7 e1;rw[ck,e4]at e2;have e6:[V.str z,y]=t.2:=Option.some.inj e2;refine⟨cF I.sz (Z9 _ L),zv _ (Z9 _ L),by rw[<-e6];show 2<=sizeLine;decide,[.str z wg,x],by rw[<-e6];exact .cons ⟨wg,rfl⟩ (.cons rx .nil),⟨_,kp1 _ _ (aL _ L) (aD _ L) e5,rfl,_,rfl⟩⟩
  have hDn:rS H (as.zip (kvs.map λq=>[kV q.1,q.2])) g.objs.size=none:=by
   rw[yE (by rw[hkl];exact λz=>aD _ z rfl)];exact TN
  have oO:p.length<=sizeLine:=cF (Fy hp) (by decide);refine⟨.ref g.objs.size,_,I2.adopt (o:=.lst (p.map λi=>V.ref (as.getD i 0))) hD0 ⟨hDn,hDf.2⟩ ⟨by rw[bu];exact oO,_,c,Ar _ p,hD⟩,rfl,q as g.objs.size (by rw[S,hsl]) nda (λa L=>I.cY.fresh (Z9 a L)) (λz=>aD _ z rfl) TN⟩
 refine aT (fG (g_ slot_list_sort ⟨_,F3,rfl⟩ entry_list_sort ?_ (args_list_sort _)));have Yn:(g.push (seqObj "list" (as.map Value.ref).toArray 0)).Ns X.env.locals m:=by
  obtain⟨o,es,JK,ho,r'⟩:=RX;exact⟨o,es,JK,bR _ (Z8 _ _ ho),r'⟩
 by_cases h2:ss.length<2
 ·have ep:p=List.range ss.length:=by
   unfold ik at hp;rw[aW h2]at hp;exact(Option.some.inj hp).symm
  have eo:as.map Value.ref=p.map λi=>Value.ref (as.getD i 0):=by
   rw[ep,<-S];refine o_ λi=>?_
   rw[ck,ck];by_cases hi:i<as.length
   ·rw[List.getElem?_range hi,bY hi];simp[hi]
   ·rw[jm.mpr (by omega),jm.mpr (by rw[tB];omega)]
    rfl
  refine wk F3 (by rw[bu,S];exact h2) λh' c kp hD=>⟨_,rfl,bf ⟨_,rfl,?_⟩⟩;refine fin h' c (λb o _ n e=>kp b o n e) ?_ (by rw[<-eo];exact hD)
  obtain⟨o,es,JK,ho,r'⟩:=Yn;exact⟨o,es,JK,kp _ _ hDL.symm ho,r'⟩
 ·obtain⟨M,er,u4,ep⟩:∃M:Array Nat,qe ss.length (yD ss) (PySem.W.kas_sort ss.length)=some M/\M.toList.all (λi=>decide (i<ss.length))=true/\p=M.toList:=by
   unfold ik at hp;rw[bc h2]at hp;cases e:qe ss.length (yD ss) (PySem.W.kas_sort ss.length)with
   |none=>rw[e]at hp;cases hp
   |some M=>
    rw[e]at hp;have Qv:(if M.toList.all (λi=>decide (i<ss.length))=true/\M.toList.length<=64 then some M.toList else none)=some p:=hp;by_cases z:M.toList.all (λi=>decide (i<ss.length))=true/\M.toList.length<=64
    ·rw[aW z]at Qv;exact⟨M,rfl,z.1,(Option.some.inj Qv).symm⟩
    ·rw[bc z]at Qv;cases Qv
  have F:Fr BB X.env.locals (g.push (seqObj "list" (as.map Value.ref).toArray 0)) m:=⟨Yn,(λb o e=>by rw[qd]at e;cases e),d9 _⟩;have N:News BB X.env.locals (g.push (seqObj "list" (as.map Value.ref).toArray 0)) (BE (g.push (seqObj "list" (as.map Value.ref).toArray 0)) X.env.locals g.objs.size):=λt ht=>by
   obtain⟨n1,n2,e⟩:=jL.mp (show(t.1,t.2)∈_ from ht);exact⟨e,n1,qd _⟩
  refine PySem.W.kat_list_sort (s:={s with heap:=g.push (seqObj "list" (as.map Value.ref).toArray 0),toks:=tk}) F N F3 hDL (qd _) (λt ht=>(jL.mp (show(t.1,t.2)∈_ from ht)).2.1) (by rw[bu,S];omega) (by rw[bu,S];exact Fc) λe1 h' F' N'=>?_
  have tp:∀(i:Nat) (a:Addr) (z:Str),as[i]?=some a->ss[i]?=some z->∃t x,h'.get? a=some {cls:=.type "tuple",data:=.seq #[.str z t,x]}:=λi a z ea ez=>by
   obtain⟨z',y,t,e3,_,x,_,e5⟩:=QQ i a ea;rw[ez]at e3;cases e3;have L:a∈as:=d7 ea;exact⟨t,x,(N' (a,_) (cu _ (jL.mpr ⟨aL a L,aD a L,bR _ e5⟩))).1⟩
  obtain⟨fs,kt,fl,abd⟩:=yF S tp;refine PySem.W.kat_kind (T:=.type "str") kt (by rw[fl];omega) (λv hv=>by obtain⟨z,t,rfl⟩:=abd v hv;exact .of_pure rfl) (by decide) ?_
  rw[show(Value.type "str" !=Value.type "tuple")=true by decide,bu,S];refine Aq (λi j C hi hj A8 hC=>?_) _ er ?_
  ·have ei:as[i]?=some as[i]:=bY (by rw[S];exact hi)
   have ej:as[j]?=some as[j]:=bY (by rw[S];exact hj)
   generalize as[i]=a at ei;generalize as[j]=b at ej;have zi:ss[i]?=some ss[i]:=bY hi
   have zj:ss[j]?=some ss[j]:=bY hj
   obtain⟨t1,x1,g1⟩:=tp i a _ ei zi;obtain⟨t2,x2,g2⟩:=tp j b _ ej zj;have va:(as.map Value.ref).getD i Value.none=Value.ref a:=by rw[eN,ck,ei];rfl
   have vb:(as.map Value.ref).getD j Value.none=Value.ref b:=by rw[eN,ck,ej];rfl
   show wpAny _ _ (keyLt' _ ((as.map Value.ref).getD i Value.none) ((as.map Value.ref).getD j Value.none)) _ _ _;rw[va,vb];refine DK g1 rfl g2 rfl (λe=>A8 (t8 hnd zi (by rw[zj,e]))) ?_
   have e9:yD ss i j=decide (ss[i].cps.toList<ss[j].cps.toList):=by
    unfold yD;rw[eN,eN,zi,zj]
    rfl
   rw[<-e9];exact hC
  ·refine PySem.W.KasFin.intro F' N' (.head λt ht=>(jL.mp (show(t.1,t.2)∈_ from ht)).2.1) λh'' c F'' N''=>⟨_,rfl,bf ⟨_,rfl,?_⟩⟩;have eo:(M.toList.map λi=>(as.map Value.ref).getD i Value.none)=p.map λi=>Value.ref (as.getD i 0):=by
    rw[ep];refine gw λi hi=>?_
    have ZV:i<as.length:=by rw[S];exact eO (dH.mp u4 i hi)
    rw[eN,eN,ck,bY ZV]
    rfl
   refine fin h'' c (λb o n1 n2 e=>(N'' (b,o) (cu _ (jL.mpr ⟨n1,n2,e⟩))).1) F''.ns ?_
   rw[<-eo];exact(N'' _ (cD ..)).1
noncomputable def rV:List (Key×Tr)->Option (List Str)
 |[]=>some []
 |(.inr z,_)::r=>(rV r).map λs=>z::s
 |_=>none
theorem uC:∀{bC:List (Key×Tr)} {ss:List Str},rV bC=some ss->bC.map (·.1)=ss.map Sum.inr
 |[],_,h=>by cases h;rfl
 |(.inr z,_)::r,ss,h=>by
  have h':(rV r).map (λs=>z::s)=some ss:=h;cases e:rV r with
  |none=>rw[e]at h';cases h'
  |some s=>rw[e]at h';cases h';rw[bO,bO,uC e]
 |(.inl _,_)::_,_,h=>by cases h
def wG:Tr->Rs Tr
 |.bX bC=>kY ((rV bC).bind λss=>if ss.length<64/\(ss.all λz=>decide (z.length<=dc))=true then(ik ss).map λp=>Tr.lst (p.map λi=>.tup [.str (ss.getD i ""),(bC.map (·.2)).getD i .cA])else none)
 |_=>.bad
def Fz(q:Fi X H (wG aC) aB):∃bC ss p,aC=.bX bC/\rV bC=some ss/\ss.length<64/\(∀z∈ss,z.length<=dc)/\ik ss=some p/\aB (.lst (p.map λi=>.tup [.str (ss.getD i ""),(bC.map (·.2)).getD i .cA])):=by
 cases aC with
 |bX bC=>
  obtain⟨x,e,n⟩:=gE q;cases g:rV bC with
  |none=>rw[g]at e;cases e
  |some ss=>
   rw[g]at e;have b:(if ss.length<64/\(ss.all λz=>decide (z.length<=dc))=true then(ik ss).map λp=>Tr.lst (p.map λi=>.tup [.str (ss.getD i ""),(bC.map (·.2)).getD i .cA])else none)=some x:=e;by_cases z:ss.length<64/\(ss.all λz=>decide (z.length<=dc))=true
   ·rw[aW z]at b;cases l:ik ss with
    |none=>rw[l]at b;cases b
    |some p=>
     rw[l]at b;cases b;exact⟨bC,ss,p,rfl,g,z.1,λy r=>eO (dH.mp z.2 y r),l,n⟩
   ·rw[bc z]at b;cases b
 |_=>exact fe q
def As{p:List Nat}(h:ik ps=some p):∀i∈p,i<ps.length:=by
 unfold ik at h;split at h
 ·cases h;exact λi hi=>tM.mp hi
 ·cases e:qe ps.length (yD ps) (PySem.W.kas_sort ps.length)with
  |none=>rw[e]at h;cases h
  |some q=>
   rw[e]at h;have h':(if q.toList.all (λi=>decide (i<ps.length))=true/\q.toList.length<=64 then some q.toList else none)=some p:=h;by_cases z:q.toList.all (λi=>decide (i<ps.length))=true/\q.toList.length<=64
   ·rw[aW z]at h';cases h';exact λi hi=>eO (dH.mp z.1 i hi)
   ·rw[bc z]at h';cases h'
variable {p1 dM:Pos}
theorem G9{W:Vw}{f:Nat->V}{g:Nat->Tr}:∀{p:List Nat},(∀i∈p,Rep K W (f i) (g i))->bP K W (p.map f) (p.map g)
 |[],_=>.nil
 |i::p,h=>.cons (h i (cD ..)) (G9 λj m=>h j (cu _ m))
theorem LH(hs:X.mg "sorted"=none)(ho:PE X o (tP X F))(hc:X.calm=true:=by rfl) (hg:Gl X "sorted":=by rfl) (hb:isCall o=false:=by rfl) (gb:(b8.endLine==dM.line)=true:=by rfl):
  PE X (.Call (.Name "sorted" p1) [.Call (.Attribute o "items" b8) [] [] dM] [] pos) (tP X λY=>(F Y).bind wG):=
 (pM (zx hc) hg hs rfl (lS (LD ho (gD hb) gb) se (bL _ _ rfl)) (by decide) (by decide) (bL _ _ rfl) (cR (es:=[]) rfl)).weak λZ H Q ⟨B,Y,hb,r,q⟩=>⟨B,Y,hb,r,q.bind.mono λt qt v H1 s1 rv=>by
  obtain⟨bC,ss,p,rfl,e1,Fc,htx,e2,k⟩:=Fz qt;cases rv with
  |@bX a kvs _ h ek rr=>
   refine⟨a,kvs,rfl,Rd.same bI h,λb I=>⟨b,a,kvs,ss,p,rfl,bM,Rd.same (bg.upd I) (Rd.same bI h),by rw[ek];exact uC e1,Fc,e2,λas D hl hnd hn hD hDn=>?_⟩⟩;have Bj:=hb.same s1;have sv:bg H1 (upd H1 b (vS b a)):=bg.upd I;have Ot:=Bj.same sv;have L:(as.zip (kvs.map λq=>[kV q.1,q.2])).map (·.1)=as:=List.map_fst_zip (by rw[bu,hl];exact bz _);obtain⟨st,gt⟩:=yC (H:=upd H1 b (vS b a)) (l:=as.zip (kvs.map λq=>[kV q.1,q.2])) (by rw[L];exact hnd) λt ht=>hn t.1 (tH ht).1;have M:rS (upd H1 b (vS b a)) (as.zip (kvs.map λq=>[kV q.1,q.2])) D=none:=by rw[yE (by rw[L];exact hD)];exact hDn
   have sd:=bg.upd (o:=.lst (p.map λi=>V.ref (as.getD i 0))) M;refine k _ _ (((s1.trans sv).trans st).trans sd) (.lst (vs:=p.map λi=>V.ref (as.getD i 0)) ?_ (G9 λi hi=>?_))
   ·exact((Ot.same st).new M)
   ·have S:=As e2 i hi;have ekl:kvs.length=ss.length:=by
     have g:=cX List.length (ek.trans (uC e1));rw[bu,bu]at g;exact g
    have n:i<as.length:=by rw[hl,ekl];exact S
    have Wf:i<kvs.length:=by rw[ekl];exact S
    have ea:as.getD i 0=as[i]:=by rw[eN,bY n];rfl
    have ez:ss.getD i ""=ss[i]:=by rw[eN,bY S];rfl
    have ekz:kvs[i].1=Sum.inr ss[i]:=by
     have g:=cX (λl=>l[i]?) (ek.trans (uC e1));simp only[ck,bY Wf,bY S,dt]at g;exact Option.some.inj g
    have hm:(as[i],[V.str ss[i],kvs[i].2])∈as.zip (kvs.map λq=>[kV q.1,q.2]):=by
     have g:(as.zip (kvs.map λq=>[kV q.1,q.2]))[i]?=some (as[i],[V.str ss[i],kvs[i].2]):=by
      rw[List.getElem?_zip_eq_some];refine⟨bY n,?_⟩;rw[ck,bY Wf];show some [kV kvs[i].1,kvs[i].2]=_;rw[ekz];rfl
     exact d7 g
    have g1:=gt _ hm;have nB:B.hd as[i]=false:=Ot.free (hn _ (kP n));have g2:(cj B (upd (rS (upd H1 b (vS b a)) (as.zip (kvs.map λq=>[kV q.1,q.2]))) D (.lst (p.map λi=>V.ref (as.getD i 0))))).H as[i]=some (.tup [V.str ss[i],kvs[i].2]):=by
     rw[gf nB];exact sd _ _ g1
    obtain⟨tv,et,rt⟩:=rr.xW (i:=i) (v:=kvs[i].2) (by rw[ck,bY Wf];rfl);have etd:(bC.map (·.2)).getD i .cA=tv:=by rw[eN,et];rfl
    rw[ea,ez,etd];exact .tup (.of g2) (.cons (.str _ (htx _ (kP S))) (.cons (rt.same (bJ ((sv.trans st).trans sd))) .nil))⟩
end
structure QE(X:Cx)(e:Expr)(F:bV->Rs Tr):Prop where
 h:PE X e (tP X F)
structure QT(X:Cx)(e:Expr)(F:bV->Rs Bool):Prop where
 h:PT X e (tQ X F)
structure QW(X:Cx)(e:Expr)(F:bV->Rs Bool):Prop where
 h:PW X e (tQ X F)
structure QA(X:Cx)(e:List Expr)(F:bV->Rs (List Tr)):Prop where
 h:PA X e (CM X F)
structure QS(X:Cx)(e:Stmt)(F:bV->Rs Out):Prop where
 h:PS X e (tS X F)
structure QB(X:Cx)(e:List Stmt)(F:bV->Rs Out):Prop where
 h:oU X e (tS X F)
structure QG(X:Cx)(e:Expr)(F:oQ):Prop where
 h:PG X e (tG X F)
structure Z_(X:Cx)(e:List Expr)(F:List Tr->bV->Rs bV):Prop where
 h:Nj X e (U_ X F)
structure QI(X:Cx)(tg e:Expr)(F:bV->Rs (List Tr)):Prop where
 h:PI X tg e (tI X F)
structure QJ(X:Cx)(tg e:Expr)(F:bV->Rs (List Tr)):Prop where
 h:PI X tg e (tJ X F)
structure QO(X:Cx)(e:Option Expr)(F:bV->Rs (Option Int)):Prop where
 h:PO X e (tO X F)
structure QF(X:Cx)(e:List Expr)(F:bV->Rs Bool):Prop where
 h:PF X e (tQ X F)
structure ZE(X:Cx)(e:Expr)(F:bV->Ab->Rz Tr):Prop where
 h:PE X e (tE X F)
structure NE(X:Cx)(e:Expr)(F:bV->Rs Tr):Prop where
 h:PE X e (tF X F)
structure ZT(X:Cx)(e:Expr)(F:bV->Ab->Rz Bool):Prop where
 h:PT X e (Qs X F)
structure ZL(X:Cx)(e:List Expr)(F:bV->Ab->Rz (List Tr)):Prop where
 h:PA X e (M6 X F)
structure ZS(X:Cx)(e:Stmt)(F:bV->Ab->Rz Out):Prop where
 h:PS X e (tZ X F)
structure ZB(X:Cx)(e:List Stmt)(F:bV->Ab->Rz Out):Prop where
 h:oU X e (tZ X F)
structure DL(X:Cx)(scope:Scope)(N':List Str)(tg elt:Expr)(ifs:List Expr)(T:oQ)(A:bV->Rs Bool)(F:bV->Rs Tr):Prop where
 all:∀s H ex,QG (uo X scope N' s H ex) tg T/\QF (uo X scope N' s H ex) ifs A/\QE (uo X scope N' s H ex) elt F
def DL.to {scope:Scope}{N':List Str}{elt:Expr}{ifs:List Expr}{T:oQ}{A:bV->Rs Bool}(b:DL X scope N' tg elt ifs T A F):NY X scope N' tg elt ifs T A F:=
 ⟨λs H ex=>⟨(b.all s H ex).1.h,(b.all s H ex).2.1.h,(b.all s H ex).2.2.h⟩⟩
section
variable {b:Expr}{E:bV->Rs Tr}
theorem aR(i:Nat)(q:X.N[i]?=some x:=by rfl) (hv:Zy X.env.scope x:=by first|exact Or.inl rfl|exact Or.inr (Or.inl rfl)|exact Or.inr (Or.inr rfl)) (hd:Db x:=by decide) (Es:(x==("__classdict__":Str))=false:=by decide):QE X (.Name x pos) (λY=>x6 Y i):=⟨Wg i q hv hd Es⟩
def bD{i:Int}{j pos}:QE X (.Constant (.int i) j pos) (λ_=>.ok (.int i)):=⟨Wh⟩
def yG{b:Bool}{j pos}:QE X (.Constant (.bool b) j pos) (λ_=>.ok (.bl b)):=⟨aaO⟩
def gi{j pos}:QE X (.Constant .none j pos) (λ_=>.ok .cA):=⟨Wi⟩
def aV{j pos}(hz:x.length<=dc:=by decide):QE X (.Constant (.str x) j pos) (λ_=>.ok (.str x)):=⟨Wj hz⟩
def DM(hm:X.mg x=none)(q:bootBuiltins x=some (.type ay):=by rfl) (hg:Gl X x:=by rfl) (hn:x≠"__name__":=by decide) (hd:Db x:=by decide):QE X (.Name x pos) (λ_=>.ok (.ty ay)):=⟨aaP hm q hg hn hd⟩
def fm{op:Operator}(q:Cg X (binaryOp op) aE)(ha:QE X e F)(hb:QE X b G):QE X (.BinOp e op b pos) (λY=>Ib aE (F Y) (G Y)):=⟨Wl q ha.h hb.h⟩
def Au{op:CmpOp}(q:Cg X (compareOp op) aE)(ha:QE X e F)(hb:QE X b G)(hm:behindInMarks op b=false:=by first|exact AV _|rfl|with_unfolding_all rfl):QE X (.Compare e [op] [b] pos) (λY=>Ib aE (F Y) (G Y)):=⟨Wm q ha.h hb.h hm⟩
def bF{op:CmpOp}(q:Cg X (compareOp op) aE)(ha:QE X e F)(hb:QE X b G)(hm:behindInMarks op b=false:=by first|exact AV _|rfl|with_unfolding_all rfl):QT X (.Compare e [op] [b] pos) (λY=>ZO (Ib aE (F Y) (G Y))):=⟨Wn q ha.h hb.h hm⟩
def m8(q:QE X e F)(he:mW e=true:=by rfl):QT X e (λY=>(F Y).bind pT):=⟨Wo q.h he⟩
end
section
variable {E:bV->Rs Tr}{A:bV->Rs Bool}
def yH(q:QT X e A):QT X (.UnaryOp .Not e pos) (λY=>Ic (A Y)):=⟨Wq q.h⟩
def jc(q:QT X e A):QW X (.BoolOp .And [e] pos) A:=⟨R9 q.h⟩
def vU(q:QT X e A):QW X (.BoolOp .Or [e] pos) A:=⟨Ws q.h⟩
def m9(q:QT X e A)(hb:QW X (.BoolOp .And (o::aA) pos) aF):QW X (.BoolOp .And (e::o::aA) pos) (λY=>Ie (A Y) (aF Y)):=⟨w_and q.h hb.h⟩
def DN(q:QT X e A)(hb:QW X (.BoolOp .Or (o::aA) pos) aF):QW X (.BoolOp .Or (e::o::aA) pos) (λY=>Wr (A Y) (aF Y)):=⟨w_or q.h hb.h⟩
def eY{op}(h:QW X (.BoolOp op aA pos) A):QT X (.BoolOp op aA pos) A:=⟨R_ h.h⟩
def LJ(q:QE X e F)(hb:QE X (.BoolOp .And (o::aA) pos) G):QE X (.BoolOp .And (e::o::aA) pos) (λY=>Wt (F Y) (G Y)):=⟨Wu q.h hb.h⟩
def QR{op}(h:QE X e F):QE X (.BoolOp op [e] pos) F:=⟨Wv h.h⟩
def DO(q:QT X tg A)(ha:QE X e F)(hb:QE X o G):QE X (.IfExp tg e o pos) (λY=>Kq (A Y) (F Y) (G Y)):=⟨aaQ q.h ha.h hb.h⟩
end
section
variable {E:bV->Rs Tr}{B:bV->Rs Bool}{c9:List Expr}
def bb:QA X [] (λ_=>.ok []):=⟨Gq⟩
def aS(q:QE X o F)(hr:QA X aA L)(hs:isStar o=false:=by rfl):QA X (o::aA) (λY=>x_ (F Y) (L Y)):=⟨A_ q.h hr.h hs⟩
def cf{q}(h:QA X aA L):QE X (.Tuple aA q pos) (λY=>Ba (L Y)):=⟨Ww h.h⟩
def qg(h:QA X aA L):QE X (.List aA pos) (λY=>zq (L Y)):=⟨Wx h.h⟩
def cO(q:lU X (.builtin ay) h)(hm:X.mg x=none)(ha:QA X (e::aA) L)(hv:bootBuiltins x=some (.builtin ay):=by rfl) (hg:Gl X x:=by rfl) (hn:x≠"__name__":=by decide) (fM:Db x:=by decide) (cG:bA (e::aA)=true:=by rfl):QE X (.Call (.Name x p) (e::aA) [] pos) (λY=>dO h (L Y)):=⟨NT q hm ha.h hv hg hn fM cG⟩
def eW(q:lU X (.type ay) h)(hm:X.mg x=none)(ha:QA X (e::aA) L)(hv:bootBuiltins x=some (.type ay):=by rfl) (hg:Gl X x:=by rfl) (hn:x≠"__name__":=by decide) (fM:Db x:=by decide) (cG:bA (e::aA)=true:=by rfl):QE X (.Call (.Name x p) (e::aA) [] pos) (λY=>dO h (L Y)):=⟨Kr q hm ha.h hv hg hn fM cG⟩
def Yp{fd:FuncData}(D:zQ X.K X.mg x ai ps a fd)(G:eI X.prog X.w X.K X.mg X.base mw i a fd ps (spT X.K h))(q:di i X.A)(ha:QA X (e::aA) L)(hg:Gl X x:=by rfl) (fM:Db x:=by decide) (cG:bA (e::aA)=true:=by rfl):QE X (.Call (.Name x p) (e::aA) [] pos) (λY=>dO h (L Y)):=⟨Wy D G q ha.h hg fM cG⟩
end
section
variable {c:Expr}{G G':bV->Rs Out}
def dU:QB X [] (λY=>.ok (.nx Y)):=⟨Wz⟩
def bQ(q:QS X ai G)(h2:QB X ah G'):QB X (ai::ah) (λY=>CO (G Y) G'):=⟨Sa q.h h2.h⟩
def cC(q:QS X ai G):QB X [ai] G:=⟨WA q.h⟩
def fo{i:Nat}(he:QE X e F)(q:X.N.Nodup:=by assumption) (hi:X.N[i]?=some x:=by rfl) (hx:Loc X.env.scope x:=by first|exact Or.inl rfl|exact Or.inr rfl) (hs:sj e=false:=by rfl) (hf:zf X x:=by first|exact .inl rfl|exact .inr rfl|assumption):QS X (.Assign [.Name x p] e pos) (λY=>Ks i (F Y) Y):=⟨WC he.h q hi hx hs hf⟩
def cJ(he:QE X e F):QS X (.Return (some e) pos) (λY=>Kt (F Y)):=⟨WD he.h⟩
def gj(q:QT X c aF)(ha:QB X ah G)(hb:QB X aj G'):QS X (.If c ah aj pos) (λY=>U9 (aF Y) (G Y) (G' Y)):=⟨aaR q.h ha.h hb.h⟩
def fI(i:Nat)(q:X.N.Nodup:=by assumption) (hi:X.N[i]?=some x:=by rfl) (hx:Loc X.env.scope x:=by first|exact Or.inl rfl|exact Or.inr rfl) (hf:zf X x:=by first|exact .inl rfl|exact .inr rfl|assumption):QG X (.Name x pos) (gN i):=⟨Sb i q hi hx hf⟩
def G_:Z_ X [] (EO []):=⟨WE⟩
def qi{i:Nat}{is:List Nat}(h2:Z_ X aA (EO is))(q:X.N.Nodup:=by assumption) (hi:X.N[i]?=some x:=by rfl) (hx:Loc X.env.scope x:=by first|exact Or.inl rfl|exact Or.inr rfl) (hf:zf X x:=by first|exact .inl rfl|exact .inr rfl|assumption) (hs:(assignEach (.Name x pos::aA) X.env).map (·.2)=assign (.Name x pos) X.env::(assignEach aA X.env).map (·.2):=by rfl):Z_ X (.Name x pos::aA) (EO (i::is)):=⟨Sd h2.h q hi hx hf hs⟩
def Ha{is:List Nat}(h:Z_ X aA (EO is))(q:X.calm=true:=by rfl) (hn:(assignEach aA X.env).length=is.length:=by rfl) (cG:(assignEach aA X.env).findIdx? (·.1)=none:=by rfl):QG X (.Tuple aA i pos) (gT is):=⟨WG h.h q hn cG⟩
def Yq{T:oQ}(q:QG X tg T)(he:QE X e F)(hs:swapsWithSole [tg] e pos.line X.env=pure false:=by rfl) (hw:swappedStores [tg] e X.env=pure none:=by rfl) (h1:(assignEach [tg] X.env).map (·.2)=[assign tg X.env]:=by rfl):QS X (.Assign [tg] e pos) (λY=>Ku T (F Y) Y):=⟨WH q.h he.h hs hw h1⟩
def oE(q:QE X e F):QI X tg e (λY=>Kv (F Y)):=⟨WI q.h⟩
end
section
variable {G G':bV->Rs Out}
def LK(hm:X.mg "range"=none)(q:QA X [e] L)(hg:Gl X "range":=by rfl) (hs:bA [e]=true:=by rfl):QI X tg (.Call (.Name "range" p) [e] [] pos) (λY=>Gv (L Y)):=⟨Kw hm q.h hg hs⟩
end
section
variable {b c:Expr}{G G':bV->Rs Out}{A:bV->Rs Bool}{N':List Str}{ix:List (Option Nat)}{T:oQ}
def Av:QF X [] (λ_=>.ok true):=⟨WK⟩
def vV(h:QT X c A):QF X [c] A:=⟨WL h.h⟩
def Jd(q:gY X N' ix ax)(hi:QI X tg o L)(lJ:DL X ax N' tg e aA T A F)(hT:jV T)(hc:X.calm=true:=by rfl) (hs:isSet o=false:=by rfl):QE X (.ListComp e [⟨tg,o,aA,0⟩] ax pos) (λY=>vI ix T A F (L Y) Y):=⟨aaS q hi.h lJ.to hT hc hs⟩
def OS{i:Nat}(q:gY X N' ix ax)(hit:QI X tg o L)(lJ:DL X ax N' tg e aA T A F)(hT:jV T)(hN:X.N.Nodup:=by assumption) (hc:X.calm=true:=by rfl) (hi:X.N[i]?=some x:=by rfl) (hx:Loc X.env.scope x:=by first|exact Or.inl rfl|exact Or.inr rfl) (HZ:swapsWith (.ListComp e [⟨tg,o,aA,0⟩] ax pos) (some (.Name x p)) b8.line X.env=pure true:=by rfl) (hs:isSet o=false:=by rfl) (hf:zf X x:=by first|exact .inl rfl|exact .inr rfl|assumption):QS X (.Assign [.Name x p] (.ListComp e [⟨tg,o,aA,0⟩] ax pos) b8) (λY=>Ks i (vI ix T A F (L Y) Y) Y):=⟨NZ q hit.h lJ.to hT hN hc hi hx HZ hs hf⟩
end
section
variable {b:Expr}
def bT(q:X.A.units+1<cLine)(ha:QE X o F)(hb:QE X b G)(hs:ue b:=by exact λ_ _=>rfl):QE X (.Subscript o b pos) (λY=>Ib jW (F Y) (G Y)):=⟨aaU q ha.h hb.h hs⟩
def qj:QO X none (λ_=>.ok none):=⟨Sq⟩
def qm(h:QE X e F):QO X (some e) (λY=>EZ (F Y)):=⟨Sr h.h⟩
end
def QU(q:QE X e F):QE X (.UnaryOp .USub e pos) (λY=>(F Y).bind Su):=⟨WR q.h⟩
section
variable {E:bV->Rs Tr}{keys:List (Option Expr)}{P:bV->Rs (List (Tr×Tr))}
def LL(h:QP X pos keys aA P)(q:keys.all (·.isSome)=true:=by rfl) (hl:keys.length=aA.length:=by rfl) (h0:keys.isEmpty=false:=by rfl) (NK:keys.length<=15:=by decide):QE X (.Dict keys aA pos) (λY=>WS (P Y)):=⟨Sx h q hl h0 NK⟩
def TQ(q:X.A.units+1<cLine)(ho:QE X o F)(he:QE X e G)(hb:isCall o=false:=by rfl) (cG:bA [e]=true:=by rfl) (hl:(b8.endLine==p.line)=true:=by rfl):QE X (.Call (.Attribute o "get" b8) [e] [] p) (λY=>KC (F Y) (G Y)):=⟨Sy q ho.h he.h hb cG hl⟩
def LM(q:X.A.units+1<cLine)(ho:QE X o F)(he:QE X e G)(hf:QE X am E)(hb:isCall o=false:=by rfl) (cG:bA [e,am]=true:=by rfl) (hl:(b8.endLine==p.line)=true:=by rfl):QE X (.Call (.Attribute o "get" b8) [e,am] [] p) (λY=>C7 (F Y) (G Y) (E Y)):=⟨Sz q ho.h he.h hf.h hb cG hl⟩
end
section
variable {a:Expr}{keys:List (Option Expr)}{P:bV->Rs (List (Tr×Tr))}
def Yr(g:Bh X.K X.w X.mg x bC)(q:QE X a F)(hg:Gl X x:=by rfl) (hd:Db x:=by decide) (hs:NH a:=by exact λ_ _=>rfl):QE X (.Subscript (.Name x p) a pos) (λY=>(F Y).bind (SA bC)):=⟨WT g q.h hg hd hs⟩
end
def Ys(hm:X.mg "zip"=none)(q:QA X [e,o] L)(hg:Gl X "zip":=by rfl) (hs:bA [e,o]=true:=by rfl):QI X (.Tuple aA i b8) (.Call (.Name "zip" p) [e,o] [] pos) (λY=>zpW (L Y)):=⟨Xz hm q.h hg hs⟩
def il(h:QE X e F):QE X (.FormattedValue e (-1) none pos) (λY=>(F Y).bind Oz):=⟨S4 h.h⟩
def Hb(q:QE X e F):QJ X tg e (λY=>KU (F Y)):=⟨Xb q.h⟩
section
variable {b:Expr}{es:List Expr}{N':List Str}{ix:List (Option Nat)}{T:oQ}
def QV(q:gY X N' ix ax)(hi:QJ X tg o L)(lJ:DL X ax N' tg e aA T aF F)(hT:jV T)(hc:X.calm=true:=by rfl) (hs:isSet o=false:=by rfl):QE X (.ListComp e [⟨tg,o,aA,0⟩] ax pos) (λY=>vI ix T aF F (L Y) Y):=⟨Xc q hi.h lJ.to hT hc hs⟩
def TR{G:bV->Rs Out}(hi:QJ X tg o L)(q:QG X tg T)(hb:QB X ah G)(hp:PassesOwn (model X.prog X.w) X.A X.env X.xe:=by exact pC) (hc:X.calm=true:=by rfl) (hs:isSet o=false:=by rfl):QS X (.For tg o ah [] pos) (λY=>Gu T G (L Y) Y):=⟨SR hi.h q.h hb.h hp hc hs⟩
end
def Yt{h:List Tr->Tr->Rs Tr}(slot:Slot "list" x ay)(q:typeOf (.builtin ay)=pure (.type "method_descriptor"))(hm:RH X ay (XJ X h))(ho:QE X o F)(he:QE X e G)(pa:PlainAttrs "list":=by exact sS) (pO:isCall o=false:=by rfl) (cG:bA [e]=true:=by rfl) (gb:(b8.endLine==pos.line)=true:=by rfl):QE X (.Call (.Attribute o x b8) [e] [] pos) (λY=>lmR h (F Y) (G Y)):=⟨aa8 slot q hm ho.h he.h pa pO cG gb⟩
section
variable {dM:Pos}
def Yu(q:X.A.units+1<cLine)(g:Lf X.K X.mg x ts)(he:QE X e G)(hg:Gl X x:=by rfl) (hd:Db x:=by decide) (cG:bA [e]=true:=by rfl) (gb:(b8.endLine==dM.line)=true:=by rfl):QE X (.Call (.Attribute (.Name x p) "index" b8) [e] [] dM) (λY=>(G Y).bind (wj ts)):=⟨XN q g he.h hg hd cG gb⟩
def Yv{q}(hu:X.A.units+1<cLine)(ht:QA X aA L)(he:QE X e G)(cG:bA [e]=true:=by rfl) (gb:(b8.endLine==dM.line)=true:=by rfl):QE X (.Call (.Attribute (.Tuple aA q pos) "index" b8) [e] [] dM) (λY=>(L Y).bind λts=>if ts.length<=ee then(G Y).bind (wj ts)else .bad):=⟨XO hu ht.h he.h cG gb⟩
end
section
variable {dM:Pos}{fd:FuncData}{k:Nat}
def TU(D:MethAt X.K x av ai ps a fd)(G:eI X.prog X.w X.K X.mg X.base mw k a fd ps (spT X.K h))(q:di k X.A)(ho:QE X o F)(ha:QA X (e::aA) L){pl:Sem Bool}(cG:bA (e::aA)=true:=by rfl) (ht:eval (.Call (.Attribute o av b8) (e::aA) [] pos) X.env=t7 pos b8 o av (e::aA) X.env pl:=by rfl):QE X (.Call (.Attribute o av b8) (e::aA) [] pos) (λY=>vP x av h (F Y) (L Y)):=⟨Tb D G q ho.h ha.h cG ht⟩
def OT(D:MethAt X.K x av ai ps a fd)(G:eI X.prog X.w X.K X.mg X.base mw k a fd ps (spT X.K h))(q:di k X.A)(ho:QE X o F){pl:Sem Bool}(ht:eval (.Call (.Attribute o av b8) [] [] pos) X.env=t7 pos b8 o av [] X.env pl:=by rfl):QE X (.Call (.Attribute o av b8) [] [] pos) (λY=>vP x av h (F Y) (.ok [])):=⟨OD D G q ho.h ht⟩
end
section
variable {p2:Pos}
def TV(hs:X.mg "sorted"=none)(hm:X.mg "set"=none)(q:QE X e F)(hc:X.calm=true:=by rfl) (hg:Gl X "sorted":=by rfl) (Lu:Gl X "set":=by rfl) (cG:bA [e]=true:=by rfl):QE X (.Call (.Name "sorted" p) [.Call (.Name "set" p2) [e] [] b8] [] pos) (λY=>(F Y).bind p_):=⟨Tz hs hm q.h hc hg Lu cG⟩
end
def TX(T:BA X.K X.w X.mg x ps)(q:Gl X x:=by rfl) (fM:Db x:=by decide):QI X tg (.Name x p) (λ_=>.ok (ps.map .str)):=⟨TB T q fM⟩
def aY(h:QE X e F):ZE X e (λY A=>gO (F Y) A):=⟨SF h.h⟩
def bj(h:QE X e F):ZE X e (λY A=>sx (F (dv A Y)) A):=⟨SG h.h⟩
def cx(h:QT X e aF):ZT X e (λY A=>gO (aF (dv A Y)) A):=⟨Oj h.h⟩
def gm(h:NE X e F):ZE X e (λY A=>vg (F (dv A Y)) A):=⟨WY h.h⟩
section
variable {c:Expr}{G:bV->Ab->Rz Out}{P:bV->Ab->Rz Bool}
def dD:ZB X [] (λY A=>.ok (.nx Y) A):=⟨WZ⟩
def bt(q:ZS X ai G)(h2:ZB X ah aK):ZB X (ai::ah) (λY A=>E4 (G Y A) aK):=⟨SH q.h h2.h⟩
def bN(q:ZS X ai G):ZB X [ai] G:=⟨W0 q.h⟩
def Aw:ZE X e (λ_ _=>.bad):=⟨W3⟩
def g0{i:Nat}(he:ZE X e aI)(q:X.N.Nodup:=by assumption) (hi:X.N[i]?=some x:=by rfl) (hx:Loc X.env.scope x:=by first|exact Or.inl rfl|exact Or.inr rfl) (hs:sj e=false:=by rfl) (hf:zf X x:=by first|exact .inl rfl|exact .inr rfl|assumption):ZS X (.Assign [.Name x p] e pos) (λY A=>Bi i (aI Y A) Y):=⟨W4 he.h q hi hx hs hf⟩
def fb(he:ZE X e aI):ZS X (.Return (some e) pos) (λY A=>KI (aI Y A)):=⟨W5 he.h⟩
def TY:ZS X (.Return none pos) (λ_ A=>.ok (.ret .cA) A):=⟨SJ⟩
def cB(he:ZE X e aI)(hs:sj e=false:=by rfl):ZS X (.Expr e pos) (λY A=>p7 (aI Y A) Y):=⟨SK he.h hs⟩
def fq(q:ZT X c P)(h1:ZB X ah G)(h2:ZB X aj aK):ZS X (.If c ah aj pos) (λY A=>ZU (P Y A) (G Y) (aK Y)):=⟨aaX q.h h1.h h2.h⟩
def QX{T:oQ}(q:QG X tg T)(hT:jV T)(he:ZE X e aI)(hs:swapsWithSole [tg] e pos.line X.env=pure false:=by rfl) (hw:swappedStores [tg] e X.env=pure none:=by rfl) (h1:(assignEach [tg] X.env).map (·.2)=[assign tg X.env]:=by rfl):ZS X (.Assign [tg] e pos) (λY A=>KJ T (aI Y A) Y):=⟨W6 q.h hT he.h hs hw h1⟩
theorem Hc{T:oQ}(hi:QI X tg e L)(q:QG X tg T)(hT:jV T)(hb:ZB X ah G)(hp:PassesOwn (model X.prog X.w) X.A X.env X.xe:=by first|exact pC|exact xx) (hc:X.calm=true:=by rfl) (hs:isSet e=false:=by rfl):ZS X (.For tg e ah [] pos) (λY A=>GQ T G (gO (L Y) A) Y):=⟨W7 hi.h q.h hT hb.h hp hc hs⟩
end
def bE:ZL X [] (λ_ A=>.ok [] A):=⟨KO⟩
def aX(q:ZE X e aI)(hr:ZL X aA aH)(hs:isStar e=false:=by rfl):ZL X (e::aA) (λY A=>GS (aI Y A) (aH Y)):=⟨GU q.h hr.h hs⟩
section
variable {r:V->List V->Hp->VK->Prop}{h:Nat->List Tr->Ab->Rz Tr}
def Ax(slot:Slot "list" x ay)(q:typeOf (.builtin ay)=pure (.type "method_descriptor"))(hm:MtM X ay r)(hz:WrZ X r h)(ho:ZE X o aI)(ha:ZL X (e::aA) aH)(pa:PlainAttrs "list":=by exact sS) (pO:isCall o=false:=by rfl) (cG:bA (e::aA)=true:=by rfl) (hn:(e::aA).length<30:=by decide) (gb:(b8.endLine==p.line)=true:=by rfl):ZE X (.Call (.Attribute o x b8) (e::aA) [] p) (λY A=>mtL h (aI Y A) (aH Y)):=⟨W9 slot q hm hz ho.h ha.h pa pO cG hn gb⟩
end
def yI(h:QA X aA L):NE X (.List aA pos) (λY=>zq (L Y)):=⟨W_ h.h⟩
def mi:NE X (.Dict [] [] pos) (λ_=>.ok (.bX [])):=⟨SO⟩
section
variable {a b:Expr}{es:List Expr}{N':List Str}{ix:List (Option Nat)}{T:oQ}{W:bV->Rs (List Tr)}
def TZ(q:gY X N' ix ax)(hi:QI X tg am W)(lJ:DL X ax N' tg o aA T aF F)(hT:jV T)(hc:X.calm=true:=by rfl) (hs:isSet am=false:=by rfl):NE X (.ListComp o [⟨tg,am,aA,0⟩] ax pos) (λY=>vI ix T aF F (W Y) Y):=⟨aaY q hi.h lJ.to hT hc hs⟩
def OU{i:Nat}(q:gY X N' ix ax)(hit:QI X tg am W)(lJ:DL X ax N' tg o aA T aF F)(hT:jV T)(hN:X.N.Nodup:=by assumption) (hc:X.calm=true:=by rfl) (hi:X.N[i]?=some x:=by rfl) (hx:Loc X.env.scope x:=by first|exact Or.inl rfl|exact Or.inr rfl) (HZ:swapsWith (.ListComp o [⟨tg,am,aA,0⟩] ax pos) (some (.Name x p)) b8.line X.env=pure true:=by rfl) (hs:isSet am=false:=by rfl) (hf:zf X x:=by first|exact .inl rfl|exact .inr rfl|assumption):ZS X (.Assign [.Name x p] (.ListComp o [⟨tg,am,aA,0⟩] ax pos) b8) (λY A'=>Bi i (vg (vI ix T aF F (W (dv A' Y)) (dv A' Y)) A') Y):=⟨Om q hit.h lJ.to hT hN hc hi hx HZ hs hf⟩
def yJ(q:gL X (.type ay) (rF X h))(hm:X.mg x=none)(ha:QA X (e::es) L)(hv:bootBuiltins x=some (.type ay):=by rfl) (hg:Gl X x:=by rfl) (hn:x≠"__name__":=by decide) (fM:Db x:=by decide) (cG:bA (e::es)=true:=by rfl):NE X (.Call (.Name x p) (e::es) [] pos) (λY=>dO h (L Y)):=⟨KR q hm ha.h hv hg hn fM cG⟩
end
section
variable {h:List Tr->Ab->Rz Tr}{fd:FuncData}{k:Nat}
def Yw(D:zQ X.K X.mg x ai ps a fd)(G:eI X.prog X.w X.K X.mg X.base (vf X.prog X.w) k a fd ps (vQ X.K h))(q:di k X.A)(ha:ZL X (e::aA) aH)(hx:X.ex=[]:=by rfl) (hg:Gl X x:=by rfl) (fM:Db x:=by decide) (cG:bA (e::aA)=true:=by rfl):ZE X (.Call (.Name x p) (e::aA) [] pos) (λY A=>(aH Y A).bind h):=⟨XT D G q ha.h hx hg fM cG⟩
end
section
variable {h:List Tr->Ab->Rz Tr}{fd:FuncData}{k:Nat}
def T1(D:MethAt X.K x av ai ps a fd)(G:eI X.prog X.w X.K X.mg X.base (vf X.prog X.w) k a fd ps (vQ X.K h))(q:di k X.A)(ho:ZE X o aI)(ha:ZL X (e::aA) aH){pl:Sem Bool}(hx:X.ex=[]:=by rfl) (cG:bA (e::aA)=true:=by rfl) (ht:eval (.Call (.Attribute o av b8) (e::aA) [] pos) X.env=t7 pos b8 o av (e::aA) X.env pl:=by rfl):ZE X (.Call (.Attribute o av b8) (e::aA) [] pos) (λY A=>rO x av h (aI Y A) (aH Y)):=⟨Td D G q ho.h ha.h hx cG ht⟩
def OV(D:MethAt X.K x av ai ps a fd)(G:eI X.prog X.w X.K X.mg X.base (vf X.prog X.w) k a fd ps (vQ X.K h))(q:di k X.A)(ho:ZE X o aI){pl:Sem Bool}(hx:X.ex=[]:=by rfl) (ht:eval (.Call (.Attribute o av b8) [] [] pos) X.env=t7 pos b8 o av [] X.env pl:=by rfl):ZE X (.Call (.Attribute o av b8) [] [] pos) (λY A=>rO x av h (aI Y A) λA=>.ok [] A):=⟨OF D G q ho.h hx ht⟩
end
def hZ(D:rP X.K X.mg x)(q:ZL X (e::aA) aH)(hx:X.ex=[]:=by rfl) (hc:X.calm=true:=by rfl) (hg:Gl X x:=by rfl) (fM:Db x:=by decide) (cG:bA (e::aA)=true:=by rfl):ZS X (.Raise (some (.Call (.Name x p) (e::aA) [] b8)) none pos) (λY A=>Fj x (aH Y A)):=⟨OH D q.h hx hc hg fM cG⟩
theorem du(T:iZ X.K ps x)(he:QE X e F)(hb:attributeBase e x X.env (eval e X.env)=eval e X.env:=by first|exact gD rfl|rfl):QE X (.Attribute e x pos) (λY=>(F Y).bind (kg ps x)):=⟨Te T he.h hb⟩
theorem lj(T:iZ X.K ps x)(he:ZE X e aJ)(hb:attributeBase e x X.env (eval e X.env)=eval e X.env:=by first|exact gD rfl|rfl):ZE X (.Attribute e x pos) (λY A=>uB ps x (aJ Y A)):=⟨Tf T he.h hb⟩
def qv(T:iZ X.K ps x)(q:ZE X o aJ)(hv:ZE X tg aI):ZS X (.Assign [.Attribute o x p] tg pos) (λY A=>XW ps x (aI Y A) (aJ Y) Y):=⟨XX T q.h hv.h⟩
section
variable {b i:Expr}{E:bV->Ab->Rz Tr}
def uD(q:X.A.units+1<cLine)(h1:ZE X e aI)(h2:ZE X b aJ)(hs:ue b:=by exact λ_ _=>rfl):ZE X (.Subscript e b pos) (λY A=>OJ jW (aI Y A) (aJ Y)):=⟨aa9 q h1.h h2.h hs⟩
def gU(q:X.A.units+1<cLine)(ho:ZE X o aI)(hi:ZE X i aJ)(hv:ZE X tg E):ZS X (.Assign [.Subscript o i p] tg pos) (λY A=>Tg (E Y A) (aI Y) (aJ Y) Y):=⟨Th q ho.h hi.h hv.h⟩
end
section
variable {E:bV->Ab->Rz Tr}
def LN(q:ZE X o aI)(he:ZE X e aJ)(hb:isCall o=false:=by rfl) (cG:bA [e]=true:=by rfl) (hl:(b8.endLine==p.line)=true:=by rfl):ZE X (.Call (.Attribute o "pop" b8) [e] [] p) (λY A=>Lh (aI Y A) (aJ Y)):=⟨Ti q.h he.h hb cG hl⟩
def T2(q:ZE X o aI)(he:ZE X e aJ)(hf:ZE X tg E)(hb:isCall o=false:=by rfl) (cG:bA [e,tg]=true:=by rfl) (hl:(b8.endLine==p.line)=true:=by rfl):ZE X (.Call (.Attribute o "pop" b8) [e,tg] [] p) (λY A=>Lj (aI Y A) (aJ Y) (E Y)):=⟨Tn q.h he.h hf.h hb cG hl⟩
end
section
variable {E:bV->Ab->Rz Tr}{c:Str}{h:List Tr->Ab->Rz Tr}{fd:FuncData}{k:Nat}
def T5(D:yz X.K X.mg c ps a fd)(aJ:eI X.prog X.w X.K X.mg X.base (vf X.prog X.w) k a fd ps (vQ X.K h))(q:di (k+1) X.A)(ha:ZL X (e::aA) aH)(hx:X.ex=[]:=by rfl) (hg:Gl X c:=by rfl) (fM:Db c:=by decide) (cG:bA (e::aA)=true:=by rfl):ZE X (.Call (.Name c p) (e::aA) [] pos) (λY A=>yy c h (aH Y A)):=⟨To D aJ q ha.h hx hg fM cG⟩
def OW(D:yz X.K X.mg c ps a fd)(aJ:eI X.prog X.w X.K X.mg X.base (vf X.prog X.w) k a fd ps (vQ X.K h))(q:di (k+1) X.A)(hx:X.ex=[]:=by rfl) (hg:Gl X c:=by rfl) (fM:Db c:=by decide):ZE X (.Call (.Name c p) [] [] pos) (λ_ A=>yy c h (.ok [] A)):=⟨OK D aJ q hx hg fM⟩
end
section
variable {b:Expr}{es:List Expr}{N':List Str}{ix:List (Option Nat)}{T:oQ}
def LO{i:Nat}(q:gY X N' ix ax)(hit:QJ X tg o L)(lJ:DL X ax N' tg e aA T aF F)(hT:jV T)(hN:X.N.Nodup:=by assumption) (hc:X.calm=true:=by rfl) (hi:X.N[i]?=some x:=by rfl) (hx:Loc X.env.scope x:=by first|exact Or.inl rfl|exact Or.inr rfl) (HZ:swapsWith (.ListComp e [⟨tg,o,aA,0⟩] ax pos) (some (.Name x p)) b8.line X.env=pure true:=by rfl) (hs:isSet o=false:=by rfl) (hf:zf X x:=by first|exact .inl rfl|exact .inr rfl|assumption):ZS X (.Assign [.Name x p] (.ListComp e [⟨tg,o,aA,0⟩] ax pos) b8) (λY A'=>Bi i (vg (vI ix T aF F (L (dv A' Y)) (dv A' Y)) A') Y):=⟨Lp q hit.h lJ.to hT hN hc hi hx HZ hs hf⟩
end
section
variable {P:bV->Ab->Rz Bool}{hp:Pos}{G2:bV->Ab->Rz Out}
def LP(h:ZE X e aI)(he:mW e=true:=by rfl):ZT X e (λY A=>Ts (aI Y A)):=⟨Tt h.h he⟩
def LQ(h:ZT X e P):ZT X (.UnaryOp .Not e pos) (λY A=>Tu (P Y A)):=⟨eq_not h.h⟩
end
section
variable {P:bV->Ab->Rz Bool}{hp:Pos}{abX:Stmt}{G2:bV->Ab->Rz Out}
def LR:QE X e (λ_=>.bad):=⟨X8⟩
def Yx:QS X ai (λ_=>.bad):=⟨X9⟩
end
section
variable {p2:Pos}{c:Str}{tab:List (Str×Bool)}{cv:V}
def mj(T:i7 X.K (.ref (clsAt X.K c)) tab)(hm:X.mg c=some (.ref (clsAt X.K c)))(hi:X.mg "isinstance"=none)(he:QE X e F)(q:Gl X c:=by rfl) (Lu:Gl X "isinstance":=by rfl) (fM:Db c:=by decide) (cG:bA [e,.Name c p2]=true:=by rfl):QE X (.Call (.Name "isinstance" p) [e,.Name c p2] [] pos) (λY=>(F Y).bind (IX tab)):=⟨Tw T hm hi he.h q Lu fM cG⟩
def T6(T:i7 X.K (.type ay) tab)(hm:X.mg c=none)(hi:X.mg "isinstance"=none)(he:QE X e F)(q:bootBuiltins c=some (.type ay):=by rfl) (hg:Gl X c:=by rfl) (hn:c≠"__name__":=by decide) (Lu:Gl X "isinstance":=by rfl) (fM:Db c:=by decide) (cG:bA [e,.Name c p2]=true:=by rfl):QE X (.Call (.Name "isinstance" p) [e,.Name c p2] [] pos) (λY=>(F Y).bind (IX tab)):=⟨Tx T hm hi he.h q hg hn Lu fM cG⟩
end
def Yy(q:ZE X o aI)(he:ZE X e aJ)(hb:isCall o=false:=by rfl) (cG:bA [e]=true:=by rfl) (hl:(b8.endLine==p.line)=true:=by rfl):ZE X (.Call (.Attribute o "update" b8) [e] [] p) (λY A=>X' (aI Y A) (aJ Y)):=⟨Ya q.h he.h hb cG hl⟩
section
variable {fd:FuncData}{k:Nat}{kp:Pos}{O:bV->Rs Tr}
def LS(D:MethAt X.K x av ai ps a fd)(q:An X.K a)(G:eI X.prog X.w X.K X.mg X.base mw k a fd ps (spT X.K h))(hr:di (k+1) X.A)(hm:X.mg "min"=none)(hl:QE X e F)(ho:QE X o O)(hc:X.calm=true:=by rfl) (hg:Gl X "min":=by rfl) (cG:bA [e]=true:=by rfl) (hb:isCall o=false:=by rfl) (TJ:PySem.W.copiedNames.contains av=false:=by decide+kernel):QE X (.Call (.Name "min" p) [e] [⟨some "key",.Attribute o av b8,kp⟩] pos) (λY=>G8 x av h (F Y) (O Y)):=⟨LC D q G hr hm hl.h ho.h hc hg cG hb TJ⟩
end
section
variable {P1 P2:bV->Rs (Option Int)}{lo hi:Option Expr}
def vW(he:QE X e F)(q:QO X lo P1)(hu:QO X hi P2):QE X (.Subscript e (.Slice lo hi none p) pos) (λY=>sI (F Y) (P1 Y) (P2 Y)):=⟨Yk he.h q.h hu.h⟩
end
section
variable {dM:Pos}
def LU(hs:X.mg "sorted"=none)(q:QE X o F)(hc:X.calm=true:=by rfl) (hg:Gl X "sorted":=by rfl) (hb:isCall o=false:=by rfl) (gb:(b8.endLine==dM.line)=true:=by rfl):QE X (.Call (.Name "sorted" p) [.Call (.Attribute o "items" b8) [] [] dM] [] pos) (λY=>(F Y).bind wG):=⟨LH hs q.h hc hg hb gb⟩
end
def BF{keys:List (Option Expr)}{P:bV->Rs (List (Tr×Tr))}(q:QE X e F)(hv:QE X o G)(hr:QP X pos keys aA P):QP X pos (some e::keys) (o::aA) λY=>Qj (F Y) (G Y) (P Y):=Og q.h hv.h hr
def zg.okQ {base:Heap}{qual:Str}{st:Stmt}{f:Addr}{fd:FuncData}{N:List Str}{k:Nat}(Fn:zg K x qual st f fd)(S:hW N ps (bH st))(len:∀ts t,h ts=.ok t->ts.length=ps.length)
  (kW:∀(f_:Value) (A:Around) (outer:List Env) (s:Shared) (H:Hp) (E:XK),di k (A.deeper (envOfC qual (bH st) s.heap.objs.size f f_))->
   ∃G,QB (oP mw P w K mg base N qual (bH st) f f_ A outer s H E).Jz (fZ st) G/\∀ts t,h ts=.ok t->dI (G (startT N.length ts))=.ok t):eI P w K mg base mw (k+1) f fd ps (spT K h):=
 Fn.okT S len λf_ A outer s H E b=>let⟨G,h,q⟩:=kW f_ A outer s H E b;⟨G,h.h,q⟩
def zg.abe {base:Heap}{qual:Str}{st:Stmt}{f:Addr}{fd:FuncData}{N:List Str}{k:Nat}(Fn:zg K x qual st f fd)(S:hW N ps (bH st))(len:∀ts t,h ts=.ok t->ts.length=ps.length)
  (kW:∀(f_:Value) (A:Around) (outer:List Env) (s:Shared) (H:Hp) (E:XK),di k (A.deeper (envOfC qual (bH st) s.heap.objs.size f f_))->
   ∃G,ZB (oP mw P w K mg base N qual (bH st) f f_ A outer s H E).Jz (fZ st) G/\∀ts t,h ts=.ok t->jI ts=true/\yj (G (startT N.length ts) [])=.ok t):eI P w K mg base mw (k+1) f fd ps (spT K h):=
 Fn.okZ S len λf_ A outer s H E b=>let⟨G,h,q⟩:=kW f_ A outer s H E b;⟨G,h.h,q⟩
def nV{keys:List (Option Expr)}{P:bV->Ab->Rz (List (Tr×Tr))}(q:ZE X e aI)(hv:ZE X o aJ)(hr:Tq X pos keys aA P):Tq X pos (some e::keys) (o::aA) λY A=>QM (aI Y A) (aJ Y) (P Y):=Lo q.h hv.h hr
def LV{keys:List (Option Expr)}{P:bV->Ab->Rz (List (Tr×Tr))}(h:Tq X pos keys aA P)(q:keys.all (·.isSome)=true:=by rfl) (hl:keys.length=aA.length:=by rfl) (h0:keys.isEmpty=false:=by rfl) (NK:keys.length<=15:=by decide):ZE X (.Dict keys aA pos) (λY A=>X6 (P Y) A):=⟨ON h q hl h0 NK⟩
structure JQ(X:Cx)(es:List Expr)(J:bV->Str->Rs Tr):Prop where
 h:PJ X es J
def oF:JQ X [] λ_ acc=>Bt acc:=⟨XB⟩
def dE{J:bV->Str->Rs Tr}(h:QE X e F)(q:JQ X aA J):JQ X (e::aA) λY acc=>m6 (F Y) (J Y) acc:=⟨S5 h.h q.h⟩
def jY{J:bV->Str->Rs Tr}(h:JQ X (e::o::aA) J):QE X (.JoinedStr (e::o::aA) pos) (λY=>J Y Str.empty):=⟨OA h.h⟩
def OX{c n:Str}{G2:bV->Ab->Rz Out}(Tc:qY X.K X.mg c ps)(hb:∀pn q,ZB (X.lh pn q) ah aK)(hs:∀pn e,ZB (X.qa pn e) (ai::aj) G2)(hN:X.N.Nodup)(hi:X.N[i]?=some n:=by rfl) (hl:X.env.scope.names.lookup n=some .local:=by rfl)
  (cG:X.stack=X.env::X.outer:=by rfl) (hf:X.env.frame=some X.env.locals:=by rfl) (hx:X.ex=[]:=by rfl) (Ng:zf X n:=by exact .inl rfl) (hg:Gl X c:=by rfl) (fM:Db c:=by decide):
  ZS X (.Try ah [.ExceptHandler (some (.Name c p)) (some n) (ai::aj) b8] [] [] pos) (λY A=>Fm X.N.length i ps (aK Y A) G2):=⟨Lm Tc (λpn q=>(hb pn q).h) (λpn e=>(hs pn e).h) hN hi hl cG hf hx Ng hg fM⟩
def zg.abf {base:Heap}{qual:Str}{st:Stmt}{f:Addr}{fd:FuncData}{N:List Str}{k:Nat}{h:List Tr->Ab->Rz Tr}(Fn:zg K x qual st f fd)(S:hW N ps (bH st))(len:∀ts A,h ts A≠ .bad->ts.length=ps.length)
  (kW:∀(f_:Value) (A:Around) (outer:List Env) (s:Shared) (H:Hp) (E:XK),di k (A.deeper (envOfC qual (bH st) s.heap.objs.size f f_))->
   ∃G,ZB (oP (vf P w) P w K mg base N qual (bH st) f f_ A outer s H E) (fZ st) G/\∀ts A,h ts A≠ .bad->h ts A=cE (G (startT N.length ts) A)):eI P w K mg base (vf P w) (k+1) f fd ps (vQ K h):=
 Fn.okS S len λf_ A outer s H E b=>let⟨G,h,q⟩:=kW f_ A outer s H E b;⟨G,h.h,q⟩
noncomputable def LW(K:Frag)(D:Addr):Bool:=decide (findIn K (.ref D) "__getattribute__"=some (some (.builtin "BaseException.__getattribute__")))&&(decide (findIn K (.ref D) "__getattr__"=some none)&&(decide (findIn K (.ref D) "__class__"=some (some (.builtin "object.__class__")))&&(decide (mroIn K D (.type "object")=some true)&&decide (mroIn K D (.type "BaseException")=some true))))
def OY{K:Frag}{D:Addr}(h:LW K D=true):Bz K D:=by
 unfold LW at h;rw[bW,bW,bW,bW]at h;exact⟨eO h.1,eO h.2.1,eO h.2.2.1,eO h.2.2.2.1,eO h.2.2.2.2⟩
def Yz(K:Frag)(u:Value)(tab:List (Str×Bool)):Bool:=tab.all λp=>decide (kitOne K (.ref (clsAt K p.1)) u=some p.2)
def YA(K:Frag)(xs:List Str):Bool:=xs.all λx=>LW K (clsAt K x)&&(clsIn K (clsAt K x)).isSome
theorem jd{α:Type}{z:Str}:∀{l:List (Str×α)} {a:α},l.lookup z=some a->(z,a)∈l
 |[],_,h=>by cases h
 |(y,b)::l,a,h=>by
  rw[cN]at h;cases e:(z==y)with
  |true=>rw[e]at h;cases h;rw[eq_of_beq e];exact cD ..
  |false=>rw[e]at h;exact cu _ (jd h)
def T7{K:Frag}{tab:List (Str×Bool)}{xs:List Str}(h:Yz K af tab=true)(q:YA K xs=true)(e:tab.map (·.1)=xs):i7 K af tab:=⟨λx b g=>by
 have m:=jd g;have l:=eO (dH.mp h _ m);have n:x∈xs:=by rw[<-e];exact gx m
 have h2:=dH.mp q x n;rw[bW]at h2;exact⟨l,OY h2.1,h2.2⟩⟩
def YB(K:Frag)(c:Str)(xs:List Str):Bool:=xs.all λx=>decide (exmOne K (.ref (clsAt K x)) (.ref (clsAt K c))=some true)
def LX{K:Frag}{xs:List Str}(m:mg av=some (.ref (clsAt K av)))(h:YB K av xs=true):qY K mg av xs:=⟨m,λx b=>eO (dH.mp h x b)⟩
theorem YC{P:List Value->Prop}(h:P []):∀us:List Value,us.length=0->P us
 |[],_=>h
theorem YD{P:List Value->Prop}(h:∀a us,us.length=i->P (a::us)):∀us:List Value,us.length=i+1->P us
 |a::us,e=>h a us (Nat.succ.inj e)
def YE{P:List Value->Prop}(h:∀a,P [a]):∀us:List Value,us.length=1->P us:=YD λa=>YC (P:=λl=>P (a::l)) (h a)
def YF{P:List Value->Prop}(h:∀a b,P [a,b]):∀us:List Value,us.length=2->P us:=YD λa=>YE (P:=λl=>P (a::l)) (h a)
def YG{P:List Value->Prop}(h:∀a b c,P [a,b,c]):∀us:List Value,us.length=3->P us:=YD λa=>YF (P:=λl=>P (a::l)) (h a)
def YH{P:List Value->Prop}(h:∀a b c d,P [a,b,c,d]):∀us:List Value,us.length=4->P us:=YD λa=>YG (P:=λl=>P (a::l)) (h a)
def Z'{P:List Value->Prop}(h:∀a b c d e,P [a,b,c,d,e]):∀us:List Value,us.length=5->P us:=YD λa=>YH (P:=λl=>P (a::l)) (h a)
section
variable {K:Frag}{f:Str}{C:Addr}
noncomputable def OZ(K:Frag)(C:Addr):Bool:=plainGet K C Str.empty&&(hasDictIn K C&&(plainOver K C&&decide (findIn K (.ref C) "__setattr__"=some (some (.builtin "object.__setattr__")))))
def LY(h:OZ K C=true):EC K C:=by
 unfold OZ at h;rw[bW,bW,bW]at h;exact⟨h.1,h.2.1,h.2.2.1,eO h.2.2.2⟩
def abg(K:Frag)(C:Addr)(fs:List Str):Bool:=fs.all λf=>decide (findIn K (.ref C) f=some none)
end
def E3.gk {K:Frag}{bC:List (Str×Tr)}{ep:Nat}(h:E3 K w es kvs bC)(hm:mg x=some (.ref a))(q:K.lookup a=some ⟨.type "dict",none,.dict es.toArray ep,#[]⟩) (hs:(a==sysModules)=false) (hn:(kvs.map (·.1)).Nodup) (hz:∀z∈kvs.map (·.1),z.length<=dc):BA K w mg x (kvs.map (·.1)):=
 ⟨a,kvs,hm,⟨hs,_,_,_,q,⟨rfl,rfl,rfl⟩,rfl,λprog=>⟨λe he=>h.keys prog e (by simpa using he),h.pairs prog,hn⟩⟩,rfl,hz⟩
structure Df where
 c:Option Str
 x:Str
 q:Str
 st:Stmt
 ps:List Str
def mtA(K:Frag)(c m:Str):Addr:=match findIn K (.ref (clsAt K c)) m with
 |some (some (.ref a))=>a
 |_=>0
noncomputable def fdA(K:Frag)(a:Addr):FuncData:=match K.lookup a with
 |some ⟨_,_,.func d,_⟩=>d
 |_=>default
noncomputable def isF(K:Frag)(a:Addr):Bool:=match K.lookup a with
 |some ⟨_,_,.func _,_⟩=>true
 |_=>false
def T8{K:Frag}(h:isF K a=true):∃q od J9,K.lookup a=some ⟨q,od,.func (fdA K a),J9⟩:=by
 unfold isF at h;unfold fdA;split at h
 ·rename_i e;rw[e];exact⟨_,_,_,rfl⟩
 ·cases h
namespace Df
def adr(K:Frag)(d:Df):Addr:=match d.c with
 |none=>clsAt K d.x
 |some c=>mtA K c d.x
def fd(K:Frag)(d:Df):FuncData:=fdA K (d.adr K)
def re(d:Df)(f:FuncData):FuncData:=fnOf d.x d.q (wz d.st) (fZ d.st) (bH d.st) .none f.kwdefaults f.doc f.pyModule f.annotations f.code f.closureTuple
def isAt(K:Frag)(d:Df):Bool:=match d.c with
 |none=>decide (nsIn K mainGlobals d.x=some (some (.ref (d.adr K))))
 |some c=>decide (findIn K (.ref (clsAt K c)) d.x=some (some (.ref (d.adr K))))&&(isFn K (.ref (d.adr K))&&OZ K (clsAt K c))
def QY(K:Frag)(d:Df):Bool:=isF K (d.adr K)&&(codeIn K (d.fd K).code d.q&&(keepIn K (.ref (d.adr K))&&d.isAt K))
structure Ok(K:Frag)(mg:Str->Option Value)(d:Df):Prop where
 fn:zg K d.x d.q d.st (d.adr K) (d.fd K)
 m0:d.c=none->mg d.x=some (.ref (d.adr K))
 m1:∀c,d.c=some c->Meth K (clsAt K c) d.x (d.adr K)/\EC K (clsAt K c)
def of{K:Frag}{d:Df}(X:K.In aa)(G:aa.Ns mainGlobals mg)(e:d.fd K=d.re (d.fd K))(k:d.QY K=true):d.Ok K mg:=by
 unfold QY at k;rw[bW,bW,bW]at k;obtain⟨k1,k2,k3,b⟩:=k;obtain⟨g,od,J9,l⟩:=T8 k1;refine⟨⟨⟨g,od,_,_,_,_,_,_,J9,e,l,k2⟩,k3⟩,λz=>?_,λc z=>?_⟩<;>unfold isAt at b<;>rw[z]at b
 ·exact mg_of X G (eO b)
 ·rw[bW,bW]at b;exact⟨⟨eO b.1,b.2.1,k3⟩,LY b.2.2⟩
end Df
theorem LZ{K:Frag}{h:Heap}(X:K.In h)(G:h.Ns mainGlobals mg):∀{ds:List Df},ds.map (Df.fd K)=ds.map (λd=>d.re (d.fd K))->ds.all (Df.QY K)=true->∀d∈ds,d.Ok K mg
 |[],_,_,d,m=>nomatch m
 |a::ds,e,k,d,m=>by
  rw[iG,bW]at k;rw[bO,bO]at e;injection e with b g
  rcases bG.mp m with rfl|m
  ·exact Df.of X G b k.1
  ·exact LZ X G g k.2 d m
section
variable {K:Frag}{d:Df}{N:List Str}{k:Nat}
structure yK(P:Program)(w:World)(K:Frag)(mg:Str->Option Value)(aa:Heap)(CX:Cy)(i:Nat)(d:Df)(sp:Sp):Prop where
 ok:eI P w K mg aa CX i (d.adr K) (d.fd K) d.ps sp
 bd:Binds K (d.fd K) d.ps []
 df:d.Ok K mg
abbrev BdA(d:Df):Prop:=∀(kV doc pm:Value) (an:Option Addr) (f_ ct:Value) (us:List Value),us.length=d.ps.length->bindArgs (fnOf d.x d.q (wz d.st) (fZ d.st) (bH d.st) .none kV doc pm an f_ ct) ⟨us,[]⟩=pure (d.ps.zip us)
abbrev cxD(CX:Cy)(P:Program)(w:World)(K:Frag)(mg:Str->Option Value)(aa:Heap)(N:List Str)(d:Df):=oP CX P w K mg aa N d.q (bH d.st) (d.adr K)
abbrev L3(K:Frag)(d:Df)(k:Nat)(f_:Value)(A:Around)(s:Shared):Prop:=di k (A.deeper (envOfC d.q (bH d.st) s.heap.objs.size (d.adr K) f_))
def gF(N:List Str){a b:Nat}(D:d.Ok K mg)(hb:N.Nodup->∀q A outer s H E,L3 K d k q A s->ZB (cxD (vf P w) P w K mg aa N d q A outer s H E) (fZ d.st) aK)(S:hW N d.ps (bH d.st):=by exact⟨rfl,rfl,rfl,by decide+kernel,rfl,by decide+kernel,by decide+kernel⟩) (B:BdA d:=by exact λ_ _ _ _ _ _=>by first|exact YC rfl|exact YE λ_=>rfl|exact YF λ_ _=>rfl|exact YG λ_ _ _=>rfl|exact YH λ_ _ _ _=>rfl|exact Z' λ_ _ _ _ _=>rfl) (ha:d.ps.length=a:=by rfl) (hn:N.length=b:=by rfl):
  yK P w K mg aa (vf P w) (k+1) d (vQ K (fk a b aK)):=by
 subst ha;subst hn;exact⟨zg.abf D.fn S (λts A e=>Dy e) λq A outer s H E g=>⟨aK,hb S.nd q A outer s H E g,λts A e=>OE e⟩,D.fn.binds B,D⟩
def jZ(N:List Str){a b:Nat}{G:bV->Rs Out}(D:d.Ok K mg)(hb:N.Nodup->∀q A outer s H E,L3 K d k q A s->QB (cxD mw P w K mg aa N d q A outer s H E).Jz (fZ d.st) G)(S:hW N d.ps (bH d.st):=by exact⟨rfl,rfl,rfl,by decide+kernel,rfl,by decide+kernel,by decide+kernel⟩) (B:BdA d:=by exact λ_ _ _ _ _ _=>by first|exact YC rfl|exact YE λ_=>rfl|exact YF λ_ _=>rfl|exact YG λ_ _ _=>rfl|exact YH λ_ _ _ _=>rfl|exact Z' λ_ _ _ _ _=>rfl) (ha:d.ps.length=a:=by rfl) (hn:N.length=b:=by rfl):
  yK P w K mg aa mw (k+1) d (spT K (rM a b G)):=by
 subst ha;subst hn;exact⟨zg.okQ D.fn S (λts t e=>Oe e) λq A outer s H E g=>⟨G,hb S.nd q A outer s H E g,λts t e=>Sv e⟩,D.fn.binds B,D⟩
def abh(N:List Str){a b:Nat}(D:d.Ok K mg)(hb:N.Nodup->∀q A outer s H E,L3 K d k q A s->ZB (cxD mw P w K mg aa N d q A outer s H E).Jz (fZ d.st) aK)(S:hW N d.ps (bH d.st):=by exact⟨rfl,rfl,rfl,by decide+kernel,rfl,by decide+kernel,by decide+kernel⟩) (B:BdA d:=by exact λ_ _ _ _ _ _=>by first|exact YC rfl|exact YE λ_=>rfl|exact YF λ_ _=>rfl|exact YG λ_ _ _=>rfl|exact YH λ_ _ _ _=>rfl|exact Z' λ_ _ _ _ _=>rfl) (ha:d.ps.length=a:=by rfl) (hn:N.length=b:=by rfl):
  yK P w K mg aa mw (k+1) d (spT K (Dc a b aK)):=by
 subst ha;subst hn;exact⟨zg.abe D.fn S (λts t e=>KQ e) λq A outer s H E g=>⟨aK,hb S.nd q A outer s H E g,λts t e=>Ol e⟩,D.fn.binds B,D⟩
def abi(D:d.Ok K mg)(B:BdA d:=by exact λ_ _ _ _ _ _=>by first|exact YC rfl|exact YE λ_=>rfl|exact YF λ_ _=>rfl|exact YG λ_ _ _=>rfl|exact YH λ_ _ _ _=>rfl|exact Z' λ_ _ _ _ _=>rfl):yK P w K mg aa mw k d (spT K λ_=>.bad):=
 ⟨⟨λvs H Q E ⟨_,ts,_,_,t,e,_⟩=>(nomatch e),λA outer s H args us vs Q E _ _ _ _ ⟨_,ts,_,_,t,e,_⟩=>(nomatch e)⟩,D.fn.binds B,D⟩
theorem yK.toZ (C:yK P w K mg aa mw i d (spT K h)):yK P w K mg aa (vf P w) i d (vQ K λts A=>gO (h ts) A):=⟨C.ok.toZ,C.bd,C.df⟩
def yK.da {CX:Cy}{sp:Sp}(C:yK P w K mg aa CX i d sp)(hc:d.c=none)(hx:d.x=x)(hq:d.q=x):zQ K mg x d.st d.ps (d.adr K) (d.fd K):=
 ⟨by have f:=C.df.fn;rw[hx,hq]at f;exact f,C.bd,by have m:=C.df.m0 hc;rw[hx]at m;exact m⟩
def yK.ma {CX:Cy}{sp:Sp}{c m:Str}(C:yK P w K mg aa CX i d sp)(hc:d.c=some c)(hx:d.x=m):MethAt K c m d.st d.ps (d.adr K) (d.fd K):=
 ⟨⟨d.q,by have f:=C.df.fn;rw[hx]at f;exact f⟩,C.bd,by have m:=(C.df.m1 c hc).1;rw[hx]at m;exact m,(C.df.m1 c hc).2⟩
structure Je(K:Frag)(mg:Str->Option Value)(c:Str):Prop where
 m:makesIn K (clsAt K c)=true
 k:keepIn K (.ref (clsAt K c))=true
 g:mg c=some (.ref (clsAt K c))
def yK.mk' {CX:Cy}{sp:Sp}{c:Str}(C:yK P w K mg aa CX i d sp)(M:Je K mg c)(q:d.c=some c)(hx:d.x="__init__"):yz K mg c d.ps (d.adr K) (d.fd K):=
 ⟨by have m:=(C.df.m1 c q).1;rw[hx]at m;exact⟨M.m,m.at_,m.fn,M.k⟩,C.bd,M.g⟩
end
section
variable {d:Df}{k:Nat}{kp:Pos}{c m:Str}
section
variable {O:bV->Rs Tr}(C:yK X.prog X.w X.K X.mg X.base mw i d (spT X.K h))
include C
theorem eM(hr:di k X.A)(ha:QA X (e::aA) L)(hn:i<=k:=by first|decide|omega) (hc:d.c=none:=by rfl) (hx:d.x=x:=by rfl) (hq:d.q=x:=by rfl) (hg:Gl X x:=by rfl) (fM:Db x:=by decide) (cG:bA (e::aA)=true:=by rfl):QE X (.Call (.Name x p) (e::aA) [] pos) (λY=>dO h (L Y)):=
 Yp (C.da hc hx hq) (C.ok.mono hn) hr ha hg fM cG
theorem j6(q:di k X.A)(ho:QE X o F)(ha:QA X (e::aA) L)(hn:i<=k:=by first|decide|omega) (hc:d.c=some c:=by rfl) (hx:d.x=m:=by rfl) {pl:Sem Bool} (cG:bA (e::aA)=true:=by rfl) (ht:eval (.Call (.Attribute o m b8) (e::aA) [] pos) X.env=t7 pos b8 o m (e::aA) X.env pl:=by rfl):QE X (.Call (.Attribute o m b8) (e::aA) [] pos) (λY=>vP c m h (F Y) (L Y)):=
 TU (C.ma hc hx) (C.ok.mono hn) q ho ha cG ht
theorem q_(q:di k X.A)(ho:QE X o F)(hn:i<=k:=by first|decide|omega) (hc:d.c=some c:=by rfl) (hx:d.x=m:=by rfl) {pl:Sem Bool} (ht:eval (.Call (.Attribute o m b8) [] [] pos) X.env=t7 pos b8 o m [] X.env pl:=by rfl):QE X (.Call (.Attribute o m b8) [] [] pos) (λY=>vP c m h (F Y) (.ok [])):=
 OT (C.ma hc hx) (C.ok.mono hn) q ho ht
theorem L4(q:An X.K (d.adr X.K))(hr:di (k+1) X.A)(hm:X.mg "min"=none)(hl:QE X tg F)(ho:QE X o O)(hn:i<=k:=by first|decide|omega) (hc:d.c=some c:=by rfl) (hx:d.x=m:=by rfl) (ca:X.calm=true:=by rfl) (hg:Gl X "min":=by rfl) (cG:bA [tg]=true:=by rfl) (hb:isCall o=false:=by rfl) (TJ:PySem.W.copiedNames.contains m=false:=by decide+kernel):
  QE X (.Call (.Name "min" p) [tg] [⟨some "key",.Attribute o m b8,kp⟩] pos) (λY=>G8 c m h (F Y) (O Y)):=
 LS (C.ma hc hx) q (C.ok.mono hn) hr hm hl ho ca hg cG hb TJ
end
section
variable {F:bV->Ab->Rz Tr}{L:bV->Ab->Rz (List Tr)}{h:List Tr->Ab->Rz Tr}(C:yK X.prog X.w X.K X.mg X.base (vf X.prog X.w) i d (vQ X.K h))
include C
theorem g6(hr:di k X.A)(ha:ZL X (e::aA) L)(hn:i<=k:=by first|decide|omega) (hc:d.c=none:=by rfl) (hx:d.x=x:=by rfl) (hq:d.q=x:=by rfl) (he:X.ex=[]:=by rfl) (hg:Gl X x:=by rfl) (fM:Db x:=by decide) (cG:bA (e::aA)=true:=by rfl):ZE X (.Call (.Name x p) (e::aA) [] pos) (λY A=>(L Y A).bind h):=
 Yw (C.da hc hx hq) (C.ok.mono hn) hr ha he hg fM cG
theorem cT(q:di k X.A)(ho:ZE X o F)(ha:ZL X (e::aA) L)(hn:i<=k:=by first|decide|omega) (hc:d.c=some c:=by rfl) (hx:d.x=m:=by rfl) {pl:Sem Bool} (he:X.ex=[]:=by rfl) (cG:bA (e::aA)=true:=by rfl) (ht:eval (.Call (.Attribute o m b8) (e::aA) [] pos) X.env=t7 pos b8 o m (e::aA) X.env pl:=by rfl):ZE X (.Call (.Attribute o m b8) (e::aA) [] pos) (λY A=>rO c m h (F Y A) (L Y)):=
 T1 (C.ma hc hx) (C.ok.mono hn) q ho ha he cG ht
theorem BG(q:di k X.A)(ho:ZE X o F)(hn:i<=k:=by first|decide|omega) (hc:d.c=some c:=by rfl) (hx:d.x=m:=by rfl) {pl:Sem Bool} (he:X.ex=[]:=by rfl) (ht:eval (.Call (.Attribute o m b8) [] [] pos) X.env=t7 pos b8 o m [] X.env pl:=by rfl):ZE X (.Call (.Attribute o m b8) [] [] pos) (λY A=>rO c m h (F Y A) λA=>.ok [] A):=
 OV (C.ma hc hx) (C.ok.mono hn) q ho he ht
theorem T9(M:Je X.K X.mg c)(q:di (k+1) X.A)(ha:ZL X (e::aA) L)(hn:i<=k:=by first|decide|omega) (hc:d.c=some c:=by rfl) (hx:d.x="__init__":=by rfl) (he:X.ex=[]:=by rfl) (hg:Gl X c:=by rfl) (fM:Db c:=by decide) (cG:bA (e::aA)=true:=by rfl):ZE X (.Call (.Name c p) (e::aA) [] pos) (λY A=>yy c h (L Y A)):=
 T5 (C.mk' M hc hx) (C.ok.mono hn) q ha he hg fM cG
theorem O0(M:Je X.K X.mg c)(q:di (k+1) X.A)(hn:i<=k:=by first|decide|omega) (hc:d.c=some c:=by rfl) (hx:d.x="__init__":=by rfl) (he:X.ex=[]:=by rfl) (hg:Gl X c:=by rfl) (fM:Db c:=by decide):ZE X (.Call (.Name c p) [] [] pos) (λ_ A=>yy c h (.ok [] A)):=
 OW (C.mk' M hc hx) (C.ok.mono hn) q he hg fM
end
end
def T_(nn:Nat){c n:Str}{i:Nat}{G2:bV->Ab->Rz Out}(Tc:qY X.K X.mg c ps)(hb:∀pn E',ZB (X.lh pn E') ah aK)(hs:∀pn e,ZB (X.qa pn e) (ai::aj) G2)(hN:X.N.Nodup)(hi:X.N[i]?=some n:=by rfl) (hl:X.env.scope.names.lookup n=some .local:=by rfl)
  (cG:X.stack=X.env::X.outer:=by rfl) (hf:X.env.frame=some X.env.locals:=by rfl) (hx:X.ex=[]:=by rfl) (Ng:zf X n:=by exact .inl rfl) (hg:Gl X c:=by rfl) (q:X.N.length=nn:=by rfl) (fM:Db c:=by decide):
  ZS X (.Try ah [.ExceptHandler (some (.Name c p)) (some n) (ai::aj) b8] [] [] pos) (λY A=>Fm nn i ps (aK Y A) G2):=by
 subst q;exact OX Tc hb hs hN hi hl cG hf hx Ng hg fM
def L5(r:Rs Tr):Rs (List Tr):=match r with
 |.ok (.lst ts)=>if mZ ts=true then .ok ts else .bad
 |_=>.bad
def Hd:Tr->Tr->Rs Tr
 |.lst a,.lst b=>if a.length+b.length<=ee then .ok (.lst (a++b))else .bad
 |_,_=>.bad
section
variable {b:Expr}{T:oQ}
inductive tIn(X:Cx)(W:bV->Ab->Rs (List Tr))(Z:St)(H:Hp)(R:It->Hp->Prop):Prop
 |mk (B:fh) (A:Ab) (Y:bV):HA X.K B A H->cI X.K B H Z Y->fT Y->(Fi X H (W Y A) fun ts=>∀J H',bg H H'->lV X.K B J H' ts->R J H')->tIn X W Z H R
theorem YI(h:PE X e (tF X F)):PI X tg e (tIn X λY A=>L5 (F (dv A Y))):=by
 intro U s Z H R I ⟨B,A,Y,ha,r,n,q⟩;refine eK (h U s Z H (λx H1=>∃p vs ts,x=.ref p/\bg H H1/\(cj B H1).H p=some (.lst vs)/\bP X.K (cj B H1) vs ts/\∀J H',bg H H'->lV X.K B J H' ts->R J H') I ⟨B.un,dv A Y,C8 ha.hb,r.Oi ha n,?_⟩) λv s1 ⟨x,H1,g,r1,p,vs,ts,ex,l,hp,rr,k⟩=>?_
 ·have q:Fi X H (L5 (F (dv A Y))) _:=q;cases e:F (dv A Y)with
  |bad=>rw[e]at q;exact q
  |exc c=>rw[e]at q;exact fe q
  |ok t=>
   rw[e]at q;intro v H' s rv fr;have L:=ha.same s;have q:=q;unfold L5 at q;split at q
   ·rename_i e;cases e;obtain⟨p,vs,rfl,h,rr⟩:=rv.lst_inv;obtain⟨f,M⟩:=gM q;have S:H' p=some (.lst vs):=bI _ _ h;exact⟨p,vs,_,rfl,s,by rw[gf (ha.hb.free (fr p rfl).1)];exact S,p4 (lW.un L) rr f,M⟩
   ·exact q.elim
 ·subst ex;cases r1;obtain⟨cy,rv,pl,hz⟩:=g.list (lR.of (bI _ _ hp));refine kN pl.isList ?_
  refine⟨s1.heap.objs.size,[s1.heap.objs.size],_,_,H1,rfl,g.kept (t':=s1.toks) λb o e=>bR _ e,zI p _,⟨_,cz _ rfl,rfl,rfl⟩,λb hb=>?_,k _ H1 l (ya hp rr)⟩;have e:b=s1.heap.objs.size:=by simpa using hb
  subst e;exact g.xE (bz _) (g.cY.fresh (bz _))
theorem T'(ha:PE X am (tP X F))(hb:PE X b (tP X G)):PE X (.BinOp am .Add b pos) (tF X λY=>Ib Hd (F Y) (G Y)):=
 (P5 (Kb (X:=X)) ha hb).weak λZ H Q ⟨B,Y,hb,r,q⟩=>⟨B,Y,hb,r,q.bind.mono λx L v H1 s1 M=>⟨B,Y,hb.same s1,r.same s1,(L.bind.same s1).mono λy g u H2 s2 S=>by
  have l:=s1.trans s2;unfold Hd at g;split at g
  ·have f:=gM g;obtain⟨_,_,e1,h1,n⟩:=(M.same (bJ s2)).lst_inv;obtain⟨_,_,e2,h2,I⟩:=S.lst_inv;exact⟨_,_,_,_,e1,e2,bI _ _ h1,bI _ _ h2,by rw[n.length,I.length,<-i_];exact f.1,λp hp=>f.2 (.ref p) _ (l.A7 (l.free hp)) (.zt ((hb.same s1).same s2) hp (n.append I)) λp' e=>by cases e;exact .upd (l.free hp) (λ_ _ z=>by cases z)⟩
  ·exact g.elim⟩⟩
def Ua(q:QE X am F)(hb:QE X b G):NE X (.BinOp am .Add b pos) (λY=>Ib Hd (F Y) (G Y)):=⟨T' q.h hb.h⟩
theorem Ub(h:NE X e F)(hg:QG X tg T)(hT:jV T)(hb:ZB X ah aK)(hp:PassesOwn (model X.prog X.w) X.A X.env X.xe:=by first|exact pC|exact xx) (hc:X.calm=true:=by rfl)
  (hs:isSet e=false:=by rfl):ZS X (.For tg e ah [] pos) (λY A=>GQ T aK (gO (L5 (F (dv A Y))) A) Y):=
 ⟨(Ex hp hc (YI h.h) hg.h hb.h (gC hs)).weak λD Z H ⟨B0,H0,B,A,Y,S,g,ha,r,n,q⟩=>⟨B,A,Y,ha,r,n,(m4 (gZ.bind q)).mono λts qt J H1 s1 gt=>by
   have g1:Grows B0 H0 B H1:=g.trans S (.of s1);have Bj:HB B H1:=ha.hb.same s1;refine⟨λi m dF H'=>m=ts.length - i/\i<=ts.length/\∃B' A' iB,Grows B H1 B' H'/\HA X.K B' A' H'/\cI X.K B' H' dF iB/\fT iB/\gZ (XE X B0 H0) (sC T aK (ts.drop i) iB A') (vK X D B0 H0),⟨_,rfl,d9 _,B,A,Y,.refl,ha.same s1,r.same s1,n,qt⟩,?_⟩
   rintro i m dF H' ⟨rfl,hi,B',A',iB,g',ke,r',n',q'⟩
   by_cases gB:i<ts.length
   ·rw[oW gB]at q';refine .inr ⟨gt.go i B' H' gB g'.jU ke.hb,λwy H2=>∃B2 A2 b,Grows B H1 B2 H2/\HA X.K B2 A2 H2/\cI X.K B2 H2 wy b/\fT b/\gZ (XE X B0 H0) (sC T aK (ts.drop (i+1)) b A2) (vK X D B0 H0),
     λwy H2 x=>⟨ts.length - (i+1),by omega,rfl,gB,x⟩,λx H2 hx=>?_⟩
    obtain⟨s2,t,et,rt⟩:=gt.F8 i B' H' x H2 gB g'.jU ke.hb hx;have Si:ts[i]=t:=by rw[bY gB]at et;exact Option.some.inj et
    rw[Si]at q';have g2:Grows B H1 B' H2:=g'.trans Bj (.of s2);refine KL hT Bj g2 (ke.same s2) (r'.same s2) n' rt (gZ.bind q') λrK Nm H3 q1 g3 GR r3 n3 _=>?_
    refine⟨B,H1,B',A',rK,Bj,g3,GR,r3,n3,((gZ.bind q1).imp λc A'' x=>x.grow S g1).mono λo A4 qo=>?_⟩;cases o with
    |nx b=>exact λKN l H4 I L M n4=>⟨l,A4,b,I,L,M,n4,qo⟩
    |ct b=>exact λKN l H4 I L M n4=>⟨l,A4,b,I,L,M,n4,qo⟩
    |bk b=>exact λKN l H4 I L M n4=>qo KN l H4 (g1.trans S I) L M n4
    |ret t=>exact λv l H4 I L M=>qo v l H4 (g1.trans S I) L M
   ·have e:i=ts.length:=by omega
    subst e;rw[pj]at q';exact .inl ⟨gt.stop B' H' g'.jU,q' dF B' H' (g1.trans S g') ke r' n'⟩⟩⟩
end
section
variable {A A':Ab}{n:Nat}{Y:bV}{t:Tr}
def L6:aZ n A (.tup ts)=.tup ts:=by cases n<;>rfl
def sJ{z:Str}:aZ n A (.str z)=.str z:=by cases n<;>rfl
def L7{z:Int}:aZ n A (.int z)=.int z:=by cases n<;>rfl
def L8{z:Bool}:aZ n A (.bl z)=.bl z:=by cases n<;>rfl
def Uc:aZ n A .cA=.cA:=by cases n<;>rfl
def Ud{ns:List Int}:aZ n A (.vF ns)=.vF ns:=by cases n<;>rfl
def gV(h:A[i]?=some (.ins x bC)):aZ (n+1) A (.at i)=.ob x (bC.map λp=>(p.1,aZ n A p.2)):=by simp only[aZ,h]
def ll(h:A[i]?=some (.lst ts)):aZ (n+1) A (.at i)=.lst (ts.map (aZ n A)):=by simp only[aZ,h]
def gn(h:A[i]?=some (.bX aG)):aZ (n+1) A (.at i)=.bX (aG.map λp=>(p.1,aZ n A p.2)):=by simp only[aZ,h]
def gP(ts:List Tr):Prop:=∀t∈ts,∃us,t=.tup us
def wH(h:gP ts):ts.map (aZ n A)=ts:=by
 conv=>rhs;rw[<-kS ts]
 exact gw λt b=>by obtain⟨us,rfl⟩:=h t b;exact L6
def gQ(bC:List (Key×Tr)):Prop:=∀p∈bC,∀n A,aZ n A p.2=p.2
def iM{bC:List (Key×Tr)}(h:gQ bC):(bC.map λp=>(p.1,aZ n A p.2))=bC:=by
 conv=>rhs;rw[<-kS bC]
 exact gw λp hp=>by rw[h p hp];rfl
structure Ext(A A':Ab)(pins:List (Nat×Ao)):Prop where
 le:A.length<=A'.length
 at':∀k o,A[k]?=some o->A'[k]?=some ((pins.lookup k).getD o)
def Ext.refl:Ext A A []:=⟨bz _,λk o e=>e⟩
def Ext.trans {A2:Ab}{pins V:List (Nat×Ao)}(a:Ext A A' pins)(b:Ext A' A2 V):Ext A A2 (V++pins):=⟨cF a.le b.le,λk o e=>by
 rw[b.at' k _ (a.at' k o e),List.lookup_append];cases V.lookup k<;>rfl⟩
theorem Ext.put {o o':Ao}(h:A[i]?=some o'):Ext A (A.set i o) [(i,o)]:=⟨by rw[kQ];exact bz _,λk x e=>by
 by_cases b:k=i
 ·subst b;rw[oY (gu.mp e).1];simp only[List.lookup,bU,Option.getD]
 ·rw[my (Ne.symm b),e];have:(k==i)=false:=by simpa using b
  simp only[List.lookup,this,Option.getD]⟩
def Ext.push {o:Ao}:Ext A (A++[o]) []:=⟨by simp,λk x e=>by rw[oV (gu.mp e).1,e];rfl⟩
def lX{o:Ao}:(A++[o])[A.length]?=some o:=by simp
end
section
variable {β:Type}{A:Ab}{Y:bV}{x y t u:Tr}{a:ag}
def cS:(∀(a:ag) (f:ag->Rs β),(Rs.ok a).bind f=f a)/\(∀(a:ag) (A:Ab) (f:ag->Ab->Rz β),(Rz.ok a A).bind f=f a A)/\(∀(aC:Tr) (A:Ab) (f:ag->Ab->Rz β),(Rz.exc aC A:Rz ag).bind f=.exc aC A):=⟨λ_ _=>rfl,λ_ _ _=>rfl,λ_ _ _=>rfl⟩
def fK(a:ag)(A:Ab):gO (.ok a) A=.ok a A:=rfl
def ev:(∀Y A G,E4 (.ok (.nx Y) A) G=G Y A)/\(∀t A G,E4 (.ok (.ret t) A) G=.ok (.ret t) A)/\(∀aC A G,E4 (.exc aC A) G=.exc aC A)
  /\(∀i t A Y,Bi i (.ok t A) Y=.ok (.nx (Y.set i (.sh t))) A)/\(∀i aC A Y,Bi i (.exc aC A) Y=.exc aC A)
  /\(∀t A Y,p7 (.ok t A) Y=.ok (.nx Y) A)/\(∀aC A Y,p7 (.exc aC A) Y=.exc aC A)/\(∀t A,KI (.ok t A)=.ok (.ret t) A)/\(∀aC A,KI (.exc aC A)=.exc aC A)
  /\(∀Y A,cE (.ok (.nx Y) A)=.ok .cA A)/\(∀t A,cE (.ok (.ret t) A)=.ok t A)/\(∀aC A,cE (.exc aC A)=.exc aC A)
  /\(∀x A l,GS (.ok x A) l=(l A).bind λxs A=>.ok (x::xs) A)/\(∀x l,x_ (.ok x) l=l.bind λxs=>.ok (x::xs))
  /\(∀h x y,Ib h (.ok x) (.ok y)=h x y)/\(∀h l,dO h (.ok l)=h l)/\(∀b,ZO (.ok (.bl b))=.ok b)
  /\(∀A a b,ZU (.ok true A) a b=a A)/\(∀A a b,ZU (.ok false A) a b=b A)/\(∀a b,U9 (.ok true) a b=a)/\(∀a b,U9 (.ok false) a b=b)
  /\(∀aC Y n,x6 (aC::Y) (n+1)=x6 Y n)/\(∀t Y,x6 (.sh t::Y) 0=.ok t)/\(∀A t Y,dv A (.sh t::Y)=.sh (aZ 5 A t)::dv A Y)/\(∀A Y,dv A (.no::Y)=.no::dv A Y)/\(∀A,dv A []=[])
  /\(Ba (.ok [])=.ok (.tup []))/\(∀a,Ba (.ok [a])=.ok (.tup [a]))/\(∀a b,Ba (.ok [a,b])=.ok (.tup [a,b]))/\(∀a b aC,Ba (.ok [a,b,aC])=.ok (.tup [a,b,aC]))/\(∀a b aC d,Ba (.ok [a,b,aC,d])=.ok (.tup [a,b,aC,d]))/\(∀a b aC d e,Ba (.ok [a,b,aC,d,e])=.ok (.tup [a,b,aC,d,e]))
  /\(∀ts,Al [.lst ts]=.ok (.int ts.length))/\(∀ts,Al [.tup ts]=.ok (.int ts.length))/\(∀ts,Al [.bX ts]=.ok (.int ts.length))
  /\(∀i j,wa (.int i) (.int j)=.ok (.int (i+j)))/\(∀x t A,Fj x (.ok [t] A)=.exc (.str x) A)/\(∀i,Su (.int i)=.ok (.int (-i)))
  /\(∀i A,sx (.ok (.int i)) A=.ok (.int i) A)/\(∀z A,sx (.ok (.str z)) A=.ok (.str z) A)/\(∀b A,sx (.ok (.bl b)) A=.ok (.bl b) A)/\(∀A,sx (.ok .cA) A=.ok .cA A)/\(∀i A,sx (.ok (.at i)) A=.ok (.at i) A)
  /\(∀b,Ie (.ok true) b=b)/\(∀b,Ie (.ok false) b=.ok false)/\(∀b,Wr (.ok true) b=.ok true)/\(∀b,Wr (.ok false) b=b)/\(∀b,Ic (.ok b)=.ok (!b))/\(∀a b,Kq (.ok true) a b=a)/\(∀a b,Kq (.ok false) a b=b)
  /\(∀z bC,Bf (.str z) (.bX bC)=.ok (.bl (fc bC (.inr z)).isSome))/\(∀z bC,N8 (.str z) (.bX bC)=.ok (.bl (!(fc bC (.inr z)).isSome)))/\(∀z,Oz (.str z)=.ok (.str z))/\(∀z y,eqC (.str z) (.str y)=.ok (.bl (z==y)))/\(∀i j,eqC (.int i) (.int j)=.ok (.bl (i==j)))/\(∀i j,gtC (.int i) (.int j)=.ok (.bl (decide (j<i))))
  /\(∀Y,dI (.ok (.nx Y))=.ok .cA)/\(∀t,dI (.ok (.ret t))=.ok t)/\(∀t,Kt (.ok t)=.ok (.ret t))/\(∀Y G,CO (.ok (.nx Y)) G=G Y)/\(∀t G,CO (.ok (.ret t)) G=.ok (.ret t))/\(∀i t Y,Ks i (.ok t) Y=.ok (.nx (Y.set i (.sh t)))):=by
 refine⟨?_,?_,?_,?_,?_,?_,?_,?_,?_,?_,?_,?_,?_,?_,?_,?_,?_,?_,?_,?_,?_,?_,?_,?_,?_,?_,?_,?_,?_,?_,?_,?_,?_,?_,?_,?_,?_,?_,?_,?_,?_,?_,?_,?_,?_,?_,?_,?_,?_,?_,?_,?_,?_,?_,?_,?_,?_,?_,?_,?_,?_,?_⟩<;>intros<;>rfl
def f9:(∀n A ts,aZ n A (.tup ts)=.tup ts)/\(∀n A z,aZ n A (.str z)=.str z)/\(∀n A i,aZ n A (.int i)=.int i)/\(∀n A b,aZ n A (.bl b)=.bl b)/\(∀n A,aZ n A .cA=.cA)/\(∀n A ns,aZ n A (.vF ns)=.vF ns):=⟨λ_ _ _=>L6,λ_ _ _=>sJ,λ_ _ _=>L7,λ_ _ _=>L8,λ_ _=>Uc,λ_ _ _=>Ud⟩
variable {z:Str}{bC:List (Key×Tr)}
def BH{F:Nat->List Tr->Ab->Rz Tr}{l:Ab->Rz (List Tr)}(h:A[i]?=some (.lst ts)):mtL F (.ok (.at i) A) l=(l A).bind λus A=>F i us A:=by
 show(if W8 A i=true then(l A).bind λus A=>F i us A else .bad)=_;exact aW (by unfold W8;rw[h])
def BI(h:A[i]?=some (.lst ts))(q:ts.length<ee):SN i [t] A=.ok .cA (A.set i (.lst (ts++[t]))):=by
 show(match A[i]? with|some (.lst ts)=>if ts.length<ee then Rz.ok Tr.cA (A.set i (.lst (ts++[t])))else .bad|_=>.bad)=_;rw[h];exact aW q
def putD(A:Ab)(t q tv:Tr)(Y:bV):Rz Out:=match DA A t q tv with
 |some A'=>.ok (.nx Y) A'
 |none=>.bad
def ml{o k:Ab->Rz Tr}:Tg (.ok t A) o k Y=(o A).bind λu A=>(k A).bind λq A=>putD A u q t Y:=rfl
def lp(h:A[i]?=some (.bX bC))(q:bC.length<ee):putD A (.at i) (.str z) t Y=.ok (.nx Y) (A.set i (.bX (kZ bC (.inr z) t))):=by
 have:DA A (.at i) (.str z) t=some (A.set i (.bX (kZ bC (.inr z) t))):=by
  show(match A[i]? with|some (.bX bC)=>if bC.length<ee then some (A.set i (.bX (kZ bC (.inr z) t)))else none|_=>none)=_;rw[h];exact aW q
 unfold putD;rw[this]
def He(i:Nat)(q:Tr)(A:Ab):Rz Tr:=match kr q with
 |some key=>if m7 A i=true then match fc (oR A i) key with
  |some v=>.ok v (A.set i (.bX (iL (oR A i) key)))
  |none=>.bad
  else .bad
 |none=>.bad
def Hf{k:Ab->Rz Tr}(h:A[i]?=some (.bX bC)):Lh (.ok (.at i) A) k=(k A).bind λq A=>He i q A:=by
 have e:m7 A i=true:=by unfold m7;rw[h]
 show(if m7 A i=true then(k A).bind λq A=>He i q A else .bad)=_;exact aW e
def Hg{v:Tr}(h:A[i]?=some (.bX bC))(q:fc bC (.inr z)=some v):He i (.str z) A=.ok v (A.set i (.bX (iL bC (.inr z)))):=by
 have e:m7 A i=true:=by unfold m7;rw[h]
 have g:oR A i=bC:=by unfold oR;rw[h]
 unfold He;simp only[e,cw,kr,g,q]
def Hh(x:Ab->Rz Tr)(i:Nat)(q:Tr)(A:Ab):Rz Tr:=match kr q with
 |some key=>(x A).bind λtx A=>if m7 A i=true then match fc (oR A i) key with
  |some v=>.ok v (A.set i (.bX (iL (oR A i) key)))
  |none=>.ok tx A
  else .bad
 |none=>.bad
def O1{k x:Ab->Rz Tr}(h:A[i]?=some (.bX bC)):Lj (.ok (.at i) A) k x=(k A).bind λq A=>Hh x i q A:=by
 have e:m7 A i=true:=by unfold m7;rw[h]
 show(if m7 A i=true then(k A).bind λq A=>Hh x i q A else .bad)=_;exact aW e
theorem Jf(q:fc bC (.inr z)=none):iL bC (.inr z)=bC:=o7.mpr λp hp=>by
 unfold fc at q;rw[Option.map_eq_none_iff,List.find?_eq_none]at q;simpa using q p hp
def Ue{o:Ao}(h:A[i]?=some o):A.set i o=A:=by
 apply o_;intro k;by_cases b:i=k
 ·subst b;rw[oY (gu.mp h).1,h]
 ·rw[my b]
def O2{x:Ab->Rz Tr}(q:x A=.ok .cA A)(h:A[i]?=some (.bX bC)):Hh x i (.str z) A=.ok ((fc bC (.inr z)).getD .cA) (A.set i (.bX (iL bC (.inr z)))):=by
 have e:m7 A i=true:=by unfold m7;rw[h]
 have g:oR A i=bC:=by unfold oR;rw[h]
 unfold Hh;simp only[kr,q,Rz.bind,e,cw,g];cases b:fc bC (.inr z)with
 |some v=>rfl
 |none=>rw[Jf b,Ue h];rfl
def DP{y:Str}(h:z.length<=1000)(q:y.length<=1000):(λacc=>m6 (.ok (.str z)) (λacc=>m6 (.ok (.str y)) (λacc=>Bt acc) acc) acc) Str.empty=.ok (.str (Str.empty++z++y)):=by
 have l1:(Str.empty++z).length<=dc:=by rw[oX];show 0+z.length<=1000000;omega
 have l2:(Str.empty++z++y).length<=dc:=by rw[oX,oX];show 0+z.length+y.length<=1000000;omega
 show(if(Str.empty++z).length<=dc then m6 (.ok (.str y)) (λacc=>Bt acc) (Str.empty++z)else .bad)=_;rw[aW l1];show(if(Str.empty++z++y).length<=dc then Bt (Str.empty++z++y)else .bad)=_;rw[aW l2];exact aW l2
end
noncomputable def roomF(i:Nat):List (Str×Tr):=[("log",.at (i+1)),("ranks",.at (i+2)),("entries",.at (i+3)),("chosen",.at (i+4)),("banned",.at (i+5)),("invited",.at (i+6)),("read_marks",.at (i+7)),("said_by_key",.at (i+8))]
structure bB(A:Ab)(i:Nat)(rows:List Tr)(rk en ch bn iv:List (Key×Tr)):Prop where
 o:A[i]?=some (.ins "Room" (roomF i))
 lg:A[i+1]?=some (.lst rows)
 rk:A[i+2]?=some (.bX rk)
 en:A[i+3]?=some (.bX en)
 ch:A[i+4]?=some (.bX ch)
 bn:A[i+5]?=some (.bX bn)
 iv:A[i+6]?=some (.bX iv)
structure eC(rows:List Tr)(rk en ch bn iv:List (Key×Tr)):Prop where
 lg:gP rows
 rk:gQ rk
 en:gQ en
 ch:gQ ch
 bn:gQ bn
 iv:gQ iv
section
variable {A:Ab}{rows:List Tr}{en ch bn iv:List (Key×Tr)}
def bB.abj (h:bB A i rows aG en ch bn iv)(f:eC rows aG en ch bn iv):kg ["Room"] "log" (aZ 5 A (.at i))=.ok (.lst rows):=by
 rw[gV h.o];show Rs.ok (aZ 4 A (.at (i+1)))=_;rw[ll h.lg,wH f.lg]
def bB.rG (h:bB A i rows aG en ch bn iv)(f:eC rows aG en ch bn iv):kg ["Room"] "ranks" (aZ 5 A (.at i))=.ok (.bX aG):=by
 rw[gV h.o];show Rs.ok (aZ 4 A (.at (i+2)))=_;rw[gn h.rk,iM f.rk]
def bB.abk (h:bB A i rows aG en ch bn iv)(f:eC rows aG en ch bn iv):kg ["Room"] "entries" (aZ 5 A (.at i))=.ok (.bX en):=by
 rw[gV h.o];show Rs.ok (aZ 4 A (.at (i+3)))=_;rw[gn h.en,iM f.en]
def bB.YJ (h:bB A i rows aG en ch bn iv)(f:eC rows aG en ch bn iv):kg ["Room"] "chosen" (aZ 5 A (.at i))=.ok (.bX ch):=by
 rw[gV h.o];show Rs.ok (aZ 4 A (.at (i+4)))=_;rw[gn h.ch,iM f.ch]
def bB.Ug (h:bB A i rows aG en ch bn iv)(f:eC rows aG en ch bn iv):kg ["Room"] "banned" (aZ 5 A (.at i))=.ok (.bX bn):=by
 rw[gV h.o];show Rs.ok (aZ 4 A (.at (i+5)))=_;rw[gn h.bn,iM f.bn]
def bB.YK (h:bB A i rows aG en ch bn iv)(f:eC rows aG en ch bn iv):kg ["Room"] "invited" (aZ 5 A (.at i))=.ok (.bX iv):=by
 rw[gV h.o];show Rs.ok (aZ 4 A (.at (i+6)))=_;rw[gn h.iv,iM f.iv]
def bB.abl (h:bB A i rows aG en ch bn iv):uB ["Room"] "log" (.ok (.at i) A)=.ok (.at (i+1)) A:=by unfold uB Rz.bind;simp only[h.o];rfl
def bB.Uh (h:bB A i rows aG en ch bn iv):uB ["Room"] "ranks" (.ok (.at i) A)=.ok (.at (i+2)) A:=by unfold uB Rz.bind;simp only[h.o];rfl
def bB.abm (h:bB A i rows aG en ch bn iv):uB ["Room"] "entries" (.ok (.at i) A)=.ok (.at (i+3)) A:=by unfold uB Rz.bind;simp only[h.o];rfl
def bB.O3 (h:bB A i rows aG en ch bn iv):uB ["Room"] "chosen" (.ok (.at i) A)=.ok (.at (i+4)) A:=by unfold uB Rz.bind;simp only[h.o];rfl
def bB.YL (h:bB A i rows aG en ch bn iv):uB ["Room"] "invited" (.ok (.at i) A)=.ok (.at (i+6)) A:=by unfold uB Rz.bind;simp only[h.o];rfl
def bB.call (h:bB A i rows aG en ch bn iv){m:Str}(hm:En (roomF i) m=true)(F:List Tr->Ab->Rz Tr)(l:Ab->Rz (List Tr)):rO "Room" m F (.ok (.at i) A) l=(l A).bind λts A=>F (.at i::ts) A:=by
 show(match A[i]? with|some (.ins x fs)=>if x="Room"/\En fs m=true then(l A).bind λts A=>F (.at i::ts) A else .bad|_=>.bad)=_;rw[h.o];exact aW ⟨rfl,hm⟩
def Ext.same {A':Ab}{pins:List (Nat×Ao)}{k:Nat}{o:Ao}(e:Ext A A' pins)(h:A[k]?=some o)(n:pins.lookup k=none):A'[k]?=some o:=by rw[e.at' k o h,n];rfl
def Ext.new {A':Ab}{pins:List (Nat×Ao)}{k:Nat}{o o':Ao}(e:Ext A A' pins)(h:A[k]?=some o)(n:pins.lookup k=some o'):A'[k]?=some o':=by rw[e.at' k o h,n];rfl
variable {A':Ab}{cM:List Tr}{d':List (Key×Tr)}
theorem gR{o:Ao}(h:i≠az):[(az,o)].lookup i=none:=by
 have:(i==az)=false:=by simpa using h
 simp only[List.lookup,this]
theorem JE{o:Ao}:[(i,o)].lookup i=some o:=by simp only[List.lookup,bU]
def bB.e_0 (h:bB A i rows aG en ch bn iv)(e:Ext A A' []):bB A' i rows aG en ch bn iv:=⟨e.same h.o rfl,e.same h.lg rfl,e.same h.rk rfl,e.same h.en rfl,e.same h.ch rfl,e.same h.bn rfl,e.same h.iv rfl⟩
def bB.BJ (h:bB A i rows aG en ch bn iv)(e:Ext A A' [(i+1,.lst cM)]):bB A' i cM aG en ch bn iv:=⟨e.same h.o (gR (by omega)),e.new h.lg JE,e.same h.rk (gR (by omega)),e.same h.en (gR (by omega)),e.same h.ch (gR (by omega)),e.same h.bn (gR (by omega)),e.same h.iv (gR (by omega))⟩
def bB.Ui (h:bB A i rows aG en ch bn iv)(e:Ext A A' [(i+2,.bX d')]):bB A' i rows d' en ch bn iv:=⟨e.same h.o (gR (by omega)),e.same h.lg (gR (by omega)),e.new h.rk JE,e.same h.en (gR (by omega)),e.same h.ch (gR (by omega)),e.same h.bn (gR (by omega)),e.same h.iv (gR (by omega))⟩
def bB.abn (h:bB A i rows aG en ch bn iv)(e:Ext A A' [(i+3,.bX d')]):bB A' i rows aG d' ch bn iv:=⟨e.same h.o (gR (by omega)),e.same h.lg (gR (by omega)),e.same h.rk (gR (by omega)),e.new h.en JE,e.same h.ch (gR (by omega)),e.same h.bn (gR (by omega)),e.same h.iv (gR (by omega))⟩
def bB.abo (h:bB A i rows aG en ch bn iv)(e:Ext A A' [(i+4,.bX d')]):bB A' i rows aG en d' bn iv:=⟨e.same h.o (gR (by omega)),e.same h.lg (gR (by omega)),e.same h.rk (gR (by omega)),e.same h.en (gR (by omega)),e.new h.ch JE,e.same h.bn (gR (by omega)),e.same h.iv (gR (by omega))⟩
def bB.YM (h:bB A i rows aG en ch bn iv)(e:Ext A A' [(i+6,.bX d')]):bB A' i rows aG en ch bn d':=⟨e.same h.o (gR (by omega)),e.same h.lg (gR (by omega)),e.same h.rk (gR (by omega)),e.same h.en (gR (by omega)),e.same h.ch (gR (by omega)),e.same h.bn (gR (by omega)),e.new h.iv JE⟩
def m_(h:gP rows):gP (rows++[.tup ts]):=λt b=>by
 rcases dr.mp b with b|b
 ·exact h t b
 ·exact⟨ts,cV.mp b⟩
def Jg{k:Key}(h:gQ aG):gQ (iL aG k):=λp hp=>h p ((gy.mp hp).1)
end
section
variable {f:ag->Tr}{l:List (Str×ag)}{z:Str}{a:ag}
noncomputable def dP(f:ag->Tr)(l:List (Str×ag)):List (Key×Tr):=l.map λp=>(Sum.inr p.1,f p.2)
noncomputable def eZ(l:List (Str×ag))(z:Str)(a:ag):List (Str×ag):=if(l.any λp=>decide (p.1=z))=true then l.map (λp=>if p.1=z then(p.1,a)else p)else l++[(z,a)]
noncomputable def lq(l:List (Str×ag))(z:Str):List (Str×ag):=l.filter λp=>decide (p.1≠z)
def Hi:((Sum.inr x:Key)=.inr z)↔x=z:=⟨λh=>by injection h,λh=>by rw[h]⟩
def Hj:(decide ((Sum.inr x:Key)=.inr z))=decide (x=z):=xn.mpr Hi
theorem eD:∀{l:List (Str×ag)},fc (dP f l) (.inr z)=(l.lookup z).map f
 |[]=>rfl
 |(y,b)::l=>by
  have g:=eD (l:=l);unfold fc at g⊢;show Option.map _ (List.find? _ ((Sum.inr y,f b)::dP f l))=_;rw[km,cN];by_cases h:y=z
  ·subst h;simp
  ·have h2:(z==y)=false:=by simpa using Ne.symm h
   simp only[Hj,h,decide_false,h2];exact g
theorem j7:kZ (dP f l) (.inr z) (f a)=dP f (eZ l z a):=by
 unfold kZ eZ;have e:((dP f l).any λb=>decide (b.1=(.inr z:Key)))=l.any λp=>decide (p.1=z):=by
  unfold dP;rw[List.any_map];congr 1;funext p;exact Hj
 rw[e];split
 ·unfold dP;rw[cL,cL];apply gw;intro p hp;by_cases h:p.1=z
  ·simp[h]
  ·simp[h]
 ·unfold dP;rw[iE];rfl
def BK:iL (dP f l) (.inr z)=dP f (lq l z):=by
 unfold iL lq dP;rw[px];congr 1;apply tD;intro p hp;show decide ((Sum.inr p.1:Key)≠ .inr z)=decide (p.1≠z);simp[Hi]
def je:(dP f l).length=l.length:=bu _
def uE(h:∀a n A,aZ n A (f a)=f a):gQ (dP f l):=λp hp n A=>by
 obtain⟨q,_,rfl⟩:=cH.mp hp;exact h q.2 n A
def Hk(h:∀p∈l,p.1.length<=dc):De (dP f l)=.ok (l.map λp=>.str p.1):=by
 unfold De;rw[aW]
 ·unfold dP;rw[cL];rfl
 ·unfold dP;rw[pF,dH];intro p hp;exact iF (h p hp)
end
section
variable {k:Str->Int×Int}
theorem Ay:∀{ns:List Str},(∀z∈ns,h [aC,.str z]=.ok (.tup [.int (k z).1,.int (k z).2]))->keysOf h aC (ns.map .str)=some (ns.map k)
 |[],_=>rfl
 |z::ns,q=>by
  show((keyOf (h [aC,.str z])).bind λk=>(keysOf h aC (ns.map .str)).map λks=>k::ks)=_;rw[q z (cD ..),Ay λy b=>q y (cu _ b)]
  rfl
theorem vo{kf:Nat->Int×Int}:∀j,dm kf j<=j
 |0=>bz _
 |j+1=>by
  unfold dm;split
  ·exact bz _
  ·exact Nat.le_succ_of_le (vo j)
theorem uF{kf:Nat->Int×Int}:∀j,(∀a b,a<b->b<=j->(kf a).2<(kf b).2)->(∀a,a<=j->(kf (dm kf j)).1<=(kf a).1)/\(∀a,a<dm kf j->(kf (dm kf j)).1<(kf a).1)
 |0,_=>⟨λa ha=>by cases Nat.le_zero.mp ha;exact Int.le_refl _,λa ha=>absurd ha (xq _)⟩
 |j+1,l=>by
  obtain⟨g,h2⟩:=uF (kf:=kf) j λa b n hb=>l a b n (Nat.le_succ_of_le hb);have hb:=vo (kf:=kf) j;have r:=l (dm kf j) (j+1) (Nat.lt_succ_of_le hb) (bz _);have e:jX (kf (j+1)) (kf (dm kf j))=decide ((kf (j+1)).1<(kf (dm kf j)).1):=by
   unfold jX;by_cases q:(kf (j+1)).1<(kf (dm kf j)).1
   ·simp[q]
   ·simp[q];intros;omega
  unfold dm;rw[e];by_cases q:(kf (j+1)).1<(kf (dm kf j)).1
  ·rw[aW (iF q)];refine⟨λa ha=>?_,λa ha=>Int.lt_of_lt_of_le q (g a (xl ha))⟩;rcases Nat.lt_or_eq_of_le ha with ha|rfl
   ·exact Int.le_of_lt (Int.lt_of_lt_of_le q (g a (xl ha)))
   ·exact Int.le_refl _
  ·rw[bc (by simpa using q)];refine⟨λa ha=>?_,h2⟩;rcases Nat.lt_or_eq_of_le ha with ha|rfl
   ·exact g a (xl ha)
   ·exact Int.not_lt.mp q
end
section
variable {α:Type}{f:α->Tr}{l:List (Str×α)}{z:Str}{A:Ab}{n:Nat}
def dW:jW (.bX (dP f l)) (.str z)=kY ((l.lookup z).map f):=by
 show(kY (kr (.str z))).bind (λk=>kY (fc (dP f l) k))=_;show kY (fc (dP f l) (.inr z))=_;rw[eD]
theorem ra:∀{ns:List Str},mZ (ns.map .str)=true
 |[]=>rfl
 |z::ns=>by rw[bO,mZ,JC,pE];exact ra
def rb{ns:List Str}:(ns.map Tr.str).map (aZ n A)=ns.map .str:=by
 rw[cL];exact gw λz _=>sJ
theorem DQ{C:bV->Rs Bool}{Y:bV}{P:Str->Bool}(hF:∀z,F (.sh (.str z)::Y)=.ok (.str z)):∀{ns:List Str} {c:Cell},(∀z∈ns,C (.sh (.str z)::Y)=.ok (P z))->ER (gN 0) C F (ns.map .str) (c::Y)=.ok ((ns.filter P).map .str)
 |[],_,_=>rfl
 |z::ns,c,hC=>by
  have b:=DQ (Y:=Y) hF (ns:=ns) (c:=.sh (.str z)) λy g=>hC y (cu _ g);show(NW (C (.sh (.str z)::Y))).bind (λk=>if k then(NW (F (.sh (.str z)::Y))).bind λy=>(ER (gN 0) C F (ns.map .str) (.sh (.str z)::Y)).bind λys=>.ok (y::ys)else ER (gN 0) C F (ns.map .str) (.sh (.str z)::Y))=_;rw[hC z (cD ..),hF z,b];show(if P z then _ else _)=_;cases e:P z with
  |true=>rw[lL e];rfl
  |false=>rw[ki (by rw[e];exact fE)];rfl
def L9{ks:List (Int×Int)}{t:Tr}(q:En bC av=true)(TK:0<ts.length)(hs:keysOf h (.ob x bC) ts=some ks)(ht:ts[dm (λi=>ks.getD i (0,0)) (ts.length - 1)]?=some t):vR x av h (.lst ts) (.ob x bC)=.ok t:=by
 unfold vR;simp only[q,TK,and_self,cw,hs,ht]
 rfl
def rf{r:Rs (List Tr)}{ix:List (Option Nat)}{Y BL:bV}{c:Cell}(P:Str->Bool){ns:List Str}(hr:r=.ok (ns.map .str))(hl:ns.length<=ee)(q:ur ix Y=c::BL)(hF:∀z,F (.sh (.str z)::BL)=.ok (.str z))(hC:∀z∈ns,aF (.sh (.str z)::BL)=.ok (P z)):vI ix (gN 0) aF F r Y=.ok (.lst ((ns.filter P).map .str)):=by
 unfold vI;rw[hr,q];show(if(ns.map Tr.str).length<=ee then _ else _)=_;rw[aW (by rw[bu];exact hl),DQ hF hC]
 rfl
def wI(h:mZ ts=true):vg (.ok (.lst ts)) A=.ok (.at A.length) (A++[.lst ts]):=aW h
def wJ(h:∀p∈l,p.1.length<=1000):KU (.ok (.bX (dP f l)))=.ok (l.map λp=>.str p.1):=Hk λp hp=>cF (h p hp) (by decide)
def map_fst:(l.map λp=>Tr.str p.1)=(l.map (·.1)).map .str:=by rw[cL];rfl
def Ext.idem {A':Ab}{pins:List (Nat×Ao)}{k:Nat}{o:Ao}(e:Ext A A' pins)(h:A[k]?=some o)(hu:pins.lookup k=none):Ext A A' ((k,o)::pins):=⟨e.le,λj x q=>by
 rw[cN];by_cases b:j=k
 ·subst b;rw[h]at q;cases q;rw[e.at' j o h,hu];simp
 ·have:(j==k)=false:=by simpa using b
  rw[this];exact e.at' j x q⟩
def Ext.cons {A' A2:Ab}{pins:List (Nat×Ao)}{k:Nat}{o:Ao}(a:Ext A A' pins)(b:Ext A' A2 [(k,o)]):Ext A A2 ((k,o)::pins):=a.trans b
def Ext.past {A' A2:Ab}{pins:List (Nat×Ao)}(a:Ext A A' [])(b:Ext A' A2 pins):Ext A A2 pins:=by have:=a.trans b;rwa[kl]at this
end
structure cq(A:Ab)(bh:List (Str×Bool))(a9:List (Str×Nat)):Prop where
 o:A[0]?=some (.ins "Hall" [("persons",.at 1),("places",.at 2),("hands",.at 3)])
 ps:A[1]?=some (.bX (dP .bl bh))
 pl:A[2]?=some (.bX (dP .at a9))
section
variable {A A':Ab}{bh:List (Str×Bool)}{a9:List (Str×Nat)}
def flB{l:List (Str×Bool)}:gQ (dP .bl l):=uE λ_ _ _=>L8
def cq.O4 (h:cq A bh a9):kg ["Hall"] "persons" (aZ 5 A (.at 0))=.ok (.bX (dP .bl bh)):=by
 rw[gV h.o];show Rs.ok (aZ 4 A (.at 1))=_;rw[gn h.ps,iM flB]
def cq.Uj (h:cq A bh a9):kg ["Hall"] "places" (aZ 5 A (.at 0))=.ok (.bX (dP (λj=>aZ 3 A (.at j)) a9)):=by
 rw[gV h.o];show Rs.ok (aZ 4 A (.at 2))=_;rw[gn h.pl];unfold dP;rw[cL];rfl
def cq.abp (h:cq A bh a9):uB ["Hall"] "places" (.ok (.at 0) A)=.ok (.at 2) A:=by unfold uB Rz.bind;simp only[h.o];rfl
def cq.call (h:cq A bh a9){m:Str}(hm:En [("persons",.at 1),("places",.at 2),("hands",.at 3)] m=true)(F:List Tr->Ab->Rz Tr)(l:Ab->Rz (List Tr)):rO "Hall" m F (.ok (.at 0) A) l=(l A).bind λts A=>F (.at 0::ts) A:=by
 show(match A[0]? with|some (.ins x fs)=>if x="Hall"/\En fs m=true then(l A).bind λts A=>F (.at 0::ts) A else .bad|_=>.bad)=_;rw[h.o];exact aW ⟨rfl,hm⟩
def jw{b:Ab->Rz Tr}:OJ aE (.ok aC A) b=(b A).bind λy A=>sx (aE (aZ 1 A aC) (aZ 1 A y)) A:=rfl
def wK{f:ag->Tr}{l:List (Str×ag)}(h:A[i]?=some (.bX (dP f l))):aZ 1 A (.at i)=.bX (dP f l):=by
 rw[gn h];unfold dP;rw[cL];rfl
theorem Hl:(∀T G Y A,sC T G [] Y A=.ok (.nx Y) A)/\(∀T G t ts Y A,sC T G (t::ts) Y A=(gO (T t Y) A).bind λrK A=>(G rK A).bind λo A=>match o with
  |.nx q=>sC T G ts q A
  |.ct q=>sC T G ts q A
  |.bk q=>.ok (.nx q) A
  |.ret t=>.ok (.ret t) A)/\(∀T G ts A Y,GQ T G (.ok ts A) Y=sC T G ts Y A)/\(∀i t Y,gN i t Y=.ok (Y.set i (.sh t)))/\(∀ts,Kv (.ok (.tup ts))=.ok ts)/\(∀ts,Kv (.ok (.lst ts))=.ok ts):=by
 refine⟨?_,?_,?_,?_,?_,?_⟩<;>intros<;>rfl
end
noncomputable def zy(j ks kb ka:Nat)(d v p:Str):List (Str×Tr):=[("rows",.at (j+1)),("roles",.at (j+2)),("stays",.at ks),("barred",.at kb),("asked",.at ka),("door",.str d),("voice",.str v),("past",.str p)]
abbrev nW:=Str×Int×Int×Option Int
noncomputable def FA:Option Int->Tr
 |none=>.cA
 |some n=>.int n
def wm(s:nW):Tr:=.tup [.str s.1,.int s.2.1,.int s.2.2.1,FA s.2.2.2]
structure bK(A:Ab)(j ks kb ka:Nat)(rows:List Tr)(bo:List (Str×Str))(stays:List nW)(cn asked:List Str)(d v p:Str):Prop where
 o:A[j]?=some (.bX (dP id (zy j ks kb ka d v p)))
 rw:A[j+1]?=some (.lst rows)
 rl:A[j+2]?=some (.bX (dP .str bo))
 st:A[ks]?=some (.lst (stays.map wm))
 br:A[kb]?=some (.lst (cn.map .str))
 as:A[ka]?=some (.lst (asked.map .str))
 nd:[j,j+1,j+2,ks,kb,ka].Nodup
section
variable {A A':Ab}{j kb ka n:Nat}{bo:List (Str×Str)}{stays:List nW}{asked:List Str}{v p:Str}
def h8(h:A[j]?=some (.bX (dP id bC))):aZ (n+1) A (.at j)=.bX (dP (aZ n A) bC):=by
 rw[gn h];unfold dP;rw[cL];rfl
def yL(h:A[j]?=some (.bX (dP id bC))):aZ 1 A (.at j)=.bX (dP id bC):=by
 rw[gn h];unfold dP;rw[cL];rfl
def L_:(stays.map wm).map (aZ n A)=stays.map wm:=wH λt b=>by obtain⟨s,_,rfl⟩:=cH.mp b;exact⟨_,rfl⟩
def bK.Uk (h:bK A j az kb ka ts bo stays ps asked av v p)(f:gP ts):jW (aZ (n+2) A (.at j)) (.str "rows")=.ok (.lst ts):=by
 rw[h8 h.o,dW];show Rs.ok (aZ (n+1) A (.at (j+1)))=_;rw[ll h.rw,wH f]
def bK.zz (h:bK A j az kb ka ts bo stays ps asked av v p):jW (aZ (n+2) A (.at j)) (.str "roles")=.ok (.bX (dP .str bo)):=by
 rw[h8 h.o,dW];show Rs.ok (aZ (n+1) A (.at (j+2)))=_;rw[gn h.rl,iM (uE λ_ _ _=>sJ)]
def bK.YN (h:bK A j az kb ka ts bo stays ps asked av v p):jW (aZ (n+2) A (.at j)) (.str "stays")=.ok (.lst (stays.map wm)):=by
 rw[h8 h.o,dW];show Rs.ok (aZ (n+1) A (.at az))=_;rw[ll h.st,L_]
def bK.YO (h:bK A j az kb ka ts bo stays ps asked av v p):jW (aZ (n+2) A (.at j)) (.str "barred")=.ok (.lst (ps.map .str)):=by
 rw[h8 h.o,dW];show Rs.ok (aZ (n+1) A (.at kb))=_;rw[ll h.br,rb]
def bK.Ul (h:bK A j az kb ka ts bo stays ps asked av v p):jW (aZ (n+2) A (.at j)) (.str "asked")=.ok (.lst (asked.map .str)):=by
 rw[h8 h.o,dW];show Rs.ok (aZ (n+1) A (.at ka))=_;rw[ll h.as,rb]
def bK.a_d (h:bK A j az kb ka ts bo stays ps asked av v p):jW (aZ (n+1) A (.at j)) (.str "door")=.ok (.str av):=by
 rw[h8 h.o,dW];show Rs.ok (aZ n A (.str av))=_;rw[sJ]
def bK.a_v (h:bK A j az kb ka ts bo stays ps asked av v p):jW (aZ (n+1) A (.at j)) (.str "voice")=.ok (.str v):=by
 rw[h8 h.o,dW];show Rs.ok (aZ n A (.str v))=_;rw[sJ]
def bK.a_p (h:bK A j az kb ka ts bo stays ps asked av v p):jW (aZ (n+1) A (.at j)) (.str "past")=.ok (.str p):=by
 rw[h8 h.o,dW];show Rs.ok (aZ n A (.str p))=_;rw[sJ]
def bK.abq (h:bK A j az kb ka ts bo stays ps asked av v p):jW (aZ 1 A (.at j)) (.str "rows")=.ok (.at (j+1)):=by rw[yL h.o,dW];rfl
def bK.O5 (h:bK A j az kb ka ts bo stays ps asked av v p):jW (aZ 1 A (.at j)) (.str "roles")=.ok (.at (j+2)):=by rw[yL h.o,dW];rfl
def bK.abr (h:bK A j az kb ka ts bo stays ps asked av v p):jW (aZ 1 A (.at j)) (.str "stays")=.ok (.at az):=by rw[yL h.o,dW];rfl
def bK.ext {pins:List (Nat×Ao)}(h:bK A j az kb ka ts bo stays ps asked av v p)(e:Ext A A' pins)(q:∀k∈[j,j+1,j+2,az,kb,ka],pins.lookup k=none):bK A' j az kb ka ts bo stays ps asked av v p:=
 ⟨e.same h.o (q _ (by simp)),e.same h.rw (q _ (by simp)),e.same h.rl (q _ (by simp)),e.same h.st (q _ (by simp)),e.same h.br (q _ (by simp)),e.same h.as (q _ (by simp)),h.nd⟩
variable {cM:List Tr}{lr:List (Str×Str)}{qw:List nW}{yM:List Str}
def bK.ne (h:bK A j az kb ka ts bo stays ps asked av v p):j≠az/\j≠kb/\j≠ka/\j+1≠az/\j+1≠kb/\j+1≠ka/\j+2≠az/\j+2≠kb/\j+2≠ka/\az≠kb/\az≠ka/\kb≠ka:=by
 have:=h.nd;simp only[hJ,bG,cP,cQ,not_or]at this;obtain⟨⟨_,_,a,b,c⟩,⟨_,av,e,f⟩,⟨g,i,k⟩,⟨l,m⟩,n,_⟩:=this;exact⟨a,b,c,av,e,f,g,i,k,l,m,n⟩
theorem bK.YQ:j+2≠j+1/\j+2≠j:=⟨mG _,dQ (Nat.lt_add_of_pos_right (Nat.succ_pos 1))⟩
def bK.FC (h:bK A j az kb ka ts bo stays ps asked av v p)(e:Ext A A' [(j+1,.lst cM)]):bK A' j az kb ka cM bo stays ps asked av v p:=by
 obtain⟨_,_,_,b1,b2,b3,_⟩:=h.ne;exact⟨e.same h.o (gR (mG j).symm),e.new h.rw JE,e.same h.rl (gR bK.YQ.1),e.same h.st (gR b1.symm),e.same h.br (gR b2.symm),e.same h.as (gR b3.symm),h.nd⟩
def bK.O6 (h:bK A j az kb ka ts bo stays ps asked av v p)(e:Ext A A' [(j+2,.bX (dP .str lr))]):bK A' j az kb ka ts lr stays ps asked av v p:=by
 obtain⟨_,_,_,_,_,_,b1,b2,b3,_⟩:=h.ne;exact⟨e.same h.o (gR bK.YQ.2.symm),e.same h.rw (gR bK.YQ.1.symm),e.new h.rl JE,e.same h.st (gR b1.symm),e.same h.br (gR b2.symm),e.same h.as (gR b3.symm),h.nd⟩
def bK.abt (h:bK A j az kb ka ts bo stays ps asked av v p)(e:Ext A A' [(az,.lst (qw.map wm))]):bK A' j az kb ka ts bo qw ps asked av v p:=by
 obtain⟨a,_,_,b,_,_,c,_,_,g,l,_⟩:=h.ne;exact⟨e.same h.o (gR a),e.same h.rw (gR b),e.same h.rl (gR c),e.new h.st JE,e.same h.br (gR g.symm),e.same h.as (gR l.symm),h.nd⟩
def iN{o:Ao}(h:A[i]?=some o):i<A.length:=(gu.mp h).1
def L'{l1 l2:List Nat}(h:(l1++i::l2).Nodup)(q:∀k∈l1++l2,k<az):(l1++az::l2).Nodup:=
 List.perm_middle.nodup_iff.mpr (hJ.mpr ⟨λm=>eV _ (q _ m),(hJ.mp (List.perm_middle.nodup_iff.mp h)).2⟩)
def bK.abu (h:bK A j az kb ka ts bo stays ps asked av v p):bK ((A++[Ao.lst (yM.map .str)]).set j (.bX (dP id (zy j az kb A.length av v p)))) j az kb A.length ts bo stays ps yM av v p:=by
 obtain⟨a,b,_⟩:=h.ne;have g:Ext A (A++[Ao.lst (yM.map .str)]) []:=Ext.push;have l:Ext (A++[Ao.lst (yM.map .str)]) _ _:=Ext.put (o:=.bX (dP id (zy j az kb A.length av v p))) (g.same h.o rfl);refine⟨l.new (g.same h.o rfl) JE,l.same (g.same h.rw rfl) (gR (mG j)),l.same (g.same h.rl rfl) (gR bK.YQ.2),l.same (g.same h.st rfl) (gR a.symm),l.same (g.same h.br rfl) (gR b.symm),l.same lX (gR (dQ (iN h.o))),L' (l1:=[j,j+1,j+2,az,kb]) (l2:=[]) h.nd λk m=>?_⟩;simp only[dr,bG,cP,cQ]at m;rcases m with rfl|rfl|rfl|rfl|rfl
 ·exact iN h.o
 ·exact iN h.rw
 ·exact iN h.rl
 ·exact iN h.st
 ·exact iN h.br
def bK.abv (h:bK A j az kb ka ts bo stays ps asked av v p):bK ((A++[Ao.lst (qw.map wm)]).set j (.bX (dP id (zy j A.length kb ka av v p)))) j A.length kb ka ts bo qw ps asked av v p:=by
 obtain⟨_,b,c,_⟩:=h.ne;have g:Ext A (A++[Ao.lst (qw.map wm)]) []:=Ext.push;have l:Ext (A++[Ao.lst (qw.map wm)]) _ _:=Ext.put (o:=.bX (dP id (zy j A.length kb ka av v p))) (g.same h.o rfl);refine⟨l.new (g.same h.o rfl) JE,l.same (g.same h.rw rfl) (gR (mG j)),l.same (g.same h.rl rfl) (gR bK.YQ.2),l.same lX (gR (dQ (iN h.o))),l.same (g.same h.br rfl) (gR b.symm),l.same (g.same h.as rfl) (gR c.symm),L' (l1:=[j,j+1,j+2]) (l2:=[kb,ka]) h.nd λk m=>?_⟩;simp only[dr,bG,cP,cQ,or_assoc]at m;rcases m with rfl|rfl|rfl|rfl|rfl
 ·exact iN h.o
 ·exact iN h.rw
 ·exact iN h.rl
 ·exact iN h.br
 ·exact iN h.as
def O7:Nf (.str x) (.str av)=.ok (.bl (!(x==av))):=rfl
theorem yN:∀{stays:List nW},mZ (stays.map wm)=true
 |[]=>rfl
 |s::stays=>by
  rw[bO,mZ,yN,Bool.and_true];obtain⟨a,b,c,e⟩:=s;cases e<;>rfl
theorem Ma{α:Type}{C:bV->Rs Bool}{F:bV->Rs Tr}{Y:bV}{P:α->Bool}{g h:α->Tr}:∀{xs:List α} {c:Cell},(∀x∈xs,C (.sh (g x)::Y)=.ok (P x))->(∀x∈xs,P x=true->F (.sh (g x)::Y)=.ok (h x))->ER (gN 0) C F (xs.map g) (c::Y)=.ok ((xs.filter P).map h)
 |[],_,_,_=>rfl
 |x::xs,c,hC,hF=>by
  have l:=Ma (Y:=Y) (C:=C) (F:=F) (P:=P) (g:=g) (h:=h) (xs:=xs) (c:=.sh (g x)) (λy b=>hC y (cu _ b)) λy b=>hF y (cu _ b);show(NW (C (.sh (g x)::Y))).bind (λk=>if k then(NW (F (.sh (g x)::Y))).bind λy=>(ER (gN 0) C F (xs.map g) (.sh (g x)::Y)).bind λys=>.ok (y::ys)else ER (gN 0) C F (xs.map g) (.sh (g x)::Y))=_;rw[hC x (cD ..),l];show(if P x then _ else _)=_;cases e:P x with
  |true=>rw[lL e,hF x (cD ..) e];rfl
  |false=>rw[ki (by rw[e];exact fE)];rfl
def lY{r:Rs (List Tr)}{ix:List (Option Nat)}{Y BL:bV}{c:Cell}(P:ag->Bool)(g h:ag->Tr){xs:List ag}(hr:r=.ok (xs.map g))(hl:xs.length<=ee)(q:ur ix Y=c::BL)(hC:∀x∈xs,aF (.sh (g x)::BL)=.ok (P x))(hF:∀x∈xs,P x=true->F (.sh (g x)::BL)=.ok (h x)):vI ix (gN 0) aF F r Y=.ok (.lst ((xs.filter P).map h)):=by
 unfold vI;rw[hr,q];show(if(xs.map g).length<=ee then _ else _)=_;rw[aW (by rw[bu];exact hl),Ma hC hF]
 rfl
def Jh:kZ (dP id (zy j az kb ka av v p)) (.inr "asked") (.at n)=dP id (zy j az kb n av v p):=j7 (f:=id) (a:=.at n)
def Ji:kZ (dP id (zy j az kb ka av v p)) (.inr "stays") (.at n)=dP id (zy j n kb ka av v p):=j7 (f:=id) (a:=.at n)
def bK.abw {x:Ao}{Y:bV}(h:bK A j az kb ka ts bo stays ps asked av v p):putD (A++[x]) (.at j) (.str "asked") (.at A.length) Y=.ok (.nx Y) ((A++[x]).set j (.bX (dP id (zy j az kb A.length av v p)))):=by
 rw[lp (Ext.push.same h.o rfl) (by rw[je];show 8<ee;decide),Jh]
def bK.abx {x:Ao}{Y:bV}(h:bK A j az kb ka ts bo stays ps asked av v p):putD (A++[x]) (.at j) (.str "stays") (.at A.length) Y=.ok (.nx Y) ((A++[x]).set j (.bX (dP id (zy j A.length kb ka av v p)))):=by
 rw[lp (Ext.push.same h.o rfl) (by rw[je];show 8<ee;decide),Ji]
end
open PyProof
section
variable {A:Ab}
def FD{ns:List Int}(h:0<ns.length):rR ns∈ns/\∀x∈ns,x<=rR ns:=by
 obtain⟨n,h2⟩:=argBest_gt (λi=>ns.getD i 0) (ns.length - 1);have b:argBest (λi j=>decide (ns.getD i 0>ns.getD j 0)) (ns.length - 1)<ns.length:=by omega
 constructor
 ·unfold rR;rw[eN,bY b];exact kP _
 ·intro x g;obtain⟨a,ha,e⟩:=List.getElem_of_mem g;have:=h2 a (by omega);have l:ns.getD a 0=x:=by rw[eN,bY ha,e];rfl
  rw[<-l];exact this
theorem ints_map{α:Type}{f:α->Int}:∀{l:List α},rQ (l.map λx=>.int (f x))=some (l.map f)
 |[]=>rfl
 |x::l=>by show(rQ (l.map λx=>.int (f x))).map (λr=>f x::r)=_;rw[ints_map];rfl
def max_map{f:ag->Int}{l:List ag}(h:l≠[]):Lv [.lst (l.map λx=>.int (f x))]=.ok (.int (rR (l.map f))):=by
 show(match rQ (l.map λx=>Tr.int (f x))with|some ns=>if 0<ns.length then Rs.ok (Tr.int (rR ns))else .bad|none=>.bad)=_;rw[ints_map];exact aW (by rw[bu];exact sY.mpr h)
theorem BM:Bf (.str x) (.lst (ps.map .str))=.ok (.bl (ps.contains x)):=by
 show R' (KA (.str x) (ps.map .str))=_;have:((ps.map Tr.str).all ye)=true:=by rw[pF];exact dH.mpr λ_ _=>rfl
 unfold KA;rw[aW ⟨rfl,this⟩,List.any_map];show Rs.ok (Tr.bl _)=_;congr 2;rw[List.contains_eq_any_beq];congr 1;funext y;show(y==x)=(x==y);exact Bool.beq_comm
def yO:N8 (.str x) (.lst (ps.map .str))=.ok (.bl (!ps.contains x)):=by
 show R' (Ic (KA (.str x) (ps.map .str)))=_;have:R' (KA (.str x) (ps.map .str))=.ok (.bl (ps.contains x)):=BM;unfold KA at*;have h:((ps.map Tr.str).all ye)=true:=by rw[pF];exact dH.mpr λ_ _=>rfl
 rw[aW ⟨rfl,h⟩]at*;have e:Rs.ok (Tr.bl ((ps.map Tr.str).any λy=>eqT y (.str x)))=.ok (.bl (ps.contains x)):=this;injection e with e;injection e with e
 show Rs.ok (Tr.bl (!_))=_;rw[e]
def Um{f:ag->Tr}{l:List (Str×ag)}:pT (.bX (dP f l))=.ok (!l.isEmpty):=by cases l<;>rfl
end
def nS(l:List Str):List (Key×Tr):=dP .bl (l.map λz=>(z,true))
theorem BN{z:Str}:∀{l:List Str},(l.map λz=>(z,true)).lookup z=if l.contains z=true then some true else none
 |[]=>rfl
 |y::l=>by
  rw[bO,cN,List.contains_cons];cases e:(z==y)with
  |true=>rfl
  |false=>rw[BN,jE]
def FE:fc (nS ps) (.inr x)=if ps.contains x=true then some (.bl true)else none:=by
 unfold nS;rw[eD,BN];cases ps.contains x<;>rfl
def O8:iL (nS ps) (.inr x)=nS (ps.filter λy=>!(y==x)):=by
 unfold nS;rw[BK];congr 1;unfold lq;rw[px];congr 1;apply tD;intro y _;show decide (y≠x)=!(y==x);by_cases h:y=x
 ·subst h;simp
 ·simp[h]
def wL:gQ (nS ps):=uE λ_ _ _=>L8
structure fN(A:Ab)(bw:List Str)(c8:List (Str×Nat)):Prop where
 o:A[4]?=some (.bX (dP id [("people",.at 5),("rooms",.at 6)]))
 pe:A[5]?=some (.lst (bw.map .str))
 rs:A[6]?=some (.bX (dP .at c8))
section
variable {A A':Ab}{c8:List (Str×Nat)}{n:Nat}
def fN.Uo (h:fN A ps c8):jW (aZ (n+2) A (.at 4)) (.str "people")=.ok (.lst (ps.map .str)):=by
 rw[h8 h.o,dW];show Rs.ok (aZ (n+1) A (.at 5))=_;rw[ll h.pe,rb]
def fN.Mb (h:fN A ps c8):jW (aZ (n+2) A (.at 4)) (.str "rooms")=.ok (.bX (dP (λj=>aZ n A (.at j)) c8)):=by
 rw[h8 h.o,dW];show Rs.ok (aZ (n+1) A (.at 6))=_;rw[gn h.rs];unfold dP;rw[cL];rfl
def fN.Up (h:fN A ps c8):jW (aZ 1 A (.at 4)) (.str "rooms")=.ok (.at 6):=by rw[yL h.o,dW];rfl
def DR{f:ag->Tr}{l:List (Str×ag)}:KC (.ok (.bX (dP f l))) (.ok (.str x))=.ok (((l.lookup x).map f).getD .cA):=by
 show(kY (kr (.str x))).bind (λk=>Rs.ok ((fc (dP f l) k).getD .cA))=_;show Rs.ok ((fc (dP f l) (.inr x)).getD .cA)=_;rw[eD]
def O9:GF (.bX aG) .cA=.ok (.bl false):=rfl
end
section
variable {A A':Ab}{kb ka n:Nat}{bo:List (Str×Str)}{stays:List nW}{asked l':List Str}{p d' v' p' c_:Str}
def bK.aby (h:bK A i az kb ka ts bo stays ps asked x av p)(e:Ext A A' [(ka,.lst (l'.map .str))]):bK A' i az kb ka ts bo stays ps l' x av p:=by
 have n:=h.ne;exact⟨e.same h.o (gR (by omega)),e.same h.rw (gR (by omega)),e.same h.rl (gR (by omega)),e.same h.st (gR (by omega)),e.same h.br (gR (by omega)),e.new h.as JE,h.nd⟩
def bK.e_o (h:bK A i az kb ka ts bo stays ps asked x av p)(e:Ext A A' [(i,.bX (dP id (zy i az kb ka d' v' p')))]):bK A' i az kb ka ts bo stays ps asked d' v' p':=by
 have n:=h.ne;exact⟨e.new h.o JE,e.same h.rw (gR (by omega)),e.same h.rl (gR (by omega)),e.same h.st (gR (by omega)),e.same h.br (gR (by omega)),e.same h.as (gR (by omega)),h.nd⟩
def bK.p_o {t:Tr}{Y:bV}{l:List (Str×Tr)}(h:bK A i az kb ka ts bo stays ps asked x av p)(e:eZ (zy i az kb ka x av p) c_ t=l):putD A (.at i) (.str c_) t Y=.ok (.nx Y) (A.set i (.bX (dP id l))):=by
 rw[lp h.o (by rw[je];show 8<ee;decide),<-e];exact cX (λz=>Rz.ok (Out.nx Y) (A.set i (.bX z))) (j7 (f:=id) (a:=t))
def bK.abz (h:bK A i az kb ka ts bo stays ps asked x av p):jW (aZ 1 A (.at i)) (.str "asked")=.ok (.at ka):=by rw[yL h.o,dW];rfl
end
noncomputable def arr:Nat->List Str->List (List Str)
 |0,_=>[[]]
 |n+1,l=>[]::l.flatMap λz=>(arr n (l.filter λy=>!(y==z))).map (z::·)
theorem Hm:∀{n:Nat} {l ss:List Str},ss.length<=n->ss.Nodup->(∀z∈ss,z∈l)->ss∈arr n l
 |0,l,[],_,_,_=>cV.mpr rfl
 |n+1,l,[],_,_,_=>cD ..
 |n+1,l,z::ss,g,hn,hs=>by
  rw[hJ]at hn;refine cu _ (List.mem_flatMap.mpr ⟨z,hs z (cD ..),cH.mpr ⟨ss,Hm (w4 g) hn.2 λy b=>gy.mpr ⟨hs y (cu _ b),?_⟩,rfl⟩⟩);have:y≠z:=λe=>hn.1 (e▸b);simpa using this
def O_(ss:List Str):Bool:=match ik ss with
 |some p=>(p.map λi=>ss.getD i ("":Str)).isPerm ss&&sortedS (p.map λi=>ss.getD i ("":Str))
 |none=>false
noncomputable abbrev six:List Str:=["ann","bo","cy","dee","ed","zed"]
def ch5(z y:Str):Bool:=y==z||(((arr 4 ((six.filter λx=>!(x==z)).filter λx=>!(x==y))).map (y::·)).map (z::·)).all O_
set_option maxHeartbeats 4000000 in
def abA:∀z∈six,∀y∈six,ch5 z y=true:=by
 intro z hz y b;simp only[bG,cP,cQ]at hz b;rcases hz with rfl|rfl|rfl|rfl|rfl|rfl<;>rcases b with rfl|rfl|rfl|rfl|rfl|rfl<;>decide+kernel
theorem abB:(arr 6 six).all O_=true:=by
 rw[arr,iG,List.all_flatMap,bW,dH];refine⟨rfl,λz hz=>?_⟩;rw[arr,bO,iG,List.map_flatMap,List.all_flatMap,bW,dH];refine⟨(by decide+kernel:∀z∈six,O_ [z]=true) z hz,λy b=>?_⟩;have n:=gy.mp b;have h:=abA z hz y n.1;rw[ch5,show(y==z)=false by simpa using n.2,jE]at h;exact h
theorem vp:∀{ss l:List Str},ss.Nodup->(∀z∈ss,z∈l)->ss.length<=l.length
 |[],_,_,_=>d9 _
 |z::ss,l,hn,hs=>by
  rw[hJ]at hn;have hz:=hs z (cD ..);have g:=vp (l:=l.erase z) hn.2 λy b=>(List.mem_erase_of_ne (λe:y=z=>hn.1 (by rw[<-e];exact b))).mpr (hs y (cu _ b));rw[List.length_erase_of_mem hz]at g;have:=List.length_pos_of_mem hz;rw[dB];omega
def FF{ss:List Str}(q:ss.Nodup)(hs:∀z∈ss,z∈(["ann","bo","cy","dee","ed","zed"]:List Str)):∃p,ik ss=some p/\p.map (λi=>ss.getD i ("":Str))=de ss:=by
 have h:=dH.mp abB ss (Hm (vp q hs) q hs);unfold O_ at h;cases e:ik ss with
 |none=>rw[e]at h;cases h
 |some p=>
  rw[e]at h;rw[bW]at h;exact⟨p,rfl,uA (List.isPerm_iff.mp h.1) h.2⟩
theorem DT{α:Type}{f:α->Tr}:∀{l:List (Str×α)},rV (dP f l)=some (l.map (·.1))
 |[]=>rfl
 |p::l=>by show(rV (dP f l)).map (λs=>p.1::s)=_;rw[DT];rfl
def FG{aU:List (Str×Str)}(q:(aU.map (·.1)).Nodup)(hs:∀z∈aU.map (·.1),z∈(["ann","bo","cy","dee","ed","zed"]:List Str))(hl:∀p∈aU,aU.lookup p.1=some p.2):
  wG (.bX (dP .str aU))=.ok (.lst ((de (aU.map (·.1))).map λz=>.tup [.str z,.str ((aU.lookup z).getD "")])):=by
 obtain⟨p,l,n⟩:=FF q hs;have r:=vp q hs;have b:((aU.map (·.1)).all λz=>decide (z.length<=dc))=true:=dH.mpr λz hz=>iF (cF ((by decide+kernel:∀z∈(["ann","bo","cy","dee","ed","zed"]:List Str),z.length<=10) z (hs z hz)) (by decide));show kY ((rV (dP .str aU)).bind λss=>if ss.length<64/\(ss.all λz=>decide (z.length<=dc))=true then(ik ss).map λp=>Tr.lst (p.map λi=>.tup [.str (ss.getD i ("":Str)),((dP .str aU).map (·.2)).getD i .cA])else none)=_;rw[DT];show kY (if(aU.map (·.1)).length<64/\_ then _ else none)=_;rw[aW ⟨sZ r (by decide),b⟩,l];show Rs.ok (Tr.lst _)=_;congr 2;rw[<-n,cL];apply gw;intro i hi;have g:=As l i hi;rw[bu]at g;have g1:(aU.map (·.1)).getD i ("":Str)=aU[i].1:=by rw[eN,ck,bY g];rfl
 have g2:((dP .str aU).map (·.2)).getD i .cA=.str aU[i].2:=by
  unfold dP;rw[cL,eN,ck,bY g];rfl
 show Tr.tup [.str ((aU.map (·.1)).getD i ("":Str)),((dP .str aU).map (·.2)).getD i .cA]=Tr.tup [.str ((aU.map (·.1)).getD i ("":Str)),.str ((aU.lookup ((aU.map (·.1)).getD i ("":Str))).getD "")];rw[g1,g2,hl aU[i] (kP _)]
 rfl
section
variable {A:Ab}{n:Nat}{rows:List Tr}{en ch bn iv:List (Key×Tr)}
def bB.abC (h:bB A i rows aG en ch bn iv)(f:gP rows):kg ["Room"] "log" (aZ (n+2) A (.at i))=.ok (.lst rows):=by
 rw[gV h.o];show Rs.ok (aZ (n+1) A (.at (i+1)))=_;rw[ll h.lg,wH f]
def bB.abD (h:bB A i rows aG en ch bn iv)(f:gQ aG):kg ["Room"] "ranks" (aZ (n+2) A (.at i))=.ok (.bX aG):=by
 rw[gV h.o];show Rs.ok (aZ (n+1) A (.at (i+2)))=_;rw[gn h.rk,iM f]
def bB.abE (h:bB A i rows aG en ch bn iv)(f:gQ ch):kg ["Room"] "chosen" (aZ (n+2) A (.at i))=.ok (.bX ch):=by
 rw[gV h.o];show Rs.ok (aZ (n+1) A (.at (i+4)))=_;rw[gn h.ch,iM f]
def bB.abF (h:bB A i rows aG en ch bn iv)(f:gQ bn):kg ["Room"] "banned" (aZ (n+2) A (.at i))=.ok (.bX bn):=by
 rw[gV h.o];show Rs.ok (aZ (n+1) A (.at (i+5)))=_;rw[gn h.bn,iM f]
def bB.abG (h:bB A i rows aG en ch bn iv)(f:gQ iv):kg ["Room"] "invited" (aZ (n+2) A (.at i))=.ok (.bX iv):=by
 rw[gV h.o];show Rs.ok (aZ (n+1) A (.at (i+6)))=_;rw[gn h.iv,iM f]
def bB.dO (h:bB A i rows aG en ch bn iv){m:Str}(hm:En ((roomF i).map λp=>(p.1,aZ n A p.2)) m=true)(F:List Tr->Rs Tr)(l:Rs (List Tr)):vP "Room" m F (.ok (aZ (n+1) A (.at i))) l=l.bind λts=>F (aZ (n+1) A (.at i)::ts):=by
 rw[gV h.o];exact aW ⟨rfl,hm⟩
variable {bh:List (Str×Bool)}{a9:List (Str×Nat)}
def cq.dO (h:cq A bh a9){m:Str}(hm:En (([("persons",.at 1),("places",.at 2),("hands",.at 3)]:List (Str×Tr)).map λp=>(p.1,aZ n A p.2)) m=true)(F:List Tr->Rs Tr)(l:Rs (List Tr)):vP "Hall" m F (.ok (aZ (n+1) A (.at 0))) l=l.bind λts=>F (aZ (n+1) A (.at 0)::ts):=by
 rw[gV h.o];exact aW ⟨rfl,hm⟩
theorem DU{α:Type}{f:α->Tr}:∀{l:List (Str×α)},(∀p∈l,p.1.length<=1000)->vO (dP f l)=some (l.map (·.1))
 |[],_=>rfl
 |p::l,h=>by
  show(if p.1.length<=dc then(vO (dP f l)).map (λr=>p.1::r)else none)=_;rw[aW (cF (h p (cD ..)) (by decide)),DU λq b=>h q (cu _ b)]
  rfl
theorem vq:∀{ss:List Str},oC (ss.map .str)=some ss
 |[]=>rfl
 |z::ss=>by show(oC (ss.map .str)).map (λr=>z::r)=_;rw[vq];rfl
def rg{f:ag->Tr}{l:List (Str×ag)}(h:∀p∈l,p.1.length<=1000)(q:l.length<64):nT [.bX (dP f l)]=.ok (.lst ((de (l.map (·.1))).map .str)):=by
 show Ag (vO (dP f l))=_;rw[DU h];exact aW (by rw[bu];exact q)
def Az{ss:List Str}(q:ss.length<64):nT [.lst (ss.map .str)]=.ok (.lst ((de ss).map .str)):=by
 show Ag (oC (ss.map .str))=_;rw[vq];exact aW q
theorem Pa:(∀T G Y,zr T G [] Y=.ok (.nx Y))/\(∀T G t ts Y,zr T G (t::ts) Y=(T t Y).bind λrK=>(G rK).bind λo=>match o with
  |.nx q=>zr T G ts q
  |.ct q=>zr T G ts q
  |.bk q=>.ok (.nx q)
  |.ret t=>.ok (.ret t))/\(∀T G ts Y,Gu T G (.ok ts) Y=zr T G ts Y)/\(∀ts,E1 [.lst ts]=.ok (.tup ts)):=by
 refine⟨?_,?_,?_,?_⟩<;>intros<;>rfl
theorem Mc:∀{ts:List Tr},(∀t∈ts,t=.bl true)->Oh [.lst ts]=.ok (.bl true):=λ{ts} h=>by
 have:Ip ts=.ok (ts.map λ_=>true):=by
  induction ts with
  |nil=>rfl
  |cons t ts b=>
   rw[h t (cD ..)];show(Ip ts).bind (λzs=>Rs.ok (true::zs))=_;rw[b λu g=>h u (cu _ g)]
   rfl
 show(Ip ts).bind (λbs=>Rs.ok (Tr.bl (bs.all id)))=_;rw[this];show Rs.ok (Tr.bl ((ts.map λ_=>true).all id))=_;congr 2;rw[pF];exact dH.mpr λ_ _=>rfl
theorem DV:∀{ts:List Tr},QK ts ts=ts.map λt=>.tup [t,t]
 |[]=>rfl
 |t::ts=>by show Tr.tup [t,t]::QK ts ts=_;rw[DV];rfl
end
structure Vk where
 bl:List Str
 own:List Str
 X1:List Str
 fl:List (Str×List Str)
 kd:List Df
 er:List Str
 xs:List (Str⊕String)
 cs:List Str
 rs:List Str
namespace Vk
def val(K:Frag):Str⊕String->Value
 |.inl c=>.ref (clsAt K c)
 |.inr c=>.type c
noncomputable def tab(q:List Str):Str⊕String->List (Str×Bool)
 |.inl c=>q.map λx=>(x,x==c)
 |.inr _=>q.map λx=>(x,true)
def QY(K:Frag)(o:Vk):Bool:=o.bl.all (λx=>decide (nsIn K mainGlobals x=some none))&&(o.own.all (λc=>decide (nsIn K mainGlobals c=some (some (.ref (clsAt K c)))))&&(o.X1.all (λc=>makesIn K (clsAt K c)&&(keepIn K (.ref (clsAt K c))&&decide (nsIn K mainGlobals c=some (some (.ref (clsAt K c))))))&&
 (o.fl.all (λp=>OZ K (clsAt K p.1)&&abg K (clsAt K p.1) p.2)&&(o.kd.all (λd=>decide (specialIn K (.ref (d.adr K)) "__get__"=some (some (.builtin "function.__get__")))&&decide (takesIn K (.ref (d.adr K))=some false))&&
 (YA K o.er&&(o.xs.all (λc=>Yz K (val K c) (tab o.er c))&&(o.cs.all (λc=>YB K c o.er)&&o.rs.all (λc=>excIn K (clsAt K c) bmV "ValueError.__new__"))))))))
structure Ok(o:Vk)(K:Frag)(mg:Str->Option Value):Prop where
 bl:∀{x},o.bl.contains x=true->mg x=none
 Hn:∀{c},o.own.contains c=true->mg c=some (.ref (clsAt K c))
 mk_:∀{c},o.X1.contains c=true->Je K mg c
 fl:∀{c f fs},o.fl.lookup c=some fs->fs.contains f=true->iZ K [c] f
 bn:∀(i:Nat) {d:Df},o.kd[i]?=some d->An K (d.adr K)
 xc:∀(i:Nat) {c},o.xs[i]?=some c->i7 K (val K c) (tab o.er c)
 ca:∀{c},o.cs.contains c=true->o.own.contains c=true->qY K mg c o.er
 er:∀{c},o.rs.contains c=true->o.own.contains c=true->rP K mg c
def ok{o:Vk}{K:Frag}{h:Heap}(X:K.In h)(G:h.Ns mainGlobals mg)(k:o.QY K=true):o.Ok K mg:=by
 unfold QY at k;simp only[bW,dH,iD]at k;obtain⟨k1,k2,k3,b,k5,g,r,I,L⟩:=k;have Hn:∀{c},o.own.contains c=true->mg c=some (.ref (clsAt K c)):=λm=>mg_of X G (k2 _ (dg.mp m));refine⟨λm=>mg_none_of X G (k1 _ (dg.mp m)),Hn,λm=>?_,λ{c f fs} l m=>?_,λi d e=>?_,λi c e=>?_,λm n=>LX (Hn n) (I _ (dg.mp m)),λm n=>⟨Hn n,L _ (dg.mp m)⟩⟩
 ·have q:=k3 _ (dg.mp m);exact⟨q.1,q.2.1,mg_of X G q.2.2⟩
 ·have q:=b _ (jd l);refine⟨λx M=>?_⟩;cases cV.mp M;exact⟨LY q.1,(eO (dH.mp q.2 f (dg.mp m)):findIn K (.ref (clsAt K c)) f=some none)⟩
 ·have q:=k5 _ (d7 e);exact⟨q.1,q.2⟩
 ·refine T7 (r _ (d7 e)) g ?_
  cases c<;>simp[tab,Function.comp_def]
end Vk
end L2
namespace M08
open PySem.W (Frag)
open PySem L2
variable {aN:Nat}{aO:List (Str×Str)}{aP:Str}{aQ:List Str}
variable {aU bo:List (Str×Str)}{bh:List (Str×Bool)}{ents:List (Str×Int)}{a9 c8:List (Str×Nat)}{rows:List Tr}{cs:List (Bool×Str×Str)}{bw:List Str}{a_:Str}{A:Ab}{stays:List nW}
noncomputable def top(i:Nat):Stmt:=PySem.Challenge.pw_talkhall_k08_asking.main.body.getD i (.Pass ⟨0,0,0,0⟩)
def Pb:Stmt->List Stmt
 |.ClassDef _ _ _ b _ _ _ _ _ _ _=>b
 |_=>[]
def fV(i j:Nat):Stmt:=(Pb (top i)).getD j (.Pass ⟨0,0,0,0⟩)
def BO:Df:=⟨none,"level","level",top 23,["role"]⟩
def iO:Df:=⟨some "Room","claim","Room.claim",fV 24 4,["self","who"]⟩
def jf:Df:=⟨some "Room","write_row","Room.write_row",fV 24 1,["self","who","word","parts"]⟩
def mn:Df:=⟨some "Room","let_in","Room.let_in",fV 24 2,["self","who","word","role"]⟩
def jg:Df:=⟨some "Room","give_role","Room.give_role",fV 24 3,["self","who","whom","role"]⟩
def lu:Df:=⟨some "Room","need_in","Room.need_in",fV 24 6,["self","who"]⟩
def ip:Df:=⟨some "Hall","need_people","Hall.need_people",fV 26 1,["self","names"]⟩
def iP:Df:=⟨some "Hall","place","Hall.place",fV 26 2,["self","room"]⟩
def jh:Df:=⟨some "Hall","place_for","Hall.place_for",fV 26 3,["self","names","room"]⟩
def qA:Df:=⟨some "Hall","come","Hall.come",fV 26 5,["self","who"]⟩
def h_:Df:=⟨some "Room","__init__","Room.__init__",fV 24 0,["self","who"]⟩
def j8:Df:=⟨some "Hall","__init__","Hall.__init__",fV 26 0,["self"]⟩
def nX:Df:=⟨some "Hall","found","Hall.found",fV 26 8,["self","who","room"]⟩
def fi:Df:=⟨some "Room","see_to_owner","Room.see_to_owner",fV 24 5,["self"]⟩
def iq:Df:=⟨some "Room","need_keeper","Room.need_keeper",fV 24 7,["self","who"]⟩
def j9:Df:=⟨some "Room","may_give","Room.may_give",fV 24 9,["self","who","whom","role"]⟩
def lx:Df:=⟨some "Room","arrange","Room.arrange",fV 24 16,["self","who","what","value"]⟩
def sL:Df:=⟨some "Room","ask","Room.ask",fV 24 17,["self","who","whom"]⟩
def qB:Df:=⟨some "Room","role","Room.role",fV 24 18,["self","who","whom","role"]⟩
def nY:Df:=⟨some "Room","enter","Room.enter",fV 24 14,["self","who"]⟩
def nZ:Df:=⟨some "Room","leave","Room.leave",fV 24 15,["self","who"]⟩
def n5:Df:=⟨some "Hall","enter","Hall.enter",fV 26 9,["self","who","room"]⟩
def n6:Df:=⟨some "Hall","leave","Hall.leave",fV 26 10,["self","who","room"]⟩
def ly:Df:=⟨some "Hall","arrange","Hall.arrange",fV 26 11,["self","who","room","what","value"]⟩
def sM:Df:=⟨some "Hall","ask","Hall.ask",fV 26 12,["self","who","room","whom"]⟩
def qC:Df:=⟨some "Hall","role","Hall.role",fV 26 13,["self","who","room","whom","role"]⟩
def mq:Df:=⟨some "Hall","people","Hall.people",fV 26 6,["self"]⟩
def n8:Df:=⟨some "Hall","rooms","Hall.rooms",fV 26 7,["self"]⟩
def n_:Df:=⟨some "Room","roles","Room.roles",fV 24 26,["self"]⟩
def qD:Df:=⟨some "Room","rows","Room.rows",fV 24 30,["self"]⟩
def mr:Df:=⟨some "Room","barred","Room.barred",fV 24 28,["self"]⟩
def og:Df:=⟨some "Room","asked","Room.asked",fV 24 29,["self"]⟩
def lz:Df:=⟨some "Room","setting","Room.setting",fV 24 27,["self","what"]⟩
def oh:Df:=⟨some "Hall","roles","Hall.roles",fV 26 21,["self","room"]⟩
def qE:Df:=⟨some "Hall","rows","Hall.rows",fV 26 25,["self","room"]⟩
def mv:Df:=⟨some "Hall","barred","Hall.barred",fV 26 23,["self","room"]⟩
def oj:Df:=⟨some "Hall","asked","Hall.asked",fV 26 24,["self","room"]⟩
def lA:Df:=⟨some "Hall","setting","Hall.setting",fV 26 22,["self","room","what"]⟩
def yP:Df:=⟨none,"_law_rank","_law_rank",top 36,["_law_room","_law_who"]⟩
def yQ:Df:=⟨none,"_law_word","_law_word",top 32,["_law_kept"]⟩
def vt:Df:=⟨none,"_law_begin","_law_begin",top 35,["_law_people"]⟩
def BP:Df:=⟨none,"_law_row","_law_row",top 42,["_law_room","_law_who","_law_parts"]⟩
def rh:Df:=⟨none,"_law_enter","_law_enter",top 43,["_law_room","_law_who","_law_word_here"]⟩
def uG:Df:=⟨none,"_law_quit","_law_quit",top 44,["_law_room","_law_who","_law_number"]⟩
def BQ:Df:=⟨none,"_law_mix","_law_mix",top 29,["_law_cell_here","_law_prime","_law_many"]⟩
def yR:Df:=⟨none,"_law_cell","_law_cell",top 28,["_law_script","_law_k"]⟩
def kI:Df:=⟨none,"_law_owned","_law_owned",top 45,["_law_room"]⟩
def lZ:Df:=⟨none,"_law_changed","_law_changed",top 47,["_law_room","_law_deed_here"]⟩
def yS:Df:=⟨none,"_law_done","_law_done",top 46,["_law_model","_law_deed_here"]⟩
def ji:Df:=⟨none,"_law_refused_deed","_law_refused_deed",top 41,["_law_room","_law_deed_here"]⟩
def jM:Df:=⟨none,"_law_refused","_law_refused",top 39,["_law_model","_law_deed_here"]⟩
def uH:Df:=⟨none,"_law_deed","_law_deed",top 49,["_law_cell_here","_law_model","_law_words_here"]⟩
def yT:Df:=⟨none,"_law_call","_law_call",top 33,["_law_hall_here","_law_deed_here"]⟩
def yU:Df:=⟨none,"_law_told","_law_told",top 34,["_law_hall_here","_law_deed_here"]⟩
def uI:Df:=⟨none,"_law_same","_law_same",top 30,["_law_found","_law_due"]⟩
def yV:Df:=⟨none,"_law_both","_law_both",top 48,["_law_hall_here","_law_model","_law_deed_here"]⟩
def yW:Df:=⟨none,"_law_hall","_law_hall",top 50,["_law_hall_here","_law_model"]⟩
def nc:Df:=⟨none,"_law_is_as","_law_is_as",top 51,["_law_hall_here","_law_model"]⟩
def DW:Df:=⟨none,"law","law",top 52,["_law_script"]⟩
def DS:List Df:=[BO,iO,jf,mn,jg,lu,ip,iP,jh,qA,h_,j8,nX,fi,iq,j9,lx,sL,qB,nY,nZ,n5,n6,ly,sM,qC,mq,n8,n_,qD,mr,og,lz,oh,qE,mv,oj,lA,yP,yQ,vt,BP,rh,uG,BQ,yR,kI,lZ,yS,ji,jM,uH,yT,yU,uI,yV,yW,nc,DW]
structure QZ(K:Frag)(w:World)(mg:Str->Option Value):Prop where
 d:∀(i:Nat) {e:Df},DS[i]?=some e->e.Ok K mg
 ValueError:mg "ValueError"=none
 all:mg "all"=none
 bool:mg "bool"=none
 dict:mg "dict"=none
 int:mg "int"=none
 isinstance:mg "isinstance"=none
 len:mg "len"=none
 list:mg "list"=none
 max:mg "max"=none
 min:mg "min"=none
 range:mg "range"=none
 set:mg "set"=none
 sorted:mg "sorted"=none
 str:mg "str"=none
 tuple:mg "tuple"=none
 zip:mg "zip"=none
 BR:An K (iO.adr K)
 Uq:Je K mg "Hall"
 Ur:Je K mg "Room"
 Pc:Lf K mg "ROLES" [.str "guest",.str "speaker",.str "keeper",.str "owner"]
 yX:iZ K ["Room"] "banned"
 uJ:iZ K ["Room"] "chosen"
 vv:iZ K ["Room"] "entries"
 Pd:iZ K ["Hall"] "hands"
 ng:iZ K ["Room"] "invited"
 Ho:iZ K ["Room"] "log"
 nh:iZ K ["Hall"] "persons"
 jO:iZ K ["Hall"] "places"
 eP:iZ K ["Room"] "ranks"
 BS:iZ K ["Room"] "read_marks"
 zA:iZ K ["Room"] "said_by_key"
 Md:Bh K w mg "SETTINGS" [("door",.tup [.str "open",.str "asked"]),("voice",.tup [.str "all",.str "some"]),("past",.tup [.str "shown",.str "hidden"])]
 FH:BA K w mg "SETTINGS" ["door","voice","past"]
 Me:i7 K (.ref (clsAt K "Barred")) [("Known",false),("NoPerson",false),("NoRoom",false),("NotIn",false),("NotAsked",false),("Barred",true),("NoRight",false),("NoRow",false),("NoHand",false),("NoLine",false)]
 Pe:i7 K (.ref (clsAt K "Known")) [("Known",true),("NoPerson",false),("NoRoom",false),("NotIn",false),("NotAsked",false),("Barred",false),("NoRight",false),("NoRow",false),("NoHand",false),("NoLine",false)]
 Mf:i7 K (.ref (clsAt K "NoHand")) [("Known",false),("NoPerson",false),("NoRoom",false),("NotIn",false),("NotAsked",false),("Barred",false),("NoRight",false),("NoRow",false),("NoHand",true),("NoLine",false)]
 Mg:i7 K (.ref (clsAt K "NoLine")) [("Known",false),("NoPerson",false),("NoRoom",false),("NotIn",false),("NotAsked",false),("Barred",false),("NoRight",false),("NoRow",false),("NoHand",false),("NoLine",true)]
 FI:i7 K (.ref (clsAt K "NoPerson")) [("Known",false),("NoPerson",true),("NoRoom",false),("NotIn",false),("NotAsked",false),("Barred",false),("NoRight",false),("NoRow",false),("NoHand",false),("NoLine",false)]
 Jj:i7 K (.ref (clsAt K "NoRight")) [("Known",false),("NoPerson",false),("NoRoom",false),("NotIn",false),("NotAsked",false),("Barred",false),("NoRight",true),("NoRow",false),("NoHand",false),("NoLine",false)]
 Mh:i7 K (.ref (clsAt K "NoRoom")) [("Known",false),("NoPerson",false),("NoRoom",true),("NotIn",false),("NotAsked",false),("Barred",false),("NoRight",false),("NoRow",false),("NoHand",false),("NoLine",false)]
 Pf:i7 K (.ref (clsAt K "NoRow")) [("Known",false),("NoPerson",false),("NoRoom",false),("NotIn",false),("NotAsked",false),("Barred",false),("NoRight",false),("NoRow",true),("NoHand",false),("NoLine",false)]
 FJ:i7 K (.ref (clsAt K "NotAsked")) [("Known",false),("NoPerson",false),("NoRoom",false),("NotIn",false),("NotAsked",true),("Barred",false),("NoRight",false),("NoRow",false),("NoHand",false),("NoLine",false)]
 Pg:i7 K (.ref (clsAt K "NotIn")) [("Known",false),("NoPerson",false),("NoRoom",false),("NotIn",true),("NotAsked",false),("Barred",false),("NoRight",false),("NoRow",false),("NoHand",false),("NoLine",false)]
 BU:i7 K (.type "ValueError") [("Known",true),("NoPerson",true),("NoRoom",true),("NotIn",true),("NotAsked",true),("Barred",true),("NoRight",true),("NoRow",true),("NoHand",true),("NoLine",true)]
 Jk:mg "Barred"=some (.ref (clsAt K "Barred"))
 Mi:mg "Known"=some (.ref (clsAt K "Known"))
 Jl:mg "NoHand"=some (.ref (clsAt K "NoHand"))
 Jm:mg "NoLine"=some (.ref (clsAt K "NoLine"))
 DX:mg "NoPerson"=some (.ref (clsAt K "NoPerson"))
 FK:mg "NoRight"=some (.ref (clsAt K "NoRight"))
 Jn:mg "NoRoom"=some (.ref (clsAt K "NoRoom"))
 Mj:mg "NoRow"=some (.ref (clsAt K "NoRow"))
 DY:mg "NotAsked"=some (.ref (clsAt K "NotAsked"))
 Ml:mg "NotIn"=some (.ref (clsAt K "NotIn"))
 DZ:qY K mg "TalkError" ["Known","NoPerson","NoRoom","NotIn","NotAsked","Barred","NoRight","NoRow","NoHand","NoLine"]
 Mm:rP K mg "Barred"
 uK:rP K mg "Known"
 FL:rP K mg "NoPerson"
 AA:rP K mg "NoRight"
 Mn:rP K mg "NoRoom"
 FN:rP K mg "NotAsked"
 Ph:rP K mg "NotIn"
abbrev CS(n:Nat)(d:Df)(a b:Nat):={F:bV->Ab->Rz Out//∀{P:Program} {w:World} {K:Frag} {mg:Str->Option Value} {base:Heap},QZ K w mg->yK P w K mg base (vf P w) n d (vQ K (fk a b F))}
abbrev CP(n:Nat)(d:Df)(a b:Nat):={F:bV->Rs Out//∀{P:Program} {w:World} {K:Frag} {mg:Str->Option Value} {base:Heap},QZ K w mg->yK P w K mg base mw n d (spT K (rM a b F))}
abbrev CZ(n:Nat)(d:Df)(a b:Nat):={F:bV->Ab->Rz Out//∀{P:Program} {w:World} {K:Frag} {mg:Str->Option Value} {base:Heap},QZ K w mg->yK P w K mg base mw n d (spT K (Dc a b F))}
abbrev CR(n:Nat)(d:Df)(a b:Nat)(r:List Tr->Rs Tr):={F:bV->Rs Out//∀{P:Program} {w:World} {K:Frag} {mg:Str->Option Value} {base:Heap} {k:Nat},QZ K w mg->n<=k->yK P w K mg base mw k d (spT K r)->yK P w K mg base mw (k+1) d (spT K (rM a b F))}
abbrev KS(n:Nat)(d:Df)(m:List Tr->Ab->Rz Tr):Prop:=∀{P:Program} {w:World} {K:Frag} {mg:Str->Option Value} {base:Heap},QZ K w mg->yK P w K mg base (vf P w) n d (vQ K m)
abbrev KP(n:Nat)(d:Df)(m:List Tr->Rs Tr):Prop:=∀{P:Program} {w:World} {K:Frag} {mg:Str->Option Value} {base:Heap},QZ K w mg->yK P w K mg base mw n d (spT K m)
noncomputable def Hq:CP 1 BO 1 1:=⟨_,λT=>jZ ["role"] (T.d 0 rfl) λ_ _ _ _ _ _ _ b=>(cC (cJ (Yu (ba b) T.Pc (aR 0))))⟩
def wM:=rM 1 1 Hq.1
def ri:KP 1 BO wM:=Hq.2
noncomputable def kz:CP 2 iO 2 2:=⟨_,λT=>jZ ["self","who"] (T.d 1 rfl) λ_ _ _ _ _ _ _ b=>(cC (cJ (cf (aS (QU (eM (ri T) b (aS (bT (ba b) (du T.eP (aR 0)) (aR 1)) bb))) (aS (bT (ba b) (du T.vv (aR 0)) (aR 1)) bb)))))⟩
def iQ:=rM 2 2 kz.1
def BV:KP 2 iO iQ:=kz.2
noncomputable def gG:CS 1 jf 4 5:=⟨_,λT=>gF ["self","who","word","parts","number"] (T.d 2 rfl) λb _ _ _ _ _ _ g=>(bt (g0 (i:=4) (bj (fm iI (cO jb T.len (aS (du T.Ho (aR 0)) bb)) bD)) b) (bt (cB (Ax nD qK i8 vh (lj T.Ho (aY (aR 0))) (aX (bj (fm iI (cf (aS (aR 4) (aS (aR 1) (aS (aR 2) bb)))) (aR 3))) bE))) (bN (fb (aY (aR 4))))))⟩
def nj:=fk 4 5 gG.1
def fu:KS 1 jf nj:=gG.2
noncomputable def jx:CS 2 mn 4 4:=⟨_,λT=>gF ["self","who","word","role"] (T.d 3 rfl) λ_ _ _ _ _ _ _ b=>(bt (gU (ba b) (lj T.vv (aY (aR 0))) (aY (aR 1)) (cT (fu T) b (aY (aR 0)) (aX (aY (aR 1)) (aX (aY (aR 2)) (aX (bj (cf bb)) bE))))) (bt (gU (ba b) (lj T.eP (aY (aR 0))) (aY (aR 1)) (aY (aR 3))) (bN (cB (T2 (lj T.ng (aY (aR 0))) (aY (aR 1)) (bj gi))))))⟩
def rW:=fk 4 4 jx.1
def rX:KS 2 mn rW:=jx.2
noncomputable def gH:CS 2 jg 4 4:=⟨_,λT=>gF ["self","who","whom","role"] (T.d 4 rfl) λ_ _ _ _ _ _ _ b=>(bt (cB (cT (fu T) b (aY (aR 0)) (aX (aY (aR 1)) (aX (bj aV) (aX (bj (cf (aS (aR 2) (aS (aR 3) bb)))) bE))))) (bN (gU (ba b) (lj T.eP (aY (aR 0))) (aY (aR 2)) (aY (aR 3)))))⟩
def nr:=fk 4 4 gH.1
def nu:KS 2 jg nr:=gH.2
noncomputable def iR:CS 1 lu 2 2:=⟨_,λT=>gF ["self","who"] (T.d 5 rfl) λ_ _ _ _ _ _ _ b=>(bN (fq (cx (bF (uw (ba b)) (aR 1) (du T.eP (aR 0)))) (bN (hZ T.Ph (aX (bj (jY (dE (il (aR 1)) (dE aV oF)))) bE))) dD))⟩
def lB:=fk 2 2 iR.1
def gq:KS 1 lu lB:=iR.2
noncomputable def dN:CS 1 ip 2 3:=⟨_,λT=>gF ["self","names","name"] (T.d 6 rfl) λb _ _ _ _ _ _ g=>(bN (Hc (oE (aR 1)) (fI 2 b) (fU 2) (bN (fq (cx (bF (uw (ba g)) (aR 2) (du T.nh (aR 0)))) (bN (hZ T.FL (aX (bj (jY (dE aV (dE (il (aR 2)) oF)))) bE))) dD))))⟩
def ir:=fk 2 3 dN.1
def lC:KS 1 ip ir:=dN.2
noncomputable def kA:CS 1 iP 2 2:=⟨_,λT=>gF ["self","room"] (T.d 7 rfl) λ_ _ _ _ _ _ _ b=>(bt (fq (cx (bF (uw (ba b)) (aR 1) (du T.jO (aR 0)))) (bN (hZ T.Mn (aX (bj (jY (dE aV (dE (il (aR 1)) oF)))) bE))) dD) (bN (fb (uD (ba b) (lj T.jO (aY (aR 0))) (aY (aR 1))))))⟩
def uL:=fk 2 2 kA.1
def BW:KS 1 iP uL:=kA.2
noncomputable def eJ:CS 2 jh 3 3:=⟨_,λT=>gF ["self","names","room"] (T.d 8 rfl) λ_ _ _ _ _ _ _ b=>(bt (cB (cT (lC T) b (aY (aR 0)) (aX (aY (aR 1)) bE))) (bN (fb (cT (BW T) b (aY (aR 0)) (aX (aY (aR 2)) bE)))))⟩
def jj:=fk 3 3 eJ.1
def fw:KS 2 jh jj:=eJ.2
noncomputable def vX:CS 1 qA 2 2:=⟨_,λT=>gF ["self","who"] (T.d 9 rfl) λ_ _ _ _ _ _ _ b=>(bt (fq (cx (bF (mY (ba b)) (aR 1) (du T.nh (aR 0)))) (bN (hZ T.uK (aX (bj (jY (dE (il (aR 1)) (dE aV oF)))) bE))) dD) (bN (gU (ba b) (lj T.nh (aY (aR 0))) (aY (aR 1)) (bj yG))))⟩
def D0:=fk 2 2 vX.1
def vY:KS 1 qA D0:=vX.2
def oG:CS 3 h_ 2 2:=⟨_,λT=>gF ["self","who"] (T.d 10 rfl) λ_ _ _ _ _ _ _ b=>(bt (qv T.Ho (aY (aR 0)) (gm (yI bb))) (bt (qv T.eP (aY (aR 0)) (gm mi)) (bt (qv T.vv (aY (aR 0)) (gm mi)) (bt (qv T.uJ (aY (aR 0)) (gm (yJ (G6 rfl) T.dict (aS (Jd (N':=["what"]) (ix:=[none]) (gY.of (N:=["self","who"]) (sc:=bH h_.st) rfl rfl (by decide+kernel)) (TX T.FH) ⟨λs H ex=>⟨(fI 0 (by show List.Nodup (["what"]:List Str);decide+kernel)),Av,(cf (aS (aR 0) (aS (bT (ba b) (Yr T.Md (aR 0)) bD) bb)))⟩⟩ (fU 0)) bb)))) (bt (qv T.yX (aY (aR 0)) (gm mi)) (bt (qv T.ng (aY (aR 0)) (gm mi)) (bt (qv T.BS (aY (aR 0)) (gm mi)) (bt (qv T.zA (aY (aR 0)) (gm mi)) (bN (cB (cT (rX T) b (aY (aR 0)) (aX (aY (aR 1)) (aX (bj aV) (aX (bj aV) bE))))))))))))))⟩
def wo:=fk 2 2 oG.1
def wq:KS 3 h_ wo:=oG.2
noncomputable def oH:CS 1 j8 1 1:=⟨_,λT=>gF ["self"] (T.d 11 rfl) λ_ _ _ _ _ _ _ b=>(bt (qv T.nh (aY (aR 0)) (gm mi)) (bt (qv T.jO (aY (aR 0)) (gm mi)) (bN (qv T.Pd (aY (aR 0)) (gm (yI bb))))))⟩
def oJ:=fk 1 1 oH.1
def wt:KS 1 j8 oJ:=oH.2
noncomputable def uM:CS 5 nX 3 3:=⟨_,λT=>gF ["self","who","room"] (T.d 12 rfl) λ_ _ _ _ _ _ _ b=>(bt (cB (cT (lC T) b (aY (aR 0)) (aX (bj (cf (aS (aR 1) bb))) bE))) (bt (fq (cx (bF (mY (ba b)) (aR 2) (du T.jO (aR 0)))) (bN (hZ T.uK (aX (bj (jY (dE aV (dE (il (aR 2)) (dE aV oF))))) bE))) dD) (bN (gU (ba b) (lj T.jO (aY (aR 0))) (aY (aR 2)) (T9 (wq T) T.Ur b (aX (aY (aR 1)) bE))))))⟩
def BX:=fk 3 3 uM.1
def BY:KS 5 nX BX:=uM.2
def fj:CS 4 fi 1 3:=⟨_,λT=>gF ["self","owners","heir"] (T.d 13 rfl) λg _ _ _ _ _ _ b=>(bt (LO (i:=1) (N':=["name","self"]) (ix:=[none,some 0]) (gY.of (N:=["self","owners","heir"]) (sc:=bH fi.st) rfl rfl (by decide+kernel)) (Hb (du T.eP (aR 0))) ⟨λs H ex=>⟨(fI 0 (by show List.Nodup (["name","self"]:List Str);decide+kernel)),(vV (bF (d5 (dJ b)) (bT (ba b) (du T.eP (aR 1)) (aR 0)) aV)),(aR 0)⟩⟩ (fU 0) g) (bN (fq (cx (eY (m9 (bF So (cO jb T.len (aS (du T.eP (aR 0)) bb)) bD) (jc (bF (d5 (dJ b)) (cO jb T.len (aS (aR 1) bb)) bD))))) (bt (g0 (i:=2) (bj (L4 (BV T) T.BR b T.min (eW (OB rfl) T.list (aS (du T.eP (aR 0)) bb)) (aR 0))) g) (bN (cB (cT (nu T) b (aY (aR 0)) (aX (aY (aR 2)) (aX (aY (aR 2)) (aX (bj aV) bE))))))) dD)))⟩
def kh:=fk 1 3 fj.1
def gW:KS 4 fi kh:=fj.2
noncomputable def fJ:CS 2 iq 2 2:=⟨_,λT=>gF ["self","who"] (T.d 14 rfl) λ_ _ _ _ _ _ _ b=>(bN (fq (cx (bF Kz (eM (ri T) b (aS (bT (ba b) (du T.eP (aR 0)) (aR 1)) bb)) (eM (ri T) b (aS aV bb)))) (bN (hZ T.AA (aX (bj (jY (dE (il (aR 1)) (dE aV oF)))) bE))) dD))⟩
def lD:=fk 2 2 fJ.1
def lE:KS 2 iq lD:=fJ.2
noncomputable def ib:CP 2 j9 4 4:=⟨_,λT=>jZ ["self","who","whom","role"] (T.d 15 rfl) λ_ _ _ _ _ _ _ b=>(bQ (gj (bF (d5 (dJ b)) (bT (ba b) (du T.eP (aR 0)) (aR 1)) aV) (cC (cJ (Au aaT (cO (QN rfl) T.max (aS (eM (ri T) b (aS (bT (ba b) (du T.eP (aR 0)) (aR 2)) bb)) (aS (eM (ri T) b (aS (aR 3) bb)) bb))) (eM (ri T) b (aS aV bb))))) dU) (cC (cJ (Au (d5 (dJ b)) (bT (ba b) (du T.eP (aR 0)) (aR 1)) aV))))⟩
def oK:=rM 4 4 ib.1
def wu:KP 2 j9 oK:=ib.2
noncomputable def iT:CS 3 lx 4 4:=⟨_,λT=>gF ["self","who","what","value"] (T.d 16 rfl) λ_ _ _ _ _ _ _ b=>(bt (cB (cT (gq T) b (aY (aR 0)) (aX (aY (aR 1)) bE))) (bt (cB (cT (lE T) b (aY (aR 0)) (aX (aY (aR 1)) bE))) (bt (cB (cT (fu T) b (aY (aR 0)) (aX (aY (aR 1)) (aX (bj aV) (aX (bj (cf (aS (aR 2) (aS (aR 3) bb)))) bE))))) (bN (gU (ba b) (lj T.uJ (aY (aR 0))) (aY (aR 2)) (aY (aR 3)))))))⟩
def lF:=fk 4 4 iT.1
def yY:KS 3 lx lF:=iT.2
noncomputable def om:CS 3 sL 3 3:=⟨_,λT=>gF ["self","who","whom"] (T.d 17 rfl) λ_ _ _ _ _ _ _ b=>(bt (cB (cT (gq T) b (aY (aR 0)) (aX (aY (aR 1)) bE))) (bt (cB (cT (lE T) b (aY (aR 0)) (aX (aY (aR 1)) bE))) (bt (fq (cx (bF (mY (ba b)) (aR 2) (du T.eP (aR 0)))) (bN (hZ T.uK (aX (bj (jY (dE (il (aR 2)) (dE aV oF)))) bE))) dD) (bt (cB (cT (fu T) b (aY (aR 0)) (aX (aY (aR 1)) (aX (bj aV) (aX (bj (cf (aS (aR 2) bb))) bE))))) (bN (gU (ba b) (lj T.ng (aY (aR 0))) (aY (aR 2)) (bj yG)))))))⟩
def sN:=fk 3 3 om.1
def FO:KS 3 sL sN:=om.2
noncomputable def iy:CS 5 qB 4 4:=⟨_,λT=>gF ["self","who","whom","role"] (T.d 18 rfl) λ_ _ _ _ _ _ _ b=>(bt (cB (cT (gq T) b (aY (aR 0)) (aX (aY (aR 1)) bE))) (bt (cB (cT (gq T) b (aY (aR 0)) (aX (aY (aR 2)) bE))) (bt (fq (cx (yH (m8 (j6 (wu T) b (aR 0) (aS (aR 1) (aS (aR 2) (aS (aR 3) bb))))))) (bN (hZ T.AA (aX (bj (jY (dE (il (aR 1)) (dE aV (dE (il (aR 2)) (dE aV (dE (il (aR 3)) oF))))))) bE))) dD) (bt (fq (cx (bF (d5 (dJ b)) (bT (ba b) (du T.eP (aR 0)) (aR 2)) (aR 3))) (bN (hZ T.uK (aX (bj (jY (dE (il (aR 2)) (dE aV (dE (il (aR 3)) oF))))) bE))) dD) (bt (cB (cT (nu T) b (aY (aR 0)) (aX (aY (aR 1)) (aX (aY (aR 2)) (aX (aY (aR 3)) bE))))) (bN (cB (BG (gW T) b (aY (aR 0))))))))))⟩
def gs:=fk 4 4 iy.1
def D3:KS 5 qB gs:=iy.2
noncomputable def dR:CS 5 nY 2 2:=⟨_,λT=>gF ["self","who"] (T.d 19 rfl) λ_ _ _ _ _ _ _ b=>(bt (fq (cx (bF (mY (ba b)) (aR 1) (du T.eP (aR 0)))) (bN (hZ T.uK (aX (bj (jY (dE (il (aR 1)) (dE aV oF)))) bE))) dD) (bt (fq (cx (bF (mY (ba b)) (aR 1) (du T.yX (aR 0)))) (bN (hZ T.Mm (aX (bj (jY (dE (il (aR 1)) (dE aV oF)))) bE))) dD) (bt (fq (cx (eY (m9 (bF (d5 (dJ b)) (bT (ba b) (du T.uJ (aR 0)) aV) aV) (jc (bF (uw (ba b)) (aR 1) (du T.ng (aR 0))))))) (bN (hZ T.FN (aX (bj (jY (dE (il (aR 1)) (dE aV oF)))) bE))) dD) (bt (cB (cT (rX T) b (aY (aR 0)) (aX (aY (aR 1)) (aX (bj aV) (aX (bj aV) bE))))) (bN (cB (BG (gW T) b (aY (aR 0)))))))))⟩
def eX:=fk 2 2 dR.1
def BZ:KS 5 nY eX:=dR.2
noncomputable def gJ:CS 5 nZ 2 2:=⟨_,λT=>gF ["self","who"] (T.d 20 rfl) λ_ _ _ _ _ _ _ b=>(bt (cB (cT (gq T) b (aY (aR 0)) (aX (aY (aR 1)) bE))) (bt (cB (cT (fu T) b (aY (aR 0)) (aX (aY (aR 1)) (aX (bj aV) (aX (bj (cf bb)) bE))))) (bt (cB (LN (lj T.eP (aY (aR 0))) (aY (aR 1)))) (bN (cB (BG (gW T) b (aY (aR 0))))))))⟩
def gK:=fk 2 2 gJ.1
def B5:KS 5 nZ gK:=gJ.2
noncomputable def kB:CS 6 n5 3 3:=⟨_,λT=>gF ["self","who","room"] (T.d 21 rfl) λ_ _ _ _ _ _ _ b=>(bN (cB (cT (BZ T) b (cT (fw T) b (aY (aR 0)) (aX (bj (cf (aS (aR 1) bb))) (aX (aY (aR 2)) bE))) (aX (aY (aR 1)) bE))))⟩
def oo:=fk 3 3 kB.1
def B6:KS 6 n5 oo:=kB.2
noncomputable def kC:CS 6 n6 3 3:=⟨_,λT=>gF ["self","who","room"] (T.d 22 rfl) λ_ _ _ _ _ _ _ b=>(bN (cB (cT (B5 T) b (cT (fw T) b (aY (aR 0)) (aX (bj (cf (aS (aR 1) bb))) (aX (aY (aR 2)) bE))) (aX (aY (aR 1)) bE))))⟩
def oq:=fk 3 3 kC.1
def B7:KS 6 n6 oq:=kC.2
noncomputable def iU:CS 4 ly 5 5:=⟨_,λT=>gF ["self","who","room","what","value"] (T.d 23 rfl) λ_ _ _ _ _ _ _ b=>(bN (cB (cT (yY T) b (cT (fw T) b (aY (aR 0)) (aX (bj (cf (aS (aR 1) bb))) (aX (aY (aR 2)) bE))) (aX (aY (aR 1)) (aX (aY (aR 3)) (aX (aY (aR 4)) bE))))))⟩
def yZ:=fk 5 5 iU.1
def y0:KS 4 ly yZ:=iU.2
noncomputable def ou:CS 4 sM 4 4:=⟨_,λT=>gF ["self","who","room","whom"] (T.d 24 rfl) λ_ _ _ _ _ _ _ b=>(bN (cB (cT (FO T) b (cT (fw T) b (aY (aR 0)) (aX (bj (cf (aS (aR 1) (aS (aR 3) bb)))) (aX (aY (aR 2)) bE))) (aX (aY (aR 1)) (aX (aY (aR 3)) bE)))))⟩
def FP:=fk 4 4 ou.1
def FQ:KS 4 sM FP:=ou.2
noncomputable def l0:CS 6 qC 5 5:=⟨_,λT=>gF ["self","who","room","whom","role"] (T.d 25 rfl) λ_ _ _ _ _ _ _ b=>(bN (cB (cT (D3 T) b (cT (fw T) b (aY (aR 0)) (aX (bj (cf (aS (aR 1) (aS (aR 3) bb)))) (aX (aY (aR 2)) bE))) (aX (aY (aR 1)) (aX (aY (aR 3)) (aX (aY (aR 4)) bE))))))⟩
def D4:=fk 5 5 l0.1
def D5:KS 6 qC D4:=l0.2
noncomputable def jy:CP 1 mq 1 1:=⟨_,λT=>jZ ["self"] (T.d 26 rfl) λ_ _ _ _ _ _ _ b=>(cC (cJ (eW hX T.tuple (aS (cO (jK rfl) T.sorted (aS (du T.nh (aR 0)) bb)) bb))))⟩
def rY:=rM 1 1 jy.1
def zB:KP 1 mq rY:=jy.2
noncomputable def kD:CP 1 n8 1 1:=⟨_,λT=>jZ ["self"] (T.d 27 rfl) λ_ _ _ _ _ _ _ b=>(cC (cJ (eW hX T.tuple (aS (cO (jK rfl) T.sorted (aS (du T.jO (aR 0)) bb)) bb))))⟩
def uN:=rM 1 1 kD.1
def B8:KP 1 n8 uN:=kD.2
noncomputable def ig:CP 1 iP 2 2:=⟨_,λT=>jZ ["self","room"] (T.d 7 rfl) λ_ _ _ _ _ _ _ b=>(bQ (gj (bF (uw (ba b)) (aR 1) (du T.jO (aR 0))) (cC Yx) dU) (cC (cJ (bT (ba b) (du T.jO (aR 0)) (aR 1)))))⟩
def oM:=rM 2 2 ig.1
def fO:KP 1 iP oM:=ig.2
noncomputable def kE:CP 1 n_ 1 1:=⟨_,λT=>jZ ["self"] (T.d 28 rfl) λ_ _ _ _ _ _ _ b=>(cC (cJ (eW hX T.tuple (aS (LU T.sorted (du T.eP (aR 0))) bb))))⟩
def uO:=rM 1 1 kE.1
def B9:KP 1 n_ uO:=kE.2
noncomputable def l6:CP 1 qD 1 1:=⟨_,λT=>jZ ["self"] (T.d 29 rfl) λ_ _ _ _ _ _ _ b=>(cC (cJ (eW hX T.tuple (aS (du T.Ho (aR 0)) bb))))⟩
def vZ:=rM 1 1 l6.1
def D6:KP 1 qD vZ:=l6.2
noncomputable def jz:CP 1 mr 1 1:=⟨_,λT=>jZ ["self"] (T.d 30 rfl) λ_ _ _ _ _ _ _ b=>(cC (cJ (eW hX T.tuple (aS (cO (jK rfl) T.sorted (aS (du T.yX (aR 0)) bb)) bb))))⟩
def rZ:=rM 1 1 jz.1
def zC:KP 1 mr rZ:=jz.2
noncomputable def kF:CP 1 og 1 1:=⟨_,λT=>jZ ["self"] (T.d 31 rfl) λ_ _ _ _ _ _ _ b=>(cC (cJ (eW hX T.tuple (aS (cO (jK rfl) T.sorted (aS (du T.ng (aR 0)) bb)) bb))))⟩
def uP:=rM 1 1 kF.1
def B_:KP 1 og uP:=kF.2
noncomputable def iV:CP 1 lz 2 2:=⟨_,λT=>jZ ["self","what"] (T.d 32 rfl) λ_ _ _ _ _ _ _ b=>(cC (cJ (bT (ba b) (du T.uJ (aR 0)) (aR 1))))⟩
def qF:=rM 2 2 iV.1
def y1:KP 1 lz qF:=iV.2
noncomputable def kG:CP 2 oh 2 2:=⟨_,λT=>jZ ["self","room"] (T.d 33 rfl) λ_ _ _ _ _ _ _ b=>(cC (cJ (q_ (B9 T) b (j6 (fO T) b (aR 0) (aS (aR 1) bb)))))⟩
def uQ:=rM 2 2 kG.1
def Ca:KP 2 oh uQ:=kG.2
noncomputable def l7:CP 2 qE 2 2:=⟨_,λT=>jZ ["self","room"] (T.d 34 rfl) λ_ _ _ _ _ _ _ b=>(cC (cJ (q_ (D6 T) b (j6 (fO T) b (aR 0) (aS (aR 1) bb)))))⟩
def v5:=rM 2 2 l7.1
def D7:KP 2 qE v5:=l7.2
noncomputable def jA:CP 2 mv 2 2:=⟨_,λT=>jZ ["self","room"] (T.d 35 rfl) λ_ _ _ _ _ _ _ b=>(cC (cJ (q_ (zC T) b (j6 (fO T) b (aR 0) (aS (aR 1) bb)))))⟩
def r6:=rM 2 2 jA.1
def zD:KP 2 mv r6:=jA.2
noncomputable def kH:CP 2 oj 2 2:=⟨_,λT=>jZ ["self","room"] (T.d 36 rfl) λ_ _ _ _ _ _ _ b=>(cC (cJ (q_ (B_ T) b (j6 (fO T) b (aR 0) (aS (aR 1) bb)))))⟩
def uR:=rM 2 2 kH.1
def Cb:KP 2 oj uR:=kH.2
noncomputable def iW:CP 2 lA 3 3:=⟨_,λT=>jZ ["self","room","what"] (T.d 37 rfl) λ_ _ _ _ _ _ _ b=>(cC (cJ (j6 (y1 T) b (j6 (fO T) b (aR 0) (aS (aR 1) bb)) (aS (aR 2) bb))))⟩
def qG:=rM 3 3 iW.1
def y2:KP 2 lA qG:=iW.2
noncomputable def nv:CP 1 yP 2 2:=⟨_,λT=>jZ ["_law_room","_law_who"] (T.d 38 rfl) λ_ _ _ _ _ _ _ b=>(cC (cJ (DO (bF (mY (ba b)) (aR 1) (bT (ba b) (aR 0) aV)) (Yv (ba b) (aS aV (aS aV (aS aV (aS aV bb)))) (bT (ba b) (bT (ba b) (aR 0) aV) (aR 1))) (QU bD))))⟩
def y3:=rM 2 2 nv.1
def uS:KP 1 yP y3:=nv.2
noncomputable def D8:CP 1 yQ 1 3:=⟨_,λT=>jZ ["_law_kept","_law_kinds","_law_words_here"] (T.d 39 rfl) λb _ _ _ _ _ _ g=>(bQ (fo (i:=1) (qg (aS (mj T.Pe T.Mi T.isinstance (aR 0)) (aS (mj T.FI T.DX T.isinstance (aR 0)) bb))) b) (bQ (fo (i:=1) (fm iI (aR 1) (qg (aS (mj T.Mh T.Jn T.isinstance (aR 0)) (aS (mj T.Pg T.Ml T.isinstance (aR 0)) bb)))) b) (bQ (fo (i:=1) (fm iI (aR 1) (qg (aS (mj T.FJ T.DY T.isinstance (aR 0)) (aS (mj T.Me T.Jk T.isinstance (aR 0)) bb)))) b) (bQ (fo (i:=1) (fm iI (aR 1) (qg (aS (mj T.Jj T.FK T.isinstance (aR 0)) bb))) b) (bQ (fo (i:=1) (fm iI (aR 1) (qg (aS (mj T.Pf T.Mj T.isinstance (aR 0)) (aS (mj T.Mf T.Jl T.isinstance (aR 0)) (aS (mj T.Mg T.Jm T.isinstance (aR 0)) bb))))) b) (bQ (fo (i:=2) (cf (aS aV (aS aV (aS aV (aS aV (aS aV (aS aV bb))))))) b) (bQ (fo (i:=2) (fm iI (aR 2) (cf (aS aV (aS aV (aS aV (aS aV bb)))))) b) (bQ (gj (eY (DN (bF (Io (dJ g)) (Yt PySem.F.slot_list_count PySem.F.type_list_count (Ta (ba g)) (aR 1) yG) bD) (vU (yH (m8 (T6 T.BU T.ValueError T.isinstance (aR 0))))))) (cC (cJ aV)) dU) (cC (cJ (bT (ba g) (aR 2) (Yt PySem.F.slot_list_index PySem.F.type_list_index (S_ (ba g)) (aR 1) yG))))))))))))⟩
def y4:=rM 1 3 D8.1
def Mo:KP 1 yQ y4:=D8.2
noncomputable def AB:CS 1 vt 1 1:=⟨_,λT=>gF ["_law_people"] (T.d 40 rfl) λ_ _ _ _ _ _ _ b=>(bN (fb (LV (nV (aY aV) (gm (yJ Oo T.list (aS (aR 0) bb))) (nV (aY aV) (gm mi) Ln)))))⟩
def AD:=fk 1 1 AB.1
def Jo:KS 1 vt AD:=AB.2
noncomputable def wN:CS 1 BP 3 3:=⟨_,λT=>gF ["_law_room","_law_who","_law_parts"] (T.d 41 rfl) λ_ _ _ _ _ _ _ b=>(bt (cB (Ax nD qK i8 vh (uD (ba b) (aY (aR 0)) (bj aV)) (aX (bj (fm iI (cf (aS (fm iI (cO jb T.len (aS (bT (ba b) (aR 0) aV) bb)) bD) (aS (aR 1) bb))) (aR 2))) bE))) (bN (fb (bj (cO jb T.len (aS (bT (ba b) (aR 0) aV) bb))))))⟩
def Cc:=fk 3 3 wN.1
def uT:KS 1 BP Cc:=wN.2
def rj:CS 2 rh 3 5:=⟨_,λT=>gF ["_law_room","_law_who","_law_word_here","_law_number","_law_first"] (T.d 42 rfl) λg _ _ _ _ _ _ b=>(bt (g0 (i:=3) (g6 (uT T) b (aX (aY (aR 0)) (aX (aY (aR 1)) (aX (bj (cf (aS (aR 2) bb))) bE)))) g) (bt (g0 (i:=4) (bj (DO (bF (d5 (dJ b)) (bT (ba b) (aR 0) aV) aV) bD (aR 3))) g) (bt (cB (Ax nD qK i8 vh (uD (ba b) (aY (aR 0)) (bj aV)) (aX (bj (cf (aS (aR 1) (aS (aR 4) (aS (aR 3) (aS gi bb)))))) bE))) (bt (gU (ba b) (uD (ba b) (aY (aR 0)) (bj aV)) (aY (aR 1)) (bj aV)) (bN (gU (ba b) (aY (aR 0)) (bj aV) (gm (TZ (N':=["_law_one","_law_who"]) (ix:=[none,some 1]) (gY.of (N:=["_law_room","_law_who","_law_word_here","_law_number","_law_first"]) (sc:=bH rh.st) rfl rfl (by decide+kernel)) (oE (bT (ba b) (aR 0) aV)) ⟨λs H ex=>⟨(fI 0 (by show List.Nodup (["_law_one","_law_who"]:List Str);decide+kernel)),(vV (bF (Io (dJ b)) (aR 0) (aR 1))),(aR 0)⟩⟩ (fU 0)))))))))⟩
def vx:=fk 3 5 rj.1
def AE:KS 2 rh vx:=rj.2
def uU:CS 1 uG 3 3:=⟨_,λT=>gF ["_law_room","_law_who","_law_number"] (T.d 43 rfl) λ_ _ _ _ _ _ _ b=>(bt (cB (LN (uD (ba b) (aY (aR 0)) (bj aV)) (aY (aR 1)))) (bN (gU (ba b) (aY (aR 0)) (bj aV) (gm (TZ (N':=["_law_stay","_law_who","_law_number"]) (ix:=[none,some 1,some 2]) (gY.of (N:=["_law_room","_law_who","_law_number"]) (sc:=bH uG.st) rfl rfl (by decide+kernel)) (oE (bT (ba b) (aR 0) aV)) ⟨λs H ex=>⟨(fI 0 (by show List.Nodup (["_law_stay","_law_who","_law_number"]:List Str);decide+kernel)),Av,(DO (eY (m9 (bF (d5 (dJ b)) (bT (ba b) (aR 0) bD) (aR 1)) (jc (bF C6 (bT (ba b) (aR 0) bD) gi)))) (fm iI (vW (aR 0) qj (qm bD)) (cf (aS (aR 2) bb))) (aR 0))⟩⟩ (fU 0))))))⟩
def y6:=fk 3 3 uU.1
def D9:KS 1 uG y6:=uU.2
noncomputable def wO:CP 1 BQ 3 4:=⟨_,λT=>jZ ["_law_cell_here","_law_prime","_law_many","_law_blend"] (T.d 44 rfl) λb _ _ _ _ _ _ g=>(bQ (fo (i:=3) (fm CY (fm Kx (aR 0) bD) (aR 1)) b) (cC (cJ (fm CY (fm CY (fm Kx (aR 3) (fm iI (aR 3) bD)) (aR 1)) (aR 2)))))⟩
def Hr:=rM 3 4 wO.1
def jB:KP 1 BQ Hr:=wO.2
noncomputable def D_:CP 1 yR 2 2:=⟨_,λT=>jZ ["_law_script","_law_k"] (T.d 45 rfl) λ_ _ _ _ _ _ _ b=>(bQ (gj (bF Kz (aR 1) (cO jb T.len (aS (aR 0) bb))) (cC (cJ (bT (ba b) (aR 0) (aR 1)))) dU) (cC (cJ bD)))⟩
def Ea:=rM 2 2 D_.1
def Mp:KP 1 yR Ea:=D_.2
def rn:CS 2 kI 1 3:=⟨_,λT=>gF ["_law_room","_law_most","_law_there"] (T.d 46 rfl) λg _ _ _ _ _ _ b=>(bt (fq (cx (eY (DN (yH (m8 (bT (ba b) (aR 0) aV))) (vU (bF (mY (ba b)) aV (QV (N':=["_law_who","_law_room"]) (ix:=[none,some 0]) (gY.of (N:=["_law_room","_law_most","_law_there"]) (sc:=bH kI.st) rfl rfl (by decide+kernel)) (Hb (bT (ba b) (aR 0) aV)) ⟨λs H ex=>⟨(fI 0 (by show List.Nodup (["_law_who","_law_room"]:List Str);decide+kernel)),Av,(bT (ba b) (bT (ba b) (aR 1) aV) (aR 0))⟩⟩ (fU 0))))))) (bN TY) dD) (bt (g0 (i:=1) (bj (cO (QN rfl) T.max (aS (QV (N':=["_law_who","_law_room"]) (ix:=[none,some 0]) (gY.of (N:=["_law_room","_law_most","_law_there"]) (sc:=bH kI.st) rfl rfl (by decide+kernel)) (Hb (bT (ba b) (aR 0) aV)) ⟨λs H ex=>⟨(fI 0 (by show List.Nodup (["_law_who","_law_room"]:List Str);decide+kernel)),Av,(eM (uS T) b (aS (aR 1) (aS (aR 0) bb)))⟩⟩ (fU 0)) bb))) g) (bt (OU (i:=2) (N':=["_law_stay","_law_most","_law_room"]) (ix:=[none,some 1,some 0]) (gY.of (N:=["_law_room","_law_most","_law_there"]) (sc:=bH kI.st) rfl rfl (by decide+kernel)) (oE (bT (ba b) (aR 0) aV)) ⟨λs H ex=>⟨(fI 0 (by show List.Nodup (["_law_stay","_law_most","_law_room"]:List Str);decide+kernel)),(vV (eY (m9 (bF C6 (bT (ba b) (aR 0) bD) gi) (jc (bF (d5 (dJ b)) (eM (uS T) b (aS (aR 2) (aS (bT (ba b) (aR 0) bD) bb))) (aR 1)))))),(bT (ba b) (aR 0) bD)⟩⟩ (fU 0) g) (bt (gU (ba b) (uD (ba b) (aY (aR 0)) (bj aV)) (bj (bT (ba b) (aR 2) bD)) (bj aV)) (bN (cB (g6 (uT T) b (aX (aY (aR 0)) (aX (bj (bT (ba b) (aR 2) bD)) (aX (bj (cf (aS aV (aS (bT (ba b) (aR 2) bD) (aS aV bb))))) bE))))))))))⟩
def kJ:=fk 1 3 rn.1
def Jp:KS 2 kI kJ:=rn.2
def fB:CS 2 lZ 2 6:=⟨_,λT=>gF ["_law_room","_law_deed_here","_law_word_here","_law_who","_law_names","_law_number"] (T.d 47 rfl) λg _ _ _ _ _ _ b=>(bt (QX (Ha (is:=[2,3]) (qi (i:=2) (qi (i:=3) G_ g) g)) (ES [2,3]) (bj (vW (aR 1) qj (qm bD)))) (bt (g0 (i:=4) (gm (yJ (G6 rfl) T.dict (aS (qg (aS (cf (aS aV (aS aV bb))) (aS (cf (aS aV (aS aV bb))) bb))) bb))) g) (bt (g0 (i:=5) (g6 (uT T) b (aX (aY (aR 0)) (aX (aY (aR 3)) (aX (bj (fm iI (cf (aS (LM (ba b) (aR 4) (aR 2) (aR 2)) bb)) (vW (aR 1) (qm bD) qj))) bE)))) g) (bt (fq (cx (bF (d5 (dJ b)) (aR 2) aV)) (bN (gU (ba b) (aY (aR 0)) (bj (bT (ba b) (aR 1) bD)) (bj (bT (ba b) (aR 1) bD)))) dD) (bt (fq (cx (bF (d5 (dJ b)) (aR 2) aV)) (bN (cB (Ax nD qK i8 vh (uD (ba b) (aY (aR 0)) (bj aV)) (aX (bj (bT (ba b) (aR 1) bD)) bE)))) dD) (bt (fq (cx (bF (d5 (dJ b)) (aR 2) aV)) (bN (gU (ba b) (uD (ba b) (aY (aR 0)) (bj aV)) (bj (bT (ba b) (aR 1) bD)) (bj (bT (ba b) (aR 1) bD)))) dD) (bt (fq (cx (bF (d5 (dJ b)) (aR 2) aV)) (bN (cB (Ax nD qK i8 vh (uD (ba b) (aY (aR 0)) (bj aV)) (aX (bj (bT (ba b) (aR 1) bD)) bE)))) dD) (bt (fq (cx (bF (d5 (dJ b)) (aR 2) aV)) (bN (gU (ba b) (aY (aR 0)) (bj aV) (gm (TZ (N':=["_law_one","_law_deed_here"]) (ix:=[none,some 1]) (gY.of (N:=["_law_room","_law_deed_here","_law_word_here","_law_who","_law_names","_law_number"]) (sc:=bH lZ.st) rfl rfl (by decide+kernel)) (oE (bT (ba b) (aR 0) aV)) ⟨λs H ex=>⟨(fI 0 (by show List.Nodup (["_law_one","_law_deed_here"]:List Str);decide+kernel)),(vV (bF (Io (dJ b)) (aR 0) (bT (ba b) (aR 1) bD))),(aR 0)⟩⟩ (fU 0))))) dD) (bN (fq (cx (eY (m9 (bF (mY (ba b)) (aR 2) (cf (aS aV (aS aV bb)))) (jc (bF (mY (ba b)) (bT (ba b) (aR 1) bD) (bT (ba b) (aR 0) aV)))))) (bN (cB (g6 (D9 T) b (aX (aY (aR 0)) (aX (bj (bT (ba b) (aR 1) bD)) (aX (aY (aR 5)) bE)))))) dD))))))))))⟩
def jP:=fk 2 6 fB.1
def Eb:KS 2 lZ jP:=fB.2
noncomputable def jQ:CS 3 yS 2 5:=⟨_,λT=>gF ["_law_model","_law_deed_here","_law_word_here","_law_who","_law_room"] (T.d 48 rfl) λg _ _ _ _ _ _ b=>(bt (QX (Ha (is:=[2,3]) (qi (i:=2) (qi (i:=3) G_ g) g)) (ES [2,3]) (bj (vW (aR 1) qj (qm bD)))) (bt (fq (cx (bF (d5 (dJ b)) (aR 2) aV)) (bt (cB (Ax nD qK i8 vh (uD (ba b) (aY (aR 0)) (bj aV)) (aX (aY (aR 3)) bE))) (bN (fb (bj gi)))) dD) (bt (fq (cx (bF (d5 (dJ b)) (aR 2) aV)) (bt (g0 (i:=4) (LV (nV (aY aV) (gm (yI bb)) (nV (aY aV) (gm mi) (nV (aY aV) (gm (yI bb)) (nV (aY aV) (gm (yI bb)) (nV (aY aV) (gm (yI bb)) Ln)))))) g) (bt (cB (Yy (aY (aR 4)) (aY (LL (BF aV aV (BF aV aV (BF aV aV Qk))))))) (bt (gU (ba b) (uD (ba b) (aY (aR 0)) (bj aV)) (bj (bT (ba b) (aR 1) bD)) (aY (aR 4))) (bt (cB (g6 (AE T) b (aX (aY (aR 4)) (aX (aY (aR 3)) (aX (bj aV) bE))))) (bt (gU (ba b) (uD (ba b) (aY (aR 4)) (bj aV)) (aY (aR 3)) (bj aV)) (bN (fb (bj gi)))))))) dD) (bt (g0 (i:=4) (uD (ba b) (uD (ba b) (aY (aR 0)) (bj aV)) (bj (bT (ba b) (aR 1) bD))) g) (bt (fq (cx (bF (d5 (dJ b)) (aR 2) aV)) (bN (fb (g6 (uT T) b (aX (aY (aR 4)) (aX (aY (aR 3)) (aX (bj (fm iI (vW (aR 1) qj (qm bD)) (vW (aR 1) (qm bD) qj))) bE)))))) dD) (bt (fq (cx (bF (d5 (dJ b)) (aR 2) aV)) (bN (cB (g6 (AE T) b (aX (aY (aR 4)) (aX (aY (aR 3)) (aX (bj aV) bE)))))) (bN (fq (cx (bF (d5 (dJ b)) (aR 2) aV)) (bN (cB (g6 (D9 T) b (aX (aY (aR 4)) (aX (aY (aR 3)) (aX (g6 (uT T) b (aX (aY (aR 4)) (aX (aY (aR 3)) (aX (bj (cf (aS aV bb))) bE)))) bE)))))) (bN (cB (g6 (Eb T) b (aX (aY (aR 4)) (aX (aY (aR 1)) bE)))))))) (bt (cB (g6 (Jp T) b (aX (aY (aR 4)) bE))) (bN (fb (bj gi))))))))))⟩
def ny:=fk 2 5 jQ.1
def Ec:KS 3 yS ny:=jQ.2
noncomputable def dw:CP 2 ji 2 6:=⟨_,λT=>jZ ["_law_room","_law_deed_here","_law_word_here","_law_who","_law_mine","_law_yours"] (T.d 49 rfl) λg _ _ _ _ _ _ b=>(bQ (Yq (Ha (is:=[2,3]) (qi (i:=2) (qi (i:=3) G_ g) g)) (vW (aR 1) qj (qm bD))) (bQ (fo (i:=4) (eM (uS T) b (aS (aR 0) (aS (aR 3) bb))) g) (bQ (fo (i:=5) (eM (uS T) b (aS (aR 0) (aS (bT (ba b) (aR 1) bD) bb))) g) (bQ (gj (eY (m9 (bF (mY (ba b)) (aR 2) (cf (aS aV (aS aV bb)))) (jc (bF Kz (aR 5) bD)))) (cC (cJ aV)) dU) (bQ (gj (bF (d5 (dJ b)) (aR 2) aV) (bQ (gj (eY (DN (bF Kz (aR 4) bD) (vU (eY (m9 (bF (d5 (dJ b)) (aR 4) bD) (jc (eY (DN (bF So (aR 5) bD) (vU (bF (mY (ba b)) (bT (ba b) (aR 1) bD) (cf (aS aV (aS aV bb))))))))))))) (cC (cJ aV)) dU) (cC (cJ (DO (bF (d5 (dJ b)) (bT (ba b) (bT (ba b) (aR 0) aV) (bT (ba b) (aR 1) bD)) (bT (ba b) (aR 1) bD)) aV gi)))) dU) (bQ (gj (eY (DN (bF Kz (aR 4) bD) (vU (eY (m9 (bF (mY (ba b)) (aR 2) (cf (aS aV (aS aV bb)))) (jc (bF WM (aR 5) (aR 4)))))))) (cC (cJ aV)) dU) (bQ (gj (eY (DN (eY (m9 (bF (d5 (dJ b)) (aR 2) aV) (jc (bF WM (aR 5) bD)))) (vU (eY (m9 (bF (d5 (dJ b)) (aR 2) aV) (jc (bF (mY (ba b)) (bT (ba b) (aR 1) bD) (bT (ba b) (aR 0) aV)))))))) (cC (cJ aV)) dU) (bQ (gj (eY (m9 (bF (d5 (dJ b)) (aR 2) aV) (jc (bF (uw (ba b)) (bT (ba b) (aR 1) bD) (bT (ba b) (aR 0) aV))))) (cC (cJ aV)) dU) (cC (cJ gi))))))))))⟩
def fy:=rM 2 6 dw.1
def vy:KP 2 ji fy:=dw.2
def iz:CP 3 jM 2 5:=⟨_,λT=>jZ ["_law_model","_law_deed_here","_law_word_here","_law_some","_law_room"] (T.d 50 rfl) λg _ _ _ _ _ _ b=>(bQ (fo (i:=2) (bT (ba b) (aR 1) bD) g) (bQ (gj (bF (d5 (dJ b)) (aR 2) aV) (cC (cJ (DO (bF (mY (ba b)) (bT (ba b) (aR 1) bD) (bT (ba b) (aR 0) aV)) aV gi))) dU) (bQ (fo (i:=3) (fm iI (qg (aS (bT (ba b) (aR 1) bD) bb)) (Jd (N':=["_law_k","_law_deed_here","_law_word_here"]) (ix:=[none,some 1,some 2]) (gY.of (N:=["_law_model","_law_deed_here","_law_word_here","_law_some","_law_room"]) (sc:=bH jM.st) rfl rfl (by decide+kernel)) (oE (cf (aS bD bb))) ⟨λs H ex=>⟨(fI 0 (by show List.Nodup (["_law_k","_law_deed_here","_law_word_here"]:List Str);decide+kernel)),(vV (bF (mY (ba b)) (aR 2) (cf (aS aV (aS aV (aS aV (aS aV (aS aV bb)))))))),(bT (ba b) (aR 1) (aR 0))⟩⟩ (fU 0))) g) (bQ (gj (m8 (Jd (N':=["_law_who","_law_model"]) (ix:=[none,some 0]) (gY.of (N:=["_law_model","_law_deed_here","_law_word_here","_law_some","_law_room"]) (sc:=bH jM.st) rfl rfl (by decide+kernel)) (oE (aR 3)) ⟨λs H ex=>⟨(fI 0 (by show List.Nodup (["_law_who","_law_model"]:List Str);decide+kernel)),(vV (bF (uw (ba b)) (aR 0) (bT (ba b) (aR 1) aV))),(aR 0)⟩⟩ (fU 0))) (cC (cJ aV)) dU) (bQ (fo (i:=4) (TQ (ba b) (bT (ba b) (aR 0) aV) (bT (ba b) (aR 1) bD)) g) (bQ (gj (bF (d5 (dJ b)) (aR 2) aV) (cC (cJ (DO (bF C6 (aR 4) gi) gi aV))) dU) (bQ (gj (bF C6 (aR 4) gi) (cC (cJ aV)) dU) (bQ (gj (bF (d5 (dJ b)) (aR 2) aV) (bQ (gj (bF (mY (ba b)) (bT (ba b) (aR 1) bD) (bT (ba b) (aR 4) aV)) (cC (cJ aV)) dU) (bQ (gj (bF (mY (ba b)) (bT (ba b) (aR 1) bD) (bT (ba b) (aR 4) aV)) (cC (cJ aV)) dU) (cC (cJ (DO (eY (m9 (bF (d5 (dJ b)) (bT (ba b) (aR 4) aV) aV) (jc (bF (uw (ba b)) (bT (ba b) (aR 1) bD) (bT (ba b) (aR 4) aV))))) aV gi))))) dU) (bQ (gj (bF (uw (ba b)) (bT (ba b) (aR 1) bD) (bT (ba b) (aR 4) aV)) (cC (cJ aV)) dU) (bQ (gj (bF (mY (ba b)) (aR 2) (cf (aS aV (aS aV (aS aV bb))))) (cC (cJ LR)) dU) (cC (cJ (DO (bF (d5 (dJ b)) (aR 2) aV) gi (eM (vy T) b (aS (aR 4) (aS (aR 1) bb))))))))))))))))⟩
def fD:=rM 2 5 iz.1
def Ed:KP 3 jM fD:=iz.2
def uV:CP 2 uH 3 12:=⟨_,λT=>jZ ["_law_cell_here","_law_model","_law_words_here","_law_names","_law_who","_law_whom","_law_room","_law_word_here","_law_some","_law_there","_law_number","_law_said_here"] (T.d 51 rfl) λg _ _ _ _ _ _ b=>(bQ (fo (i:=3) (cf (aS aV (aS aV (aS aV (aS aV (aS aV bb)))))) g) (bQ (gj (bF (d5 (dJ b)) (eM (jB T) b (aS (aR 0) (aS bD (aS bD bb)))) bD) (cC (fo (i:=3) (cf (aS aV (aS aV (aS aV bb)))) g)) dU) (bQ (fo (i:=4) (bT (ba b) (aR 3) (eM (jB T) b (aS (aR 0) (aS bD (aS (cO jb T.len (aS (aR 3) bb)) bb))))) g) (bQ (fo (i:=5) (bT (ba b) (aR 3) (eM (jB T) b (aS (aR 0) (aS bD (aS (cO jb T.len (aS (aR 3) bb)) bb))))) g) (bQ (fo (i:=6) (bT (ba b) (cf (aS aV (aS aV (aS aV (aS aV bb))))) (eM (jB T) b (aS (aR 0) (aS bD (aS bD bb))))) g) (bQ (fo (i:=7) (bT (ba b) (aR 2) (eM (jB T) b (aS (aR 0) (aS bD (aS (cO jb T.len (aS (aR 2) bb)) bb))))) g) (bQ (gj (bF (mY (ba b)) (aR 7) (cf (aS aV (aS aV (aS aV (aS aV bb)))))) (cC (cJ (vW (cf (aS (aR 7) (aS (aR 4) (aS (aR 6) bb)))) qj (qm (fm iI bD (eW XR T.int (aS (Au (Io (dJ b)) (aR 7) aV) bb))))))) dU) (bQ (gj (bF (d5 (dJ b)) (aR 7) aV) (bQ (fo (i:=8) (qg (aS (cf (aS aV (aS aV bb))) (aS (cf (aS aV (aS aV bb))) (aS (cf (aS aV (aS aV bb))) bb)))) g) (bQ (fo (i:=8) (fm iI (aR 8) (qg (aS (cf (aS aV (aS aV bb))) (aS (cf (aS aV (aS aV bb))) (aS (cf (aS aV (aS aV bb))) bb))))) g) (cC (cJ (fm iI (cf (aS (aR 7) (aS (aR 4) (aS (aR 6) bb)))) (bT (ba b) (aR 8) (eM (jB T) b (aS (aR 0) (aS bD (aS bD bb)))))))))) dU) (bQ (gj (bF (d5 (dJ b)) (aR 7) aV) (cC (cJ (cf (aS (aR 7) (aS (aR 4) (aS (aR 6) (aS (aR 5) (aS (bT (ba b) (cf (aS aV (aS aV (aS aV (aS aV bb))))) (eM (jB T) b (aS (aR 0) (aS bD (aS bD bb))))) bb)))))))) dU) (bQ (gj (bF (mY (ba b)) (aR 7) (cf (aS aV (aS aV (aS aV (aS aV bb)))))) (cC (cJ (cf (aS (aR 7) (aS (aR 4) (aS (aR 6) (aS (aR 5) bb))))))) dU) (bQ (fo (i:=9) (bT (ba b) (LM (ba b) (bT (ba b) (aR 1) aV) (aR 6) (LL (BF aV (qg bb) Qk))) aV) g) (bQ (fo (i:=10) (eM (jB T) b (aS (aR 0) (aS bD (aS (fm iI (cO jb T.len (aS (aR 9) bb)) bD) bb)))) g) (bQ (OS (i:=11) (N':=["_law_row_here"]) (ix:=[none]) (gY.of (N:=["_law_cell_here","_law_model","_law_words_here","_law_names","_law_who","_law_whom","_law_room","_law_word_here","_law_some","_law_there","_law_number","_law_said_here"]) (sc:=bH uH.st) rfl rfl (by decide+kernel)) (oE (aR 9)) ⟨λs H ex=>⟨(fI 0 (by show List.Nodup (["_law_row_here"]:List Str);decide+kernel)),(vV (bF (d5 (dJ b)) (bT (ba b) (aR 0) bD) aV)),(bT (ba b) (aR 0) bD)⟩⟩ (fU 0) g) (bQ (gj (eY (m9 (m8 (aR 11)) (jc (bF So (fm CY (aR 0) bD) bD)))) (cC (fo (i:=10) (bT (ba b) (aR 11) (eM (jB T) b (aS (aR 0) (aS bD (aS (cO jb T.len (aS (aR 11) bb)) bb))))) g)) dU) (bQ (gj (bF (d5 (dJ b)) (aR 7) aV) (cC (cJ (cf (aS (aR 7) (aS (aR 4) (aS (aR 6) (aS LR (aS (bT (ba b) (cf (aS gi (aS gi (aS (aR 10) bb)))) (eM (jB T) b (aS (aR 0) (aS bD (aS bD bb))))) bb)))))))) dU) (bQ (gj (bF (d5 (dJ b)) (aR 7) aV) (cC (cJ (cf (aS (aR 7) (aS (aR 4) (aS (aR 6) (aS (aR 10) (aS LR bb)))))))) dU) (cC (cJ (cf (aS (aR 7) (aS (aR 4) (aS (aR 6) (aS (aR 10) bb)))))))))))))))))))))))⟩
def Ee:=rM 3 12 uV.1
def Mq:KP 2 uH Ee:=uV.2
noncomputable def fP:CS 7 yT 2 3:=⟨_,λT=>gF ["_law_hall_here","_law_deed_here","_law_word_here"] (T.d 52 rfl) λg _ _ _ _ _ _ b=>(bt (g0 (i:=2) (bj (bT (ba b) (aR 1) bD)) g) (bt (fq (cx (bF (d5 (dJ b)) (aR 2) aV)) (bN (fb (cT (vY T) b (aY (aR 0)) (aX (bj (bT (ba b) (aR 1) bD)) bE)))) dD) (bt (fq (cx (bF (d5 (dJ b)) (aR 2) aV)) (bN (fb (cT (BY T) b (aY (aR 0)) (aX (bj (bT (ba b) (aR 1) bD)) (aX (bj (bT (ba b) (aR 1) bD)) bE))))) dD) (bt (fq (cx (bF (d5 (dJ b)) (aR 2) aV)) (bN (fb (cT (B6 T) b (aY (aR 0)) (aX (bj (bT (ba b) (aR 1) bD)) (aX (bj (bT (ba b) (aR 1) bD)) bE))))) dD) (bt (fq (cx (bF (d5 (dJ b)) (aR 2) aV)) (bN (fb (cT (B7 T) b (aY (aR 0)) (aX (bj (bT (ba b) (aR 1) bD)) (aX (bj (bT (ba b) (aR 1) bD)) bE))))) dD) (bt (fq (cx (bF (d5 (dJ b)) (aR 2) aV)) (bN (fb (cT (y0 T) b (aY (aR 0)) (aX (bj (bT (ba b) (aR 1) bD)) (aX (bj (bT (ba b) (aR 1) bD)) (aX (bj (bT (ba b) (aR 1) bD)) (aX (bj (bT (ba b) (aR 1) bD)) bE))))))) dD) (bt (fq (cx (bF (d5 (dJ b)) (aR 2) aV)) (bN (fb (cT (FQ T) b (aY (aR 0)) (aX (bj (bT (ba b) (aR 1) bD)) (aX (bj (bT (ba b) (aR 1) bD)) (aX (bj (bT (ba b) (aR 1) bD)) bE)))))) dD) (bt (fq (cx (bF (d5 (dJ b)) (aR 2) aV)) (bN (fb (cT (D5 T) b (aY (aR 0)) (aX (bj (bT (ba b) (aR 1) bD)) (aX (bj (bT (ba b) (aR 1) bD)) (aX (bj (bT (ba b) (aR 1) bD)) (aX (bj (bT (ba b) (aR 1) bD)) bE))))))) dD) (bt (fq (cx (bF (d5 (dJ b)) (aR 2) aV)) (bN (fb Aw)) dD) (bt (fq (cx (bF (d5 (dJ b)) (aR 2) aV)) (bN (fb Aw)) dD) (bt (fq (cx (bF (d5 (dJ b)) (aR 2) aV)) (bN (fb Aw)) dD) (bt (fq (cx (bF (d5 (dJ b)) (aR 2) aV)) (bN (fb Aw)) dD) (bt (fq (cx (bF (d5 (dJ b)) (aR 2) aV)) (bN (fb Aw)) dD) (bN (fb Aw)))))))))))))))⟩
def fQ:=fk 2 3 fP.1
def Ef:KS 7 yT fQ:=fP.2
noncomputable def nz:CS 8 yU 2 5:=⟨_,λT=>gF ["_law_hall_here","_law_deed_here","_law_kept","_law_answer","e"] (T.d 53 rfl) λb _ _ _ _ _ _ g=>(bt (g0 (i:=2) (bj gi) b) (bt (g0 (i:=3) (bj gi) b) (bt (T_ 5 (i:=4) T.DZ (λpn l=>(bN (g0 (i:=3) (g6 (Ef T) g (aX (aY (aR 0)) (aX (aY (aR 1)) bE))) b))) (λpn e=>(bN (g0 (i:=2) (aY (aR 4)) b))) b) (bt (fq (cx (bF C6 (aR 2) gi)) (bN (fb (aY (aR 3)))) dD) (bN (fb (bj (eM (Mo T) g (aS (aR 2) bb)))))))))⟩
def qH:=fk 2 5 nz.1
def Mr:KS 8 yU qH:=nz.2
def uW(r:List Tr->Rs Tr):CR 0 uI 2 2 r:=⟨_,λT g G=>jZ ["_law_found","_law_due"] (T.d 54 rfl) λ_ _ _ _ _ _ _ b=>(bQ (gj (m8 (cO zY T.isinstance (aS (aR 1) (aS (DM T.tuple) bb)))) (bQ (gj (eY (DN (yH (m8 (cO zY T.isinstance (aS (aR 0) (aS (DM T.tuple) bb))))) (vU (bF (Io (dJ b)) (cO jb T.len (aS (aR 0) bb)) (cO jb T.len (aS (aR 1) bb)))))) (cC (cJ yG)) dU) (cC (cJ (cO (WU rfl) T.all (aS (Jd (N':=["_law_one","_law_other"]) (ix:=[none,none]) (gY.of (N:=["_law_found","_law_due"]) (sc:=bH uI.st) rfl rfl (by decide+kernel)) (Ys T.zip (aS (aR 0) (aS (aR 1) bb))) ⟨λs H ex=>⟨(Ha (is:=[0,1]) (qi (i:=0) (qi (i:=1) G_ (by show List.Nodup (["_law_one","_law_other"]:List Str);decide+kernel)) (by show List.Nodup (["_law_one","_law_other"]:List Str);decide+kernel))),Av,(eM G b (aS (aR 0) (aS (aR 1) bb)))⟩⟩ (ES [0,1])) bb))))) dU) (bQ (gj (bF C6 (aR 1) gi) (cC (cJ (Au C6 (aR 0) gi))) dU) (bQ (gj (eY (DN (m8 (cO zY T.isinstance (aS (aR 1) (aS (DM T.bool) bb)))) (vU (m8 (cO zY T.isinstance (aS (aR 0) (aS (DM T.bool) bb))))))) (cC (cJ (LJ (cO zY T.isinstance (aS (aR 1) (aS (DM T.bool) bb))) (LJ (cO zY T.isinstance (aS (aR 0) (aS (DM T.bool) bb))) (QR (Au (d5 (dJ b)) (aR 0) (aR 1))))))) dU) (cC (cJ (LJ (cO S6 T.isinstance (aS (aR 0) (aS (cf (aS (DM T.int) (aS (DM T.str) bb))) bb))) (QR (Au (d5 (dJ b)) (aR 0) (aR 1)))))))))⟩
def fA:Nat->List Tr->Rs Tr
 |0=>λ_=>.bad
 |n+1=>rM 2 2 (uW (fA n)).1
theorem kK{P:Program}{w:World}{K:Frag}{mg:Str->Option Value}{base:Heap}(T:QZ K w mg):∀n:Nat,yK P w K mg base mw (0+n) uI (spT K (fA n))
 |0=>abi (T.d 54 rfl)
 |n+1=>(uW _).2 T (mH ..) (kK T n)
noncomputable def nA:CS 9 yV 3 4:=⟨_,λT=>gF ["_law_hall_here","_law_model","_law_deed_here","_law_due"] (T.d 55 rfl) λg _ _ _ _ _ _ b=>(bt (g0 (i:=3) (bj (eM (Ed T) b (aS (aR 1) (aS (aR 2) bb)))) g) (bt (fq (cx (bF C6 (aR 3) gi)) (bN (g0 (i:=3) (g6 (Ec T) b (aX (aY (aR 1)) (aX (aY (aR 2)) bE))) g)) dD) (bN (fb (g6 (kK T 5).toZ b (aX (g6 (Mr T) b (aX (aY (aR 0)) (aX (aY (aR 2)) bE))) (aX (aY (aR 3)) bE)))))))⟩
def jR:=fk 3 4 nA.1
def Eg:KS 9 yV jR:=nA.2
noncomputable def Eh:CS 8 yW 2 4:=⟨_,λT=>gF ["_law_hall_here","_law_model","_law_who","_law_deed_here"] (T.d 56 rfl) λg _ _ _ _ _ _ b=>(bt (Hc (oE (cf (aS aV (aS aV (aS aV (aS aV (aS aV bb))))))) (fI 2 g) (fU 2) (bN (cB (cT (vY T) b (aY (aR 0)) (aX (aY (aR 2)) bE))))) (bN (Hc (oE (cf (aS (cf (aS aV (aS aV (aS aV bb)))) (aS (cf (aS aV (aS aV (aS aV bb)))) (aS (cf (aS aV (aS aV (aS aV bb)))) (aS (cf (aS aV (aS aV (aS aV bb)))) bb)))))) (fI 3 g) (fU 3) (bt (cB (g6 (Ef T) b (aX (aY (aR 0)) (aX (aY (aR 3)) bE)))) (bN (cB (g6 (Ec T) b (aX (aY (aR 1)) (aX (aY (aR 3)) bE)))))))))⟩
def Ei:=fk 2 4 Eh.1
def Ms:KS 8 yW Ei:=Eh.2
def vz:CP 6 nc 2 6:=⟨_,λT=>jZ ["_law_hall_here","_law_model","_law_name","_law_room","_law_roles","_law_due"] (T.d 57 rfl) λg _ _ _ _ _ _ b=>(bQ (TR (Hb (bT (ba b) (aR 1) aV)) (fI 2 g) (bQ (fo (i:=3) (bT (ba b) (bT (ba b) (aR 1) aV) (aR 2)) g) (bQ (fo (i:=4) (eW hX T.tuple (aS (Jd (N':=["_law_who","_law_room"]) (ix:=[none,some 3]) (gY.of (N:=["_law_hall_here","_law_model","_law_name","_law_room","_law_roles","_law_due"]) (sc:=bH nc.st) rfl rfl (by decide+kernel)) (oE (cO (jK rfl) T.sorted (aS (bT (ba b) (aR 3) aV) bb))) ⟨λs H ex=>⟨(fI 0 (by show List.Nodup (["_law_who","_law_room"]:List Str);decide+kernel)),Av,(cf (aS (aR 0) (aS (bT (ba b) (bT (ba b) (aR 1) aV) (aR 0)) bb)))⟩⟩ (fU 0)) bb)) g) (bQ (gj (yH (m8 (eM (kK T 5) b (aS (cf (aS (j6 (D7 T) b (aR 0) (aS (aR 2) bb)) (aS (j6 (Ca T) b (aR 0) (aS (aR 2) bb)) bb))) (aS (cf (aS (eW hX T.tuple (aS (bT (ba b) (aR 3) aV) bb)) (aS (aR 4) bb))) bb))))) (cC (cJ yG)) dU) (bQ (gj (yH (m8 (eM (kK T 5) b (aS (j6 (zD T) b (aR 0) (aS (aR 2) bb)) (aS (eW hX T.tuple (aS (cO (jK rfl) T.sorted (aS (bT (ba b) (aR 3) aV) bb)) bb)) bb))))) (cC (cJ yG)) dU) (bQ (gj (yH (m8 (eM (kK T 5) b (aS (j6 (Cb T) b (aR 0) (aS (aR 2) bb)) (aS (eW hX T.tuple (aS (TV T.sorted T.set (bT (ba b) (aR 3) aV)) bb)) bb))))) (cC (cJ yG)) dU) (cC (gj (m8 (Jd (N':=["_law_what","_law_name","_law_room","_law_hall_here"]) (ix:=[none,some 2,some 3,some 0]) (gY.of (N:=["_law_hall_here","_law_model","_law_name","_law_room","_law_roles","_law_due"]) (sc:=bH nc.st) rfl rfl (by decide+kernel)) (oE (cf (aS aV (aS aV (aS aV bb))))) ⟨λs H ex=>⟨(fI 0 (by show List.Nodup (["_law_what","_law_name","_law_room","_law_hall_here"]:List Str);decide+kernel)),(vV (bF (Io (dJ b)) (j6 (y2 T) b (aR 3) (aS (aR 1) (aS (aR 0) bb))) (bT (ba b) (aR 2) (aR 0)))),bD⟩⟩ (fU 0))) (cC (cJ yG)) dU)))))))) (bQ (fo (i:=5) (cf (aS (eW hX T.tuple (aS (cO (jK rfl) T.sorted (aS (bT (ba b) (aR 1) aV) bb)) bb)) (aS (eW hX T.tuple (aS (cO (jK rfl) T.sorted (aS (bT (ba b) (aR 1) aV) bb)) bb)) bb))) g) (cC (cJ (eM (kK T 5) b (aS (cf (aS (q_ (B8 T) b (aR 0)) (aS (q_ (zB T) b (aR 0)) bb))) (aS (aR 5) bb)))))))⟩
def AF:=rM 2 6 vz.1
def Jq:KP 6 nc AF:=vz.2
noncomputable def Hs:CZ 10 DW 1 7:=⟨_,λT=>abh ["_law_script","_law_hall_here","_law_model","_law_some","_law_deed_here","_law_words_here","_law_k"] (T.d 58 rfl) λg _ _ _ _ _ _ b=>(bt (g0 (i:=1) (O0 (wt T) T.Uq b) g) (bt (g0 (i:=2) (g6 (Jo T) b (aX (bj (cf (aS aV (aS aV (aS aV (aS aV (aS aV bb))))))) bE)) g) (bt (cB (g6 (Ms T) b (aX (aY (aR 1)) (aX (aY (aR 2)) bE)))) (bt (g0 (i:=3) (gm (yI (aS (cf (aS aV (aS aV (aS aV (aS aV (aS aV bb)))))) (aS (cf (aS aV (aS aV (aS aV bb)))) bb)))) g) (bt (Ub (Ua (aR 3) (qg (aS (cf (aS aV (aS aV (aS aV (aS aV (aS aV bb)))))) bb))) (fI 4 g) (fU 4) (bN (fq (LQ (LP (g6 (Eg T) b (aX (aY (aR 1)) (aX (aY (aR 2)) (aX (aY (aR 4)) bE)))))) (bN (fb (bj yG))) dD))) (bt (g0 (i:=5) (bj (cf (aS aV (aS aV (aS aV (aS aV (aS aV (aS aV bb)))))))) g) (bt (Hc (LK T.range (aS bD bb)) (fI 6 g) (fU 6) (bt (g0 (i:=4) (bj (eM (Mq T) b (aS (fm iI (eM (Mp T) b (aS (aR 0) (aS (fm CY (aR 6) bD) bb))) (fm Kx bD (aR 6))) (aS (aR 2) (aS (aR 5) bb))))) g) (bN (fq (LQ (LP (g6 (Eg T) b (aX (aY (aR 1)) (aX (aY (aR 2)) (aX (aY (aR 4)) bE)))))) (bN (fb (bj yG))) dD)))) (bN (fb (bj (eM (Jq T) b (aS (aR 1) (aS (aR 2) bb)))))))))))))⟩
def y8:=Dc 1 7 Hs.1
def YR:KP 10 DW y8:=Hs.2
section
variable {rk en ch bn iv:List (Key×Tr)}
def uX{a_ c7:Str}{ps:List Tr}(h:bB A aN rows rk en ch bn iv)(f:eC rows rk en ch bn iv)(q:rows.length<ee)(hp:3+ps.length<=ee)(ht:mZ ps=true):
  nj [.at aN,.str a_,.str c7,.tup ps] A=.ok (.int (rows.length+1)) (A.set (aN+1) (.lst (rows++[.tup (.int (rows.length+1):: .str a_:: .str c7::ps)]))):=by
 show cE (gG.1 [.sh (.at aN),.sh (.str a_),.sh (.str c7),.sh (.tup ps),.no] A)=_;unfold gG;have b:wa (.tup [.int (rows.length+1),.str a_,.str c7]) (.tup ps)=.ok (.tup (.int (rows.length+1):: .str a_:: .str c7::ps)):=aW hp;have g:∀A,sx (.ok (.tup (.int (rows.length+1):: .str a_:: .str c7::ps))) A=.ok (.tup (.int (rows.length+1):: .str a_:: .str c7::ps)) A:=λA=>aW (by simpa only[JC,mZ,pE]using ht);simp only[ev,cS,fK,f9,h.abj f,h.abl,bZ,b_,BH h.lg,BI h.lg q,b,g]
noncomputable abbrev g7(rows:List Tr)(a_ c7:Str)(ps:List Tr):Tr:=.tup (.int (rows.length+1):: .str a_:: .str c7::ps)
def Pj{a_ c7 role:Str}(h:bB A aN rows rk en ch bn iv)(f:eC rows rk en ch bn iv)(q:rows.length<ee)(hr:rk.length<ee)(he:en.length<ee):
  ∃A',rW [.at aN,.str a_,.str c7,.str role] A=.ok .cA A'/\Ext A A' [(aN+6,.bX (iL iv (.inr a_))),(aN+2,.bX (kZ rk (.inr a_) (.str role))),(aN+3,.bX (kZ en (.inr a_) (.int (rows.length+1)))),(aN+1,.lst (rows++[g7 rows a_ c7 []]))]/\bB A' aN (rows++[g7 rows a_ c7 []]) (kZ rk (.inr a_) (.str role)) (kZ en (.inr a_) (.int (rows.length+1))) ch bn (iL iv (.inr a_)):=by
 have h1:=h.BJ (Ext.put (o:=.lst (rows++[g7 rows a_ c7 []])) h.lg);have h2:=h1.abn (Ext.put (o:=.bX (kZ en (.inr a_) (.int (rows.length+1)))) h1.en);have b:=h2.Ui (Ext.put (o:=.bX (kZ rk (.inr a_) (.str role))) h2.rk);refine⟨_,?_,((Ext.put h.lg).trans (Ext.put h1.en)).trans ((Ext.put h2.rk).trans (Ext.put b.iv)),b.YM (Ext.put b.iv)⟩;show cE (jx.1 [.sh (.at aN),.sh (.str a_),.sh (.str c7),.sh (.str role)] A)=_;unfold jx;have g:∀A,sx (.ok (.tup [])) A=.ok (.tup []) A:=λA=>rfl;have w:=uX (a_:=a_) (c7:=c7) (ps:=[]) h f q (by decide) rfl;simp only[ev,cS,fK,f9,h.call (m:="write_row") rfl,g,w,ml,h1.abm,lp h1.en he,h2.Uh,lp h2.rk hr,b.YL,O1 b.iv,O2 _ b.iv]
def Mt{a_ d4 role:Str}(h:bB A aN rows rk en ch bn iv)(f:eC rows rk en ch bn iv)(q:rows.length<ee)(hr:rk.length<ee):
  ∃A',nr [.at aN,.str a_,.str d4,.str role] A=.ok .cA A'/\Ext A A' [(aN+2,.bX (kZ rk (.inr d4) (.str role))),(aN+1,.lst (rows++[g7 rows a_ "role" [.str d4,.str role]]))]/\bB A' aN (rows++[g7 rows a_ "role" [.str d4,.str role]]) (kZ rk (.inr d4) (.str role)) en ch bn iv:=by
 have h1:=h.BJ (Ext.put (o:=.lst (rows++[g7 rows a_ "role" [.str d4,.str role]])) h.lg);refine⟨_,?_,(Ext.put h.lg).trans (Ext.put h1.rk),h1.Ui (Ext.put h1.rk)⟩;show cE (gH.1 [.sh (.at aN),.sh (.str a_),.sh (.str d4),.sh (.str role)] A)=_;unfold gH;have b:∀A,sx (.ok (.tup [.str d4,.str role])) A=.ok (.tup [.str d4,.str role]) A:=λA=>rfl;have w:=uX (a_:=a_) (c7:="role") (ps:=[.str d4,.str role]) h f q (by show 3+2<=ee;decide) rfl;simp only[ev,cS,fK,f9,h.call (m:="write_row") rfl,b,w,ml,h1.Uh,lp h1.rk hr]
def y9(h:bB A aN rows rk en ch bn iv)(f:eC rows rk en ch bn iv)(hw:a_.length<=1000):
  lB [.at aN,.str a_] A=if(fc rk (.inr a_)).isSome=true then .ok .cA A else .exc (.str "NotIn") A:=by
 show cE (iR.1 [.sh (.at aN),.sh (.str a_)] A)=_;unfold iR;simp only[ev,cS,fK,f9,h.rG f];cases e:(fc rk (.inr a_)).isSome with
 |true=>simp only[dA,ev,cw]
 |false=>
  have s:=DP (z:=a_) (y:=" is not in the room") hw (by decide+kernel);simp only[d8,ev,cS,fK,f9,s,cK,cg]
end
noncomputable abbrev gX:List Str:=["guest","speaker","keeper","owner"]
noncomputable def lvl(r:Str):Int:=if r="owner"then 3 else if r="keeper"then 2 else if r="speaker"then 1 else 0
def oz{r:Str}(h:r∈gX):wM [.str r]=.ok (.int (lvl r)):=by
 have:r="guest"\/r="speaker"\/r="keeper"\/r="owner":=by simpa using h
 rcases this with rfl|rfl|rfl|rfl<;>rfl
structure Jr(aU:List (Str×Str))(z:Str):Prop where
 ex:∃j r,aU[j]?=some (z,r)/\(∀p∈aU,lvl p.2<=lvl r)/\∀(a:Nat) (p:Str×Str),a<j->aU[a]?=some p->lvl p.2<lvl r
theorem Jr.one {y z:Str}(a:Jr aU y)(b:Jr aU z):y=z:=by
 obtain⟨j,r,h1,h2,n⟩:=a.ex;obtain⟨k,s,g1,g2,g3⟩:=b.ex;have g:=h2 _ (d7 g1);have l:=g2 _ (d7 h1);rcases Nat.lt_trichotomy j k with q|q|q
 ·have:=g3 j _ q h1;simp only at g l this;omega
 ·subst q;rw[h1]at g1;cases g1;rfl
 ·have:=n k _ q g1;simp only at g l this;omega
section
variable {i:Nat}{ch bn iv:List (Key×Tr)}{ent:Str->Int}
structure dq(aU:List (Str×Str))(ents:List (Str×Int))(ent:Str->Int):Prop where
 rl:∀p∈aU,p.2∈gX
 nd:(aU.map (·.1)).Nodup
 sh:∀p∈aU,p.1.length<=1000
 en:∀p∈aU,ents.lookup p.1=some (ent p.1)
 up:(aU.map fun p=>ent p.1).Pairwise (· <·)
theorem iX:∀{aU:List (Str×Str)},(aU.map (·.1)).Nodup->∀p∈aU,aU.lookup p.1=some p.2
 |q::aU,nd,p,hp=>by
  rw[bO,hJ]at nd;rw[cN];rcases bG.mp hp with rfl|hp
  ·simp
  ·have:(p.1==q.1)=false:=by
    simp only[jn];intro e;exact nd.1 (e▸gx hp)
   rw[this];exact iX nd.2 p hp
def Pk{p:Str×Str}(h:bB A i rows (dP .str aU) (dP .int ents) ch bn iv)(f:eC rows (dP .str aU) (dP .int ents) ch bn iv)(k:dq aU ents ent)(hp:p∈aU):
  iQ [aZ 5 A (.at i),.str p.1]=.ok (.tup [.int (-(lvl p.2)),.int (ent p.1)]):=by
 show dI (kz.1 [.sh (aZ 5 A (.at i)),.sh (.str p.1)])=_;unfold kz;simp only[ev,cS,h.rG f,h.abk f,dW,iX k.nd p hp,k.en p hp,dt,kY,oz (k.rl p hp)]
theorem Us(h:bB A i rows (dP .str aU) (dP .int ents) ch bn iv)(f:eC rows (dP .str aU) (dP .int ents) ch bn iv)(k:dq aU ents ent)(q:aU≠[]):
  ∃z,Jr aU z/\G8 "Room" "claim" iQ (.ok (.lst (aU.map λp=>.str p.1))) (.ok (aZ 5 A (.at i)))=.ok (.str z):=by
 have L:0<aU.length:=sY.mpr q
 let key:Str->Int×Int:=λz=>(-(lvl ((aU.lookup z).getD "")),ent z)
 have r:∀p∈aU,key p.1=(-(lvl p.2),ent p.1):=λp hp=>by show(-(lvl ((aU.lookup p.1).getD "")),ent p.1)=_;rw[iX k.nd p hp];rfl
 have hs:keysOf iQ (aZ 5 A (.at i)) ((aU.map (·.1)).map .str)=some ((aU.map (·.1)).map key):=Ay λz hz=>by
  obtain⟨p,hp,rfl⟩:=cH.mp hz;rw[Pk h f k hp,r p hp]
 let kf:Nat->Int×Int:=λa=>((aU.map (·.1)).map key).getD a (0,0)
 have l:∀a p,aU[a]?=some p->kf a=(-(lvl p.2),ent p.1):=λa p e=>by
  show((aU.map (·.1)).map key).getD a (0,0)=_;rw[eN,ck,ck,e];exact r p (d7 e)
 have n:∀a b,a<b->b<=aU.length - 1->(kf a).2<(kf b).2:=λa b M hb=>by
  have g:b<aU.length:=by omega
  have I:a<aU.length:=by omega
  rw[l a _ (bY I),l b _ (bY g)];have:=List.pairwise_iff_getElem.mp k.up a b (by simpa using I) (by simpa using g) M;simpa using this
 obtain⟨S,h2⟩:=uF (kf:=kf) (aU.length - 1) n;have hb:=vo (kf:=kf) (aU.length - 1);have g:dm kf (aU.length - 1)<aU.length:=by omega
 refine⟨aU[dm kf (aU.length - 1)].1,⟨dm kf (aU.length - 1),aU[dm kf (aU.length - 1)].2,bY g,λp hp=>?_,λa p ha e=>?_⟩,?_⟩
 ·obtain⟨a,ha,e⟩:=List.getElem_of_mem hp;have:=S a (by omega);rw[l _ _ (bY g),l a p (by rw[bY ha,e])]at this;simp only at this;omega
 ·have:=h2 a ha;rw[l _ _ (bY g),l a p e]at this;simp only at this;omega
 ·show vR "Room" "claim" iQ (.lst (aU.map λp=>.str p.1)) (aZ 5 A (.at i))=_;rw[gV h.o]at hs⊢;rw[show(aU.map λp=>Tr.str p.1)=(aU.map (·.1)).map .str by rw[cL];rfl];refine L9 rfl (by simpa using L) hs ?_
  rw[show((aU.map (·.1)).map Tr.str).length=aU.length by simp];show((aU.map (·.1)).map Tr.str)[dm kf (aU.length - 1)]?=_
  rw[ck,ck,bY g]
  rfl
inductive g8(rows:List Tr)(aU:List (Str×Str)):List Tr->List (Str×Str)->Prop
 |same:(aU=[]\/∃p∈aU,p.2="owner")->g8 rows aU rows aU
 |zE (z:Str):Jr aU z->(∀p∈aU,p.2≠"owner")->aU≠[]->g8 rows aU (rows++[g7 rows z "role" [.str z,.str "owner"]]) (eZ aU z "owner")
theorem g8.one {r1 q:List Tr}{k1 k2:List (Str×Str)}(a:g8 rows aU r1 k1)(b:g8 rows aU q k2):r1=q/\k1=k2:=by
 cases a with
 |same h=>
  cases b with
  |same _=>exact⟨rfl,rfl⟩
  |zE z _ h2 l=>
   rcases h with h|⟨p,hp,e⟩
   ·exact absurd h l
   ·exact absurd e (h2 p hp)
 |zE z g h2 l=>
  cases b with
  |same h=>
   rcases h with h|⟨p,hp,e⟩
   ·exact absurd h l
   ·exact absurd e (h2 p hp)
  |zE y g' _ _=>cases g.one g';exact⟨rfl,rfl⟩
theorem Mu(h:bB A i rows (dP .str aU) (dP .int ents) ch bn iv)(f:eC rows (dP .str aU) (dP .int ents) ch bn iv)(k:dq aU ents ent)(hl:rows.length<ee)(hr:aU.length<ee):
  ∃A' cM q,kh [.at i] A=.ok .cA A'/\g8 rows aU cM q/\Ext A A' [(i+2,.bX (dP .str q)),(i+1,.lst cM)]/\bB A' i cM (dP .str q) (dP .int ents) ch bn iv:=by
 let P:Str->Bool:=λz=>aU.lookup z==some ("owner":Str)
 have h1:=h.e_0 (Ext.push (o:=.lst ((((aU.map (·.1)).filter P).map .str))));have r:Ext A (A++[.lst ((((aU.map (·.1)).filter P).map .str))]) [(i+2,.bX (dP .str aU)),(i+1,.lst rows)]:=(Ext.push.idem h.lg rfl).idem h.rk (gR (by omega));have g:∀p∈aU,P p.1=(p.2==("owner":Str)):=λp hp=>by show(aU.lookup p.1==some ("owner":Str))=_;rw[iX k.nd p hp];rfl
 have t1:aZ 5 (A++[Ao.lst (((aU.map (·.1)).filter P).map .str)]) (.at A.length)=.lst (((aU.map (·.1)).filter P).map .str):=by rw[ll lX,rb]
 show∃A' cM q,cE (fj.1 [.sh (.at i),.no,.no] A)=.ok .cA A'/\_;unfold fj;simp only[ev,cS,fK,f9,h.rG f,wJ k.sh,map_fst];rw[rf (BL:=[.sh (aZ 5 A (.at i))]) P rfl (by simpa using dC hr) rfl (λ_=>rfl) ?hC]
 case hC=>
  intro z hz;obtain⟨p,hp,rfl⟩:=cH.mp hz;simp only[ev,cS,h.rG f,dW,iX k.nd p hp,dt,kY,g p hp]
 simp only[wI ra,ev,cS,fK,f9,bZ,b_,h1.rG f,t1,je,bu];by_cases b:aU=[]
 ·subst b;exact⟨_,_,_,rfl,.same (.inl rfl),r,h1⟩
 have l:(decide ((0:Int)<(aU.length:Int)))=true:=iF (by have:=sY.mpr b;omega);simp only[l,ev,cS,fK];by_cases n:∃p∈aU,p.2="owner"
 ·have:((((aU.map (·.1)).filter P).length:Int)==0)=false:=by
   obtain⟨p,hp,e⟩:=n;have hm:p.1∈(aU.map (·.1)).filter P:=gy.mpr ⟨gx hp,by rw[g p hp,e];exact bU _⟩;have:=List.length_pos_of_mem hm;simp only[jn];omega
  simp only[this,ev];exact⟨_,_,_,rfl,.same (.inr n),r,h1⟩
 ·have I:∀p∈aU,p.2≠"owner":=λp hp e=>n ⟨p,hp,e⟩;have:((aU.map (·.1)).filter P)=[]:=List.filter_eq_nil_iff.mpr λz hz=>by
   obtain⟨p,hp,rfl⟩:=cH.mp hz;rw[g p hp];simpa using I p hp
  obtain⟨z,hz,L⟩:=Us h1 f k b;obtain⟨A',q1,M,S⟩:=Mt (a_:=z) (d4:=z) (role:="owner") h1 f hl (by rw[je];exact hr);rw[map_fst]at L;have el:Fg [.bX (dP .str aU)]=.ok (.lst ((aU.map (·.1)).map .str)):=by
   show(De (dP .str aU)).bind (λts=>Rs.ok (Tr.lst ts))=_;rw[Hk λp hp=>cF (k.sh p hp) (by decide),map_fst];rfl
  have e9:((((aU.map (·.1)).filter P).length:Int)==0)=true:=by rw[this];rfl
  simp only[e9,ev,cS,fK,f9,h1.rG f,el,L,bZ,b_,h1.call (m:="give_role") rfl,q1];rw[j7]at M S;exact⟨_,_,_,rfl,.zE z hz I b,Ext.past Ext.push M,S⟩
end
section
variable {i:Nat}{chs:List (Str×Str)}{bn iv:List (Key×Tr)}{ent:Str->Int}{d:Str}
theorem lookup_none{α:Type}{z:Str}:∀{l:List (Str×α)},l.lookup z=none->∀p∈l,p.1≠z
 |q::l,h,p,hp=>by
  rw[cN]at h;cases e:(z==q.1)with
  |true=>rw[e]at h;cases h
  |false=>
   rw[e]at h;rcases bG.mp hp with rfl|hp
   ·intro q;rw[q,bU]at e;cases e
   ·exact lookup_none h p hp
def qI{α:Type}{l:List (Str×α)}{z:Str}{a:α}(h:l.lookup z=none):eZ l z a=l++[(z,a)]:=by
 unfold eZ;rw[bc];intro q;obtain⟨p,hp,e⟩:=xo.mp q;exact lookup_none h p hp (eO e)
def y_{α:Type}{z y:Str}{a:α}:∀{l:List (Str×α)},(eZ l z a).lookup y=if y=z then some a else l.lookup y:=by
 intro l;unfold eZ;split
 ·rename_i h
  induction l with
  |nil=>cases h
  |cons p l n=>
   rw[bO,cN,cN];by_cases hz:p.1=z
   ·rw[aW hz];by_cases g:y=z
    ·subst g;rw[aW rfl,hz];simp
    ·have L:(y==p.1)=false:=by simpa[hz]using g
     rw[bc g];simp only[L]
     clear n h
     induction l with
     |nil=>rfl
     |cons q l n=>
      rw[bO,cN,cN];by_cases I:q.1=z
      ·rw[aW I];have r:(y==q.1)=false:=by simpa[I]using g
       simp only[r];exact n
      ·rw[bc I];split
       ·rfl
       ·exact n
   ·rw[bc hz];have h2:(l.any λp=>decide (p.1=z))=true:=by
     rw[jr]at h;simpa[hz]using h
    cases e:(y==p.1)with
    |true=>
     have:y=p.1:=by simpa using e
     rw[bc (by rw[this];exact hz)]
    |false=>exact n h2
 ·rename_i h;rw[List.lookup_append];have M:l.lookup z=none:=by
   cases e:l.lookup z with
   |none=>rfl
   |some b=>
    exfalso;apply h
    clear h
    induction l with
    |nil=>cases e
    |cons p l n=>
     rw[cN]at e;rw[jr];cases r:(z==p.1)with
     |true=>have:z=p.1:=by simpa using r
            simp[this]
     |false=>rw[r]at e;simp[n e]
  by_cases g:y=z
  ·subst g;rw[M,aW rfl];simp
  ·rw[bc g];have:(y==z)=false:=by simpa using g
   simp[List.lookup,this]
theorem dq.enter {n:Int}{r:Str}(k:dq aU ents ent)(q:aU.lookup a_=none)(gB:∀p∈aU,ent p.1<n)(hw:a_.length<=1000)(hr:r∈gX):dq (eZ aU a_ r) (eZ ents a_ n) λz=>if z=a_ then n else ent z:=by
 rw[qI q];have g:=lookup_none q;refine⟨λp hp=>?_,?_,λp hp=>?_,λp hp=>?_,?_⟩
 ·rcases dr.mp hp with hp|hp
  ·exact k.rl p hp
  ·cases cV.mp hp;exact hr
 ·rw[iE,tq];refine⟨k.nd,by simp,λa l b hb=>?_⟩;obtain⟨p,hp,rfl⟩:=cH.mp l;cases(cV.mp hb);exact g p hp
 ·rcases dr.mp hp with hp|hp
  ·exact k.sh p hp
  ·cases cV.mp hp;exact hw
 ·rw[y_];rcases dr.mp hp with hp|hp
  ·rw[bc (g p hp),bc (g p hp)];exact k.en p hp
  ·cases cV.mp hp;rw[aW rfl,aW rfl]
 ·rw[iE,List.pairwise_append];refine⟨?_,by simp,λa l b hb=>?_⟩
  ·have:(aU.map λp=>if p.1=a_ then n else ent p.1)=aU.map λp=>ent p.1:=gw λp hp=>bc (g p hp);rw[this];exact k.up
  ·obtain⟨p,hp,rfl⟩:=cH.mp l;simp at hb;subst hb;rw[bc (g p hp)];exact gB p hp
theorem dq.leave (k:dq aU ents ent):dq (lq aU a_) ents ent:=by
 have s:(lq aU a_).Sublist aU:=List.filter_sublist;exact⟨λp hp=>k.rl p (s.subset hp),k.nd.sublist (s.map _),λp hp=>k.sh p (s.subset hp),λp hp=>k.en p (s.subset hp),k.up.sublist (s.map _)⟩
def y'{α:Type}{l:List (Str×α)}{z:Str}{a:α}(h:z∈l.map (·.1)):(eZ l z a).map (·.1)=l.map (·.1):=by
 unfold eZ;obtain⟨p,hp,e⟩:=cH.mp h;rw[aW (xo.mpr ⟨p,hp,iF e⟩),cL];exact gw λq _=>by show(if q.1=z then(q.1,a)else q).1=q.1;split<;>rfl
def Pl{α:Type}{l:List (Str×α)}{a:α}{p:Str×α}(h:p∈eZ l a_ a):p=(a_,a)\/p∈l:=by
 unfold eZ at h;split at h
 ·obtain⟨q,b,e⟩:=cH.mp h;split at e
  ·rename_i hz;left;rw[<-e,hz]
  ·right;rw[<-e];exact b
 ·rcases dr.mp h with h|h
  ·exact .inr h
  ·exact .inl (cV.mp h)
theorem dq.role {r:Str}(k:dq aU ents ent)(h:a_∈aU.map (·.1))(hr:r∈gX):dq (eZ aU a_ r) ents ent:=by
 have g:=y' (a:=r) h;have hm:∀p∈eZ aU a_ r,∃q∈aU,q.1=p.1:=λp hp=>by
  have:p.1∈aU.map (·.1):=by rw[<-g];exact gx hp
  obtain⟨q,b,e⟩:=cH.mp this;exact⟨q,b,e⟩
 refine⟨λp hp=>?_,by rw[g];exact k.nd,λp hp=>?_,λp hp=>?_,?_⟩
 ·rcases Pl hp with rfl|hp
  ·exact hr
  ·exact k.rl p hp
 ·obtain⟨q,b,e⟩:=hm p hp;rw[<-e];exact k.sh q b
 ·obtain⟨q,b,e⟩:=hm p hp;rw[<-e];exact k.en q b
 ·have:((eZ aU a_ r).map λp=>ent p.1)=aU.map λp=>ent p.1:=by
   have n:∀l:List (Str×Str),(l.map λp=>ent p.1)=(l.map (·.1)).map ent:=λl=>by rw[cL];rfl
   rw[n,n,g]
  rw[this];exact k.up
def g8.FR {cM:List Tr}{q:List (Str×Str)}(o:g8 rows aU cM q)(k:dq aU ents ent):dq q ents ent:=by
 cases o with
 |same _=>exact k
 |zE z g _ _=>
  obtain⟨j,r,e,_⟩:=g.ex;exact k.role (cH.mpr ⟨_,d7 e,rfl⟩) (by decide+kernel)
end
section
variable {bn iv:List (Key×Tr)}{ent:Str->Int}{d:Str}
def Ht{us:List Tr}{rk en ch q en' ch' bn' iv':List (Key×Tr)}(f:eC rows rk en ch bn iv)(h1:gQ q)(h2:gQ en')(h3:gQ ch')(h4:gQ bn')(h5:gQ iv'):eC (rows++[.tup us]) q en' ch' bn' iv':=⟨m_ f.lg,h1,h2,h3,h4,h5⟩
def Vm:gQ (dP .str aU):=uE λ_ _ _=>sJ
def flI:gQ (dP .int ents):=uE λ_ _ _=>L7
def Mv{r:Str}(h:bB A aN rows (dP .str aU) (dP .int ents) (dP .str aO) bn iv)(f:eC rows (dP .str aU) (dP .int ents) (dP .str aO) bn iv)(hw:a_.length<=1000)(q:aU.lookup a_=some r):
  eX [.at aN,.str a_] A=.exc (.str "Known") A:=by
 show cE (dR.1 [.sh (.at aN),.sh (.str a_)] A)=_;unfold dR;have s:=DP (z:=a_) (y:=" is in the room") hw (by decide+kernel);simp only[ev,cS,fK,f9,h.rG f,eD,q,dt,nL,s]
def Mw{r:Tr}(h:bB A aN rows (dP .str aU) (dP .int ents) (dP .str aO) bn iv)(f:eC rows (dP .str aU) (dP .int ents) (dP .str aO) bn iv)(hw:a_.length<=1000)(q:aU.lookup a_=none)(hb:fc bn (.inr a_)=some r):
  eX [.at aN,.str a_] A=.exc (.str "Barred") A:=by
 show cE (dR.1 [.sh (.at aN),.sh (.str a_)] A)=_;unfold dR;have s:=DP (z:=a_) (y:=" is barred") hw (by decide+kernel);simp only[ev,cS,fK,f9,h.rG f,eD,q,pz,o8,h.Ug f,hb,nL,s]
def Mx(h:bB A aN rows (dP .str aU) (dP .int ents) (dP .str aO) bn iv)(f:eC rows (dP .str aU) (dP .int ents) (dP .str aO) bn iv)(hw:a_.length<=1000)(q:aU.lookup a_=none)(hb:fc bn (.inr a_)=none)(hd:aO.lookup ("door":Str)=some ("asked":Str))(hv:fc iv (.inr a_)=none):
  eX [.at aN,.str a_] A=.exc (.str "NotAsked") A:=by
 show cE (dR.1 [.sh (.at aN),.sh (.str a_)] A)=_;unfold dR;have s:=DP (z:=a_) (y:=" is not asked") hw (by decide+kernel);have b:aO.lookup (Str.ofString "door")=some (Str.ofString "asked"):=hd;simp only[ev,cS,fK,f9,h.rG f,eD,q,pz,o8,h.Ug f,hb,h.YJ f,dW,b,dt,kY,bU,h.YK f,hv,d8,s]
def Pm(h:bB A aN rows (dP .str aU) (dP .int ents) (dP .str aO) bn iv)(f:eC rows (dP .str aU) (dP .int ents) (dP .str aO) bn iv)(k:dq aU ents ent)(gB:∀p∈aU,ent p.1<rows.length+1)(hl:rows.length+1<ee)(hr':aU.length+1<ee)(he:ents.length<ee)(hw:a_.length<=1000)
  (hr:aU.lookup a_=none) (hb:fc bn (.inr a_)=none) (hd:aO.lookup ("door":Str)=some d) (q:d≠"asked"\/(fc iv (.inr a_)).isSome=true):
  ∃A' cM cU,eX [.at aN,.str a_] A=.ok .cA A'/\g8 (rows++[g7 rows a_ "enter" []]) (eZ aU a_ "guest") cM cU/\Ext A A' ([(aN+2,.bX (dP .str cU)),(aN+1,.lst cM)]++[(aN+6,.bX (iL iv (.inr a_))),(aN+2,.bX (dP .str (eZ aU a_ "guest"))),(aN+3,.bX (dP .int (eZ ents a_ (rows.length+1)))),(aN+1,.lst (rows++[g7 rows a_ "enter" []]))])
   /\bB A' aN cM (dP .str cU) (dP .int (eZ ents a_ (rows.length+1))) (dP .str aO) bn (iL iv (.inr a_)):=by
 obtain⟨A1,l,g,b⟩:=Pj (a_:=a_) (c7:="enter") (role:="guest") h f (by omega) (by rw[je];omega) (by rw[je];exact he);rw[j7,j7]at g b;have hs:(eZ aU a_ "guest").length<ee:=by rw[qI hr,eR];exact hr'
 obtain⟨A2,cM,cU,s1,s2,s3,s4⟩:=Mu b (Ht f Vm flI f.ch f.bn (Jg f.iv)) (k.enter (n:=rows.length+1) hr gB hw (by decide+kernel)) (by rw[eR];exact hl) hs;refine⟨A2,cM,cU,?_,s2,g.trans s3,s4⟩;show cE (dR.1 [.sh (.at aN),.sh (.str a_)] A)=_;unfold dR;have r:aO.lookup (Str.ofString "door")=some d:=hd;have I:Ie (.ok (d==("asked":Str))) (.ok (!(fc iv (.inr a_)).isSome))=.ok false:=by
  rcases q with q|q
  ·rw[show(d==("asked":Str))=false by simpa using q];rfl
  ·rw[q];cases(d==("asked":Str))<;>rfl
 simp only[ev,cS,fK,f9,h.rG f,eD,hr,pz,o8,h.Ug f,hb,h.YJ f,dW,r,dt,kY,h.YK f,I,h.call (m:="let_in") rfl,l,b.call (m:="see_to_owner") rfl,s1]
def My(h:bB A aN rows (dP .str aU) (dP .int ents) (dP .str aO) bn iv)(f:eC rows (dP .str aU) (dP .int ents) (dP .str aO) bn iv)(hw:a_.length<=1000)(q:aU.lookup a_=none):
  gK [.at aN,.str a_] A=.exc (.str "NotIn") A:=by
 show cE (gJ.1 [.sh (.at aN),.sh (.str a_)] A)=_;unfold gJ;have n:=y9 h f hw;rw[eD,q]at n;simp only[ev,cS,fK,f9,h.call (m:="need_in") rfl,n,pz,o8,cK,cg]
def Pn(h:bB A aN rows (dP .str aU) (dP .int ents) (dP .str aO) bn iv)(f:eC rows (dP .str aU) (dP .int ents) (dP .str aO) bn iv)(k:dq aU ents ent)(hl:rows.length+1<ee)(hr':aU.length<ee)(hw:a_.length<=1000)
  (hr:aU.lookup a_=some aP):
  ∃A' cM q,gK [.at aN,.str a_] A=.ok .cA A'/\g8 (rows++[g7 rows a_ "leave" []]) (lq aU a_) cM q/\Ext A A' ([(aN+2,.bX (dP .str q)),(aN+1,.lst cM)]++[(aN+2,.bX (dP .str (lq aU a_))),(aN+1,.lst (rows++[g7 rows a_ "leave" []]))])
   /\bB A' aN cM (dP .str q) (dP .int ents) (dP .str aO) bn iv:=by
 have w:=uX (a_:=a_) (c7:="leave") (ps:=[]) h f (by omega) (by decide) rfl;have h1:=h.BJ (Ext.put (o:=.lst (rows++[g7 rows a_ "leave" []])) h.lg);have h2:=h1.Ui (Ext.put (o:=.bX (dP .str (lq aU a_))) h1.rk);obtain⟨A2,cM,q,s1,s2,s3,s4⟩:=Mu h2 (Ht f Vm flI f.ch f.bn f.iv) (k.leave (a_:=a_)) (by rw[eR];exact hl) (sZ (o4 ..) hr');refine⟨A2,cM,q,?_,s2,((Ext.put h.lg).trans (Ext.put h1.rk)).trans s3,s4⟩;show cE (gJ.1 [.sh (.at aN),.sh (.str a_)] A)=_;unfold gJ;have n:=y9 h f hw;rw[eD,hr]at n;have b:∀A,sx (.ok (.tup [])) A=.ok (.tup []) A:=λA=>rfl;have p:=Hg (z:=a_) (v:=.str aP) h1.rk (by rw[eD,hr];rfl);rw[BK]at p;simp only[ev,cS,fK,f9,h.call (m:="need_in") rfl,n,dt,nL,cw,h.call (m:="write_row") rfl,b,w,h1.Uh,Hf h1.rk,p,h2.call (m:="see_to_owner") rfl,s1]
end
def Po(h:cq A bh a9)(hw:a_.length<=1000):ir [.at 0,.tup [.str a_]] A=if(bh.lookup a_).isSome=true then .ok .cA A else .exc (.str "NoPerson") A:=by
 show cE (dN.1 [.sh (.at 0),.sh (.tup [.str a_]),.no] A)=_;unfold dN;have s:=DP (z:="nobody is called ") (y:=a_) (by decide+kernel) hw;simp only[ev,cS,fK,f9,Hl,bZ,b_,h.O4,eD,jq];cases(bh.lookup a_).isSome with
 |true=>simp only[dA,ev,cS,cw]
 |false=>simp only[d8,ev,cS,fK,f9,s,cK,cg]
def Hv(h:cq A bh a9)(q:a9.lookup aP=some aN):uL [.at 0,.str aP] A=.ok (.at aN) A:=by
 show cE (kA.1 [.sh (.at 0),.sh (.str aP)] A)=_;unfold kA;simp only[ev,cS,fK,f9,h.Uj,eD,q,dt,nL,dA,h.abp,jw,wK h.pl,dW,kY]
def sO(h:cq A bh a9)(hw:a_.length<=1000)(q:a9.lookup aP=some aN):jj [.at 0,.tup [.str a_],.str aP] A=if(bh.lookup a_).isSome=true then .ok (.at aN) A else .exc (.str "NoPerson") A:=by
 show cE (eJ.1 [.sh (.at 0),.sh (.tup [.str a_]),.sh (.str aP)] A)=_;unfold eJ;simp only[ev,cS,fK,f9,h.call (m:="need_people") rfl,Po h hw];cases(bh.lookup a_).isSome with
 |true=>simp only[cw,ev,cS,fK,f9,h.call (m:="place") rfl,Hv h q]
 |false=>simp only[cK,cg,ev]
def Mz(h:cq A bh a9)(hw:a_.length<=1000)(q:a9.lookup aP=some aN)(hF:rO "Room" "enter" eX (.ok (.at aN) A) (λA=>.ok [.str a_] A)=eX [.at aN,.str a_] A):
  oo [.at 0,.str a_,.str aP] A=if(bh.lookup a_).isSome=true then cE (p7 (eX [.at aN,.str a_] A) [.sh (.at 0),.sh (.str a_),.sh (.str aP)])else .exc (.str "NoPerson") A:=by
 show cE (kB.1 [.sh (.at 0),.sh (.str a_),.sh (.str aP)] A)=_;unfold kB;have b:∀A,sx (.ok (.tup [.str a_])) A=.ok (.tup [.str a_]) A:=λA=>rfl;simp only[ev,cS,fK,f9,h.call (m:="place_for") rfl,b,sO h hw q];cases(bh.lookup a_).isSome with
 |true=>simp only[cw];rw[hF]
 |false=>simp only[cK,cg];rfl
def MA(h:cq A bh a9)(hw:a_.length<=1000)(q:a9.lookup aP=some aN)(hF:rO "Room" "leave" gK (.ok (.at aN) A) (λA=>.ok [.str a_] A)=gK [.at aN,.str a_] A):
  oq [.at 0,.str a_,.str aP] A=if(bh.lookup a_).isSome=true then cE (p7 (gK [.at aN,.str a_] A) [.sh (.at 0),.sh (.str a_),.sh (.str aP)])else .exc (.str "NoPerson") A:=by
 show cE (kC.1 [.sh (.at 0),.sh (.str a_),.sh (.str aP)] A)=_;unfold kC;have b:∀A,sx (.ok (.tup [.str a_])) A=.ok (.tup [.str a_]) A:=λA=>rfl;simp only[ev,cS,fK,f9,h.call (m:="place_for") rfl,b,sO h hw q];cases(bh.lookup a_).isSome with
 |true=>simp only[cw];rw[hF]
 |false=>simp only[cK,cg];rfl
section
variable {ks kb ka n:Nat}{v p c7:Str}
theorem vA{ps:List Tr}(h:bK A aN ks kb ka rows bo stays bw aQ aP v p)(f:gP rows)(q:rows.length<ee)(hp:2+ps.length<=ee)(ht:mZ ps=true):
  Cc [.at aN,.str a_,.tup ps] A=.ok (.int (rows.length+1)) (A.set (aN+1) (.lst (rows++[.tup (.int (rows.length+1):: .str a_::ps)]))):=by
 show cE (wN.1 [.sh (.at aN),.sh (.str a_),.sh (.tup ps)] A)=_;unfold wN;have h1:=h.FC (Ext.put (o:=.lst (rows++[.tup (.int (rows.length+1):: .str a_::ps)])) h.rw);have b:wa (.tup [.int (rows.length+1),.str a_]) (.tup ps)=.ok (.tup (.int (rows.length+1):: .str a_::ps)):=aW hp;have g:∀A,sx (.ok (.tup (.int (rows.length+1):: .str a_::ps))) A=.ok (.tup (.int (rows.length+1):: .str a_::ps)) A:=λA=>aW (by simpa only[JC,mZ,pE]using ht);have l:((rows++[Tr.tup (.int (rows.length+1):: .str a_::ps)]).length:Int)=rows.length+1:=by simp
 simp only[ev,cS,fK,f9,jw,h.abq,BH h.rw,h.Uk (n:=3) f,b,g,BI h.rw q,h1.Uk (n:=3) (m_ f),l]
theorem MB(h:bK A aN ks kb ka rows bo stays bw aQ aP v p)(f:gP rows)(hl:rows.length<ee)(hs:stays.length<ee)(hr:bo.length<ee)(ha:aQ.length<=ee):
  ∃A' YS f1,vx [.at aN,.str a_,.str c7] A=.ok .cA A'/\A.length<=YS/\Ext A A' [(aN,.bX (dP id (zy aN ks kb YS aP v p))),(aN+2,.bX (dP .str (eZ bo a_ "guest"))),(ks,.lst ((stays++[(a_,f1,(rows.length+1:Int),none)]).map wm)),(aN+1,.lst (rows++[g7 rows a_ c7 []]))]
   /\bK A' aN ks kb YS (rows++[g7 rows a_ c7 []]) (eZ bo a_ "guest") (stays++[(a_,f1,(rows.length+1:Int),none)]) bw (aQ.filter λz=>!(z==a_)) aP v p:=by
 have w:=vA (a_:=a_) (ps:=[.str c7]) h f hl (by show 2+1<=ee;decide) rfl;have h1:=h.FC (Ext.put (o:=.lst (rows++[g7 rows a_ c7 []])) h.rw)
 let f1:Int:=if p="shown"then 1 else rows.length+1
 have h2:=h1.abt (qw:=stays++[(a_,f1,(rows.length+1:Int),none)]) (Ext.put h1.st);have b:=h2.O6 (lr:=eZ bo a_ "guest") (Ext.put h2.rl);have r:=b.abu (yM:=aQ.filter λz=>!(z==a_));have g:=((Ext.put (o:=.lst (rows++[g7 rows a_ c7 []])) h.rw).trans (Ext.put (o:=.lst ((stays++[(a_,f1,(rows.length+1:Int),none)]).map wm)) h1.st)).trans (Ext.put (o:=.bX (dP .str (eZ bo a_ "guest"))) h2.rl);refine⟨_,_,f1,?_,g.le,g.cons (Ext.past Ext.push (Ext.put (Ext.push.same b.o rfl))),r⟩;show cE (rj.1 [.sh (.at aN),.sh (.str a_),.sh (.str c7),.no,.no] A)=_;unfold rj;have I:∀A,sx (.ok (.tup [.str c7])) A=.ok (.tup [.str c7]) A:=λA=>rfl;have L:∀A,sx (.ok (.tup [.str a_,.int f1,.int (rows.length+1),.cA])) A=.ok (.tup [.str a_,.int f1,.int (rows.length+1),.cA]) A:=λA=>rfl;have M:Kq (.ok (p==("shown":Str))) (.ok (.int 1)) (.ok (.int (rows.length+1)))=.ok (.int f1):=by
  show(if(p==("shown":Str))then _ else _)=_;by_cases q:p="shown"
  ·subst q;rfl
  ·rw[show(p==("shown":Str))=false by simpa using q];show Rs.ok _=_;congr 2;exact(bc q).symm
 have ep:=lp (z:=a_) (t:=.str "guest") (Y:=[.sh (.at aN),.sh (.str a_),.sh (.str c7),.sh (.int (rows.length+1)),.sh (.int f1)]) h2.rl (by rw[je];exact hr);rw[j7]at ep;have l:=BI (t:=.tup [.str a_,.int f1,.int (rows.length+1),.cA]) h1.st (by rw[bu];exact hs);rw[show stays.map wm++[.tup [.str a_,.int f1,.int (rows.length+1),.cA]]=(stays++[(a_,f1,(rows.length+1:Int),none)]).map wm by rw[iE];rfl]at l;simp only[ev,cS,fK,f9,I,w,bZ,b_,h1.a_p (n:=4),M,jw,h1.abr,BH h1.st,L,l,ml,h2.O5,ep,Hl,b.Ul (n:=3)];rw[rf (BL:=[.sh (.str a_)]) (λz=>!(z==a_)) rfl ha rfl (λ_=>rfl) ?hC]
 case hC=>intro z hz;simp only[ev,O7]
 simp only[wI ra,ml,ev,cS,fK,f9,b.abw]
noncomputable def jT(a_:Str)(n:Int)(s:nW):nW:=if s.1=a_/\s.2.2.2=none then(s.1,s.2.1,s.2.2.1,some n)else s
def Pp{n:Int}{r:Str}(h:bK A aN ks kb ka rows bo stays bw aQ aP v p)(hs:stays.length<=ee)(hr:bo.lookup a_=some r):
  ∃A' YT,y6 [.at aN,.str a_,.int n] A=.ok .cA A'/\A.length<=YT/\Ext A A' [(aN,.bX (dP id (zy aN YT kb ka aP v p))),(aN+2,.bX (dP .str (lq bo a_)))]
   /\bK A' aN YT kb ka rows (lq bo a_) (stays.map (jT a_ n)) bw aQ aP v p:=by
 have h1:=h.O6 (lr:=lq bo a_) (Ext.put h.rl);have h2:=h1.abv (qw:=stays.map (jT a_ n));have I:=Ext.put (o:=.bX (dP .str (lq bo a_))) h.rl;refine⟨_,_,?_,I.le,I.cons (Ext.past Ext.push (Ext.put (Ext.push.same h1.o rfl))),h2⟩;show cE (uU.1 [.sh (.at aN),.sh (.str a_),.sh (.int n)] A)=_;unfold uU;have pp:=Hg (z:=a_) (v:=.str r) h.rl (by rw[eD,hr];rfl);rw[BK]at pp;simp only[ev,cS,fK,f9,jw,h.O5,Hf h.rl,pp,h1.YN (n:=3),Hl];rw[lY (BL:=[.sh (.str a_),.sh (.int n)]) (λ_=>true) wm (λs=>wm (jT a_ n s)) rfl hs rfl (λ_ _=>rfl) ?hF]
 case hF=>
  intro s _ _;obtain⟨a,b,c,e⟩:=s;have g:jW (wm (a,b,c,e)) (.int 0)=.ok (.str a):=rfl;have L:jW (wm (a,b,c,e)) (.int 3)=.ok (FA e):=rfl;have is:sI (.ok (wm (a,b,c,e))) (.ok none) (EZ (.ok (.int 3)))=.ok (.tup [.str a,.int b,.int c]):=rfl;have ia:wa (.tup [.str a,.int b,.int c]) (.tup [.int n])=.ok (.tup [.str a,.int b,.int c,.int n]):=rfl;cases e with
  |none=>
   have l:GF (FA none) .cA=.ok (.bl true):=rfl;by_cases q:a=a_
   ·subst q;simp only[ev,cS,g,L,is,ia,l,bU,jT,and_self,cw]
    rfl
   ·have:(a==a_)=false:=by simpa using q
    simp only[ev,cS,g,this,jT,q,false_and,cg]
  |some m=>
   have l:GF (FA (some m)) .cA=.ok (.bl false):=rfl;simp only[ev,cS,g,L,l,jT,reduceCtorEq,and_false,cg];cases(a==a_)<;>rfl
 rw[show stays.filter (λ_=>true)=stays from o7.mpr λ_ _=>rfl,show(stays.map λs=>wm (jT a_ n s))=(stays.map (jT a_ n)).map wm by rw[cL];rfl];simp only[wI yN,ml,ev,cS,fK,f9,h1.abx]
end
section
variable {ks kb ka n:Nat}{v p c7:Str}{ent:Str->Int}
theorem FT{T:Tr}{r:Str}(q:jW T (.str "roles")=.ok (.bX (dP .str bo)))(hr:bo.lookup a_=some r)(h4:r∈gX):y3 [T,.str a_]=.ok (.int (lvl r)):=by
 show dI (nv.1 [.sh T,.sh (.str a_)])=_;unfold nv;have b:∀X:Rs Tr,(if([.str "guest",.str "speaker",.str "keeper",.str "owner"]:List Tr).length<=ee then X else .bad)=X:=λX=>aW (by show 4<=ee;decide);have g:wj [.str "guest",.str "speaker",.str "keeper",.str "owner"] (.str r)=.ok (.int (lvl r)):=by
  have:r="guest"\/r="speaker"\/r="keeper"\/r="owner":=by simpa using h4
  rcases this with rfl|rfl|rfl|rfl<;>rfl
 simp only[ev,cS,q,eD,hr,dt,nL,b,dW,kY,g]
noncomputable def oN(stays:List nW):List Str:=(stays.filter λs=>s.2.2.2.isNone).map (·.1)
theorem uY{α:Type}{Q:α->Bool}{x:α}:∀{l r:List α},l.filter Q=x::r->∃a:Nat,l[a]?=some x/\Q x=true/\∀(b:Nat) (y:α),b<a->l[b]?=some y->Q y=false
 |y::l,r,h=>by
  cases e:Q y with
  |true=>
   rw[lL e]at h;cases h;exact⟨0,rfl,e,λb y hb=>absurd hb (xq _)⟩
  |false=>
   rw[ki (by rw[e];exact fE)]at h;obtain⟨a,h1,h2,g⟩:=uY h;refine⟨a+1,h1,h2,λb z hb hz=>?_⟩;cases b with
   |zero=>cases hz;exact e
   |succ b=>exact g b z (Nat.lt_of_succ_lt_succ hb) hz
def ix0{t:Tr}:jW (.lst (t::rows)) (.int 0)=.ok t:=by
 show kY (vc (t::rows) 0)=_;have:M3 (t::rows).length 0=some 0:=by unfold M3;simp
 unfold vc;rw[this]
 rfl
theorem uZ(h:bK A aN ks kb ka rows bo stays bw aQ aP v p)(f:gP rows)(k:dq bo ents ent)(ho:oN stays=bo.map (·.1))(hl:rows.length<ee)(hs:stays.length<=ee)(hr:bo.length<ee):
  ∃A' cM lr,kJ [.at aN] A=.ok .cA A'/\g8 rows bo cM lr/\Ext A A' [(aN+1,.lst cM),(aN+2,.bX (dP .str lr))]/\bK A' aN ks kb ka cM lr stays bw aQ aP v p:=by
 show∃A' cM lr,cE (rn.1 [.sh (.at aN),.no,.no] A)=.ok .cA A'/\_;unfold rn;have x0:Ext A A [(aN+1,.lst rows),(aN+2,.bX (dP .str bo))]:=(Ext.refl.idem h.rl rfl).idem h.rw (gR (by omega));have I:=h.zz (n:=3);simp only[ev,cS,fK,f9,I,Um];by_cases L:bo=[]
 ·subst L;exact⟨_,_,_,rfl,.same (.inl rfl),x0,h⟩
 have he:bo.isEmpty=false:=by cases bo<;>first|exact absurd rfl L|rfl
 simp only[he,d8,dA,ev,wJ k.sh,map_fst];rw[lY (BL:=[.sh (aZ 5 A (.at aN))]) (λ_=>true) (λp=>.str p.1) (λp=>.str p.2) (xs:=bo) (by rw[cL];rfl) (dC hr) rfl (λ_ _=>rfl) ?hF]
 case hF=>intro q g _;simp only[ev,cS,I,dW,iX k.nd q g,dt,kY]
 rw[show bo.filter (λ_=>true)=bo from o7.mpr λ_ _=>rfl,show(bo.map λp=>Tr.str p.2)=(bo.map (·.2)).map .str by rw[cL];rfl];simp only[ev,cS,fK,f9,BM];by_cases hw:∃p∈bo,p.2="owner"
 ·have:(bo.map (·.2)).contains (Str.ofString "owner")=true:=by
   obtain⟨q,g,e⟩:=hw;exact dg.mpr (cH.mpr ⟨q,g,e⟩)
  simp only[this,ev];exact⟨_,_,_,rfl,.same (.inr hw),x0,h⟩
 have JG:∀p∈bo,p.2≠"owner":=λp hp e=>hw ⟨p,hp,e⟩;have hc:(bo.map (·.2)).contains (Str.ofString "owner")=false:=by
  cases e:(bo.map (·.2)).contains (Str.ofString "owner")with
  |false=>rfl
  |true=>
   obtain⟨q,g,e⟩:=cH.mp (dg.mp e);exact absurd e (JG q g)
 simp only[hc,ev,cS,fK,f9,I,wJ k.sh,map_fst];rw[lY (BL:=[.sh (aZ 5 A (.at aN))]) (λ_=>true) (λp=>.str p.1) (λp=>.int (lvl p.2)) (xs:=bo) (by rw[cL];rfl) (dC hr) rfl (λ_ _=>rfl) ?hF]
 case hF=>intro q g _;simp only[ev,cS,FT I (iX k.nd q g) (k.rl q g)]
 rw[show bo.filter (λ_=>true)=bo from o7.mpr λ_ _=>rfl];have M:=max_map (f:=λq:Str×Str=>lvl q.2) L;obtain⟨m1,m2⟩:=FD (ns:=bo.map λq=>lvl q.2) (by rw[bu];exact sY.mpr L);generalize rR (bo.map λq=>lvl q.2)=most at M m1 m2;simp only[ev,cS,fK,f9,M,bZ,b_,h.YN (n:=3),Hl]
 let Q:Str->Bool:=λz=>match bo.lookup z with|some r=>lvl r==most|none=>false
 have hQ:∀q∈bo,Q q.1=(lvl q.2==most):=λq g=>by show(match bo.lookup q.1 with|some r=>lvl r==most|none=>false)=_;rw[iX k.nd q g]
 rw[lY (BL:=[.sh (.int most),.sh (aZ 5 A (.at aN))]) (λs:nW=>s.2.2.2.isNone&&Q s.1) wm (λs=>.str s.1) rfl hs rfl ?hC ?hF]
 case hC=>
  intro s hs;obtain⟨a,b,c,e⟩:=s;have i0:jW (wm (a,b,c,e)) (.int 0)=.ok (.str a):=rfl;have i3:jW (wm (a,b,c,e)) (.int 3)=.ok (FA e):=rfl;cases e with
  |some m=>
   have ie:GF (FA (some m)) .cA=.ok (.bl false):=rfl;simp only[ev,cS,i3,ie,xh,xu]
  |none=>
   have ie:GF (FA none) .cA=.ok (.bl true):=rfl;have hm:a∈oN stays:=cH.mpr ⟨_,gy.mpr ⟨hs,rfl⟩,rfl⟩;rw[ho]at hm;obtain⟨q,g,e⟩:=cH.mp hm;subst e;simp only[ev,cS,i0,i3,ie,FT I (iX k.nd q g) (k.rl q g),Option.isNone_none,pE,hQ q g]
 case hF=>intro s _ _;obtain⟨a,b,c,e⟩:=s;rfl
 have ht:(stays.filter λs:nW=>s.2.2.2.isNone&&Q s.1).map (λs=>Tr.str s.1)=((bo.filter λq=>lvl q.2==most).map (·.1)).map .str:=by
  rw[show(λs:nW=>Tr.str s.1)=Tr.str∘(·.1)from rfl,<-cL];congr 1;have e1:(stays.filter λs:nW=>s.2.2.2.isNone&&Q s.1)=(stays.filter λs=>s.2.2.2.isNone).filter λs=>Q s.1:=by
   rw[List.filter_filter];congr 1;funext s;exact Bool.and_comm ..
  have e2:((stays.filter λs=>s.2.2.2.isNone).filter λs=>Q s.1).map (·.1)=(oN stays).filter Q:=by unfold oN;rw[px];rfl
  rw[e1,e2,ho,px];congr 1;exact tD λq g=>hQ q g
 rw[ht];obtain⟨q0,hq0,e0⟩:=cH.mp m1;have hfe:(bo.filter λq=>lvl q.2==most)≠[]:=List.ne_nil_of_mem (gy.mpr ⟨hq0,by simpa using e0⟩);obtain⟨⟨z,l⟩,c9,S⟩:=List.exists_cons_of_ne_nil hfe;obtain⟨a,a1,a2,a3⟩:=uY S;have hz:Jr bo z:=⟨a,l,a1,λq g=>by
  have:=m2 _ (gx g);have e:lvl l=most:=by simpa using a2
  rw[e];exact this,λb q hb g=>by
  have h1:=m2 _ (gx (f:=λq:Str×Str=>lvl q.2) (d7 g));have h2:¬lvl q.2=most:=by simpa using a3 b q hb g
  have e:lvl l=most:=by simpa using a2
  omega⟩
 rw[S];have h1:=h.ext (Ext.push (o:=.lst ((((z,l)::c9).map (·.1)).map .str))) λ_ _=>rfl;have h2:=h1.O6 (lr:=eZ bo z "owner") (Ext.put h1.rl);have t1:aZ 5 (A++[Ao.lst ((((z,l)::c9).map (·.1)).map .str)]) (.at A.length)=.lst ((((z,l)::c9).map (·.1)).map .str):=by rw[ll lX,rb]
 have t2:aZ 5 ((A++[Ao.lst ((((z,l)::c9).map (·.1)).map .str)]).set (aN+2) (.bX (dP .str (eZ bo z "owner")))) (.at A.length)=.lst ((((z,l)::c9).map (·.1)).map .str):=by
  rw[ll (((Ext.put h1.rl).same lX (gR (by have:=iN h.rl;omega)))),rb]
 have i0:jW (.lst ((((z,l)::c9).map (·.1)).map .str)) (.int 0)=.ok (.str z):=ix0;have ep:=lp (z:=z) (t:=.str "owner") (Y:=[.sh (.at aN),.sh (.int most),.sh (.at A.length)]) h1.rl (by rw[je];exact hr);rw[j7]at ep;have w:=vA (a_:=z) (ps:=[.str "role",.str z,.str "owner"]) h2 f hl (by show 2+3<=ee;decide) rfl;have ef:∀A,sx (.ok (.tup [.str "role",.str z,.str "owner"])) A=.ok (.tup [.str "role",.str z,.str "owner"]) A:=λA=>rfl;simp only[wI ra,ev,cS,fK,f9,bZ,b_,ml,jw,h1.O5,t1,i0,ep,t2,ef,w];exact⟨_,_,_,rfl,.zE z hz JG L,(Ext.past Ext.push (Ext.put h1.rl)).cons (Ext.put h2.rw),h2.FC (Ext.put h2.rw)⟩
end
section
variable {ks kb ka n:Nat}{asked:List Str}{v p c6:Str}
theorem Hw{c7:Str}(m:fN A bw c8)(h:bK A aN ks kb ka rows bo stays aQ asked aP v p)(q:c8.lookup c6=some aN)(hw:c7="found"\/c7="enter"\/c7="leave"):
  fD [aZ 5 A (.at 4),.tup [.str c7,.str a_,.str c6]]=.ok (if bw.contains a_=false then .str "no person"else if c7="found"then .str "known"else if c7="enter"then(if(bo.lookup a_).isSome=true then .str "known"else if aQ.contains a_=true then .str "barred"else if aP="asked"/\asked.contains a_=false then .str "not asked"else .cA)else if(bo.lookup a_).isSome=true then .cA else .str "not in"):=by
 show dI (iz.1 [.sh (aZ 5 A (.at 4)),.sh (.tup [.str c7,.str a_,.str c6]),.no,.no,.no])=_;unfold iz;have b:jW (.tup [.str c7,.str a_,.str c6]) (.int 0)=.ok (.str c7):=rfl;have i1:jW (.tup [.str c7,.str a_,.str c6]) (.int 1)=.ok (.str a_):=rfl;have i2:jW (.tup [.str c7,.str a_,.str c6]) (.int 2)=.ok (.str c6):=rfl;have g:(c7==Str.ofString "come")=false:=by rcases hw with rfl|rfl|rfl<;>decide+kernel
 have l:Bf (.str c7) (.tup [.str "ask",.str "role",.str "out",.str "bar",.str "unbar"])=.ok (.bl false):=by rcases hw with rfl|rfl|rfl<;>rfl
 have r:Bf (.str c7) (.tup [.str "say",.str "mend",.str "take_back"])=.ok (.bl false):=by rcases hw with rfl|rfl|rfl<;>rfl
 have l1:∀a,zq (.ok [a])=.ok (.lst [a]):=λ_=>rfl;have a1:wa (.lst [.str a_]) (.lst [])=.ok (.lst [.str a_]):=rfl;have I:∀x:Bool,pT (.lst (((if x then[a_]else[]):List Str).map .str))=.ok x:=λx=>by cases x<;>rfl
 have t3:aZ 3 A (.at aN)=.bX (dP (aZ 2 A) (zy aN ks kb ka aP v p)):=h8 h.o;simp only[ev,cS,b,i1,i2,bZ,b_,g,l1,Hl];rw[lY (BL:=[.sh (.tup [.str c7,.str a_,.str c6]),.sh (.str c7)]) (λ_:Unit=>false) (λ_=>.int 3) (λ_=>.cA) (xs:=[()]) (by rfl) (by decide) rfl (λ_ _=>by simp only[ev,cS,l]) (λ_ _ e=>by cases e)];simp only[pf,xr,cK,cg,mL,a1,ev,cS,Hl,bZ,b_];rw[rf (ns:=[a_]) (BL:=[.sh (aZ 5 A (.at 4))]) (λz=>!bw.contains z) (by rfl) (by show 1<=ee;decide) rfl (λ_=>rfl) ?hC]
 case hC=>intro z _;simp only[ev,cS,m.Uo (n:=3),yO]
 have L:pT (.lst ((List.filter (λz=>!bw.contains z) [a_]).map .str))=.ok (!bw.contains a_):=by
  rw[pf,xr];exact I _
 simp only[ev,cS,L];cases hp:bw.contains a_ with
 |false=>simp only[d8,ev,cw]
 |true=>
  simp only[dA,ev,cS,i1,i2,m.Mb (n:=3),DR,q,dt,ph,bZ,b_,Bool.true_eq_false,cg];rcases hw with rfl|rfl|rfl
  ·simp only[bU,ev,cS,t3,O9,cw]
  ·have s1:(Str.ofString "enter"==Str.ofString "found")=false:=by decide+kernel
   have s2:¬(Str.ofString "enter"=Str.ofString "found"):=by decide+kernel
   simp only[s1,s2,ev,cS,cg,bU,cw];rw[show GF (aZ 3 A (.at aN)) .cA=.ok (.bl false) by rw[t3];rfl];simp only[ev,cS,i1,bU,h.zz (n:=1),eD,jq];cases(bo.lookup a_).isSome with
   |true=>simp only[ev,cS,cw]
   |false=>
    simp only[ev,cS,i1,h.YO (n:=1),BM,cK,cg];cases aQ.contains a_ with
    |true=>simp only[ev,cS,cw]
    |false=>
     simp only[ev,cS,i1,h.Ul (n:=1),h.a_d (n:=2),yO,cK,cg];by_cases hd:aP="asked"
     ·subst hd;simp only[bU,ev,cS,true_and];cases asked.contains a_<;>rfl
     ·have:(aP==Str.ofString "asked")=false:=by simpa using hd
      simp only[this,ev,cS,hd,false_and,cg]
  ·have s1:(Str.ofString "leave"==Str.ofString "found")=false:=by decide+kernel
   have s2:¬(Str.ofString "leave"=Str.ofString "found"):=by decide+kernel
   have s3:(Str.ofString "leave"==Str.ofString "enter")=false:=by decide+kernel
   have s4:¬(Str.ofString "leave"=Str.ofString "enter"):=by decide+kernel
   simp only[s1,s2,s3,s4,ev,cS,cg];rw[show GF (aZ 3 A (.at aN)) .cA=.ok (.bl false) by rw[t3];rfl];simp only[ev,cS,i1,s3,h.zz (n:=1),eD,jq];cases(bo.lookup a_).isSome with
   |true=>simp only[dA,ev,cS,r,bU,cw]
   |false=>simp only[d8,ev,cS,cK,cg]
end
section
variable {A0 A1 A2:Ab}{c6:Str}
theorem MC(m:fN A bw c8)(q:c8.lookup c6=some aN)(q1:vx [.at aN,.str a_,.str "enter"] A=.ok .cA A1)(q2:kJ [.at aN] A1=.ok .cA A2):ny [.at 4,.tup [.str "enter",.str a_,.str c6]] A=.ok .cA A2:=by
 show cE (jQ.1 [.sh (.at 4),.sh (.tup [.str "enter",.str a_,.str c6]),.no,.no,.no] A)=_;unfold jQ;have sl:sI (.ok (.tup [.str "enter",.str a_,.str c6])) (.ok none) (EZ (.ok (.int 2)))=.ok (.tup [.str "enter",.str a_]):=rfl;have b:∀A,sx (.ok (.tup [.str "enter",.str a_])) A=.ok (.tup [.str "enter",.str a_]) A:=λA=>rfl;have gt:∀A,KJ (gT [2,3]) (.ok (.tup [.str "enter",.str a_]) A) [.sh (.at 4),.sh (.tup [.str "enter",.str a_,.str c6]),.no,.no,.no]=.ok (.nx [.sh (.at 4),.sh (.tup [.str "enter",.str a_,.str c6]),.sh (.str "enter"),.sh (.str a_),.no]) A:=λA=>rfl;have i2:jW (.tup [.str "enter",.str a_,.str c6]) (.int 2)=.ok (.str c6):=rfl;have s1:(Str.ofString "enter"==Str.ofString "come")=false:=by decide+kernel
 have s2:(Str.ofString "enter"==Str.ofString "found")=false:=by decide+kernel
 have s3:(Str.ofString "enter"==Str.ofString "say")=false:=by decide+kernel
 simp only[ev,cS,fK,f9,sl,b,gt,s1,s2,s3,i2,jw,m.Up,wK m.rs,dW,q,dt,kY,bZ,b_,bU,q1,q2]
theorem MD{n:Int}(m:fN A bw c8)(q:c8.lookup c6=some aN)(q0:Cc [.at aN,.str a_,.tup [.str "leave"]] A=.ok (.int n) A0)(q1:y6 [.at aN,.str a_,.int n] A0=.ok .cA A1)(q2:kJ [.at aN] A1=.ok .cA A2):ny [.at 4,.tup [.str "leave",.str a_,.str c6]] A=.ok .cA A2:=by
 show cE (jQ.1 [.sh (.at 4),.sh (.tup [.str "leave",.str a_,.str c6]),.no,.no,.no] A)=_;unfold jQ;have sl:sI (.ok (.tup [.str "leave",.str a_,.str c6])) (.ok none) (EZ (.ok (.int 2)))=.ok (.tup [.str "leave",.str a_]):=rfl;have b:∀A,sx (.ok (.tup [.str "leave",.str a_])) A=.ok (.tup [.str "leave",.str a_]) A:=λA=>rfl;have g:∀A,sx (.ok (.tup [.str "leave"])) A=.ok (.tup [.str "leave"]) A:=λA=>rfl;have gt:∀A,KJ (gT [2,3]) (.ok (.tup [.str "leave",.str a_]) A) [.sh (.at 4),.sh (.tup [.str "leave",.str a_,.str c6]),.no,.no,.no]=.ok (.nx [.sh (.at 4),.sh (.tup [.str "leave",.str a_,.str c6]),.sh (.str "leave"),.sh (.str a_),.no]) A:=λA=>rfl;have i2:jW (.tup [.str "leave",.str a_,.str c6]) (.int 2)=.ok (.str c6):=rfl;have s1:(Str.ofString "leave"==Str.ofString "come")=false:=by decide+kernel
 have s2:(Str.ofString "leave"==Str.ofString "found")=false:=by decide+kernel
 have s3:(Str.ofString "leave"==Str.ofString "say")=false:=by decide+kernel
 have s4:(Str.ofString "leave"==Str.ofString "enter")=false:=by decide+kernel
 simp only[ev,cS,fK,f9,sl,b,g,gt,s1,s2,s3,s4,i2,jw,m.Up,wK m.rs,dW,q,dt,kY,bZ,b_,bU,q0,q1,q2]
def YU{X:Rz Tr}{G:bV->Ab->Rz Out}:cE (E4 (KI X) G)=X:=by cases X<;>rfl
theorem ME(h:cq A bh a9):fQ [.at 0,.tup [.str "enter",.str a_,.str c6]] A=oo [.at 0,.str a_,.str c6] A:=by
 show cE (fP.1 [.sh (.at 0),.sh (.tup [.str "enter",.str a_,.str c6]),.no] A)=_;unfold fP;have b:jW (.tup [.str "enter",.str a_,.str c6]) (.int 0)=.ok (.str "enter"):=rfl;have i1:jW (.tup [.str "enter",.str a_,.str c6]) (.int 1)=.ok (.str a_):=rfl;have i2:jW (.tup [.str "enter",.str a_,.str c6]) (.int 2)=.ok (.str c6):=rfl;have s1:(Str.ofString "enter"==Str.ofString "come")=false:=by decide+kernel
 have s2:(Str.ofString "enter"==Str.ofString "found")=false:=by decide+kernel
 simp only[ev,cS,fK,f9,b,i1,i2,s1,s2,bZ,b_,bU,h.call (m:="enter") rfl,YU]
theorem MF(h:cq A bh a9):fQ [.at 0,.tup [.str "leave",.str a_,.str c6]] A=oq [.at 0,.str a_,.str c6] A:=by
 show cE (fP.1 [.sh (.at 0),.sh (.tup [.str "leave",.str a_,.str c6]),.no] A)=_;unfold fP;have b:jW (.tup [.str "leave",.str a_,.str c6]) (.int 0)=.ok (.str "leave"):=rfl;have i1:jW (.tup [.str "leave",.str a_,.str c6]) (.int 1)=.ok (.str a_):=rfl;have i2:jW (.tup [.str "leave",.str a_,.str c6]) (.int 2)=.ok (.str c6):=rfl;have s1:(Str.ofString "leave"==Str.ofString "come")=false:=by decide+kernel
 have s2:(Str.ofString "leave"==Str.ofString "found")=false:=by decide+kernel
 have s3:(Str.ofString "leave"==Str.ofString "enter")=false:=by decide+kernel
 simp only[ev,cS,fK,f9,b,i1,i2,s1,s2,s3,bZ,b_,bU,h.call (m:="leave") rfl,YU]
variable {ts:List Tr}{x w:Str}
def Ut(q:fQ [.at 0,.tup ts] A=.ok .cA A1):qH [.at 0,.tup ts] A=.ok .cA A1:=by
 show cE (nz.1 [.sh (.at 0),.sh (.tup ts),.no,.no,.no] A)=_;unfold nz;have tz:∀o A G,Fm 5 4 ["Known","NoPerson","NoRoom","NotIn","NotAsked","Barred","NoRight","NoRow","NoHand","NoLine"] (.ok o A) G=.ok o A:=λ_ _ _=>rfl;have b:GF .cA .cA=.ok (.bl true):=rfl;simp only[ev,cS,fK,f9,bZ,b_,q,tz,b]
def Pq(q:fQ [.at 0,.tup ts] A=.exc (.str x) A)(hx:(["Known","NoPerson","NoRoom","NotIn","NotAsked","Barred","NoRight","NoRow","NoHand","NoLine"]:List Str).contains x=true)(hw:y4 [.zR x]=.ok (.str w)):qH [.at 0,.tup ts] A=.ok (.str w) (A++[.Em x]):=by
 show cE (nz.1 [.sh (.at 0),.sh (.tup ts),.no,.no,.no] A)=_;unfold nz;have tz:∀A:Ab,Fm 5 4 ["Known","NoPerson","NoRoom","NotIn","NotAsked","Barred","NoRight","NoRow","NoHand","NoLine"] (.exc (.str x) A) (λY A=>Bi 2 (gO (x6 Y 4) A) Y)=.ok (.nx [.no,.no,.sh (.at A.length),.no,.no]) (A++[.Em x]):=λA=>by
  unfold Fm X4;simp only[hx,cw]
  rfl
 have t1:aZ 5 (A++[Ao.Em x]) (.at A.length)=.zR x:=by simp only[aZ,lX]
 have b:GF (.zR x) .cA=.ok (.bl false):=rfl;simp only[ev,cS,fK,f9,bZ,b_,q,tz,t1,b,hw]
def Pt(q:fD [aZ 5 A (.at 4),.tup ts]=.ok (.str w))(ht:qH [.at 0,.tup ts] A=.ok (.str w) A1)(hs:fA 5 [.str w,.str w]=.ok (.bl true)):jR [.at 0,.at 4,.tup ts] A=.ok (.bl true) A1:=by
 show cE (nA.1 [.sh (.at 0),.sh (.at 4),.sh (.tup ts),.no] A)=_;unfold nA;have b:GF (.str w) .cA=.ok (.bl false):=rfl;simp only[ev,cS,fK,f9,bZ,b_,q,b,ht,hs]
def Pu(q:fD [aZ 5 A (.at 4),.tup ts]=.ok .cA)(hd:ny [.at 4,.tup ts] A=.ok .cA A1)(ht:qH [.at 0,.tup ts] A1=.ok .cA A2):jR [.at 0,.at 4,.tup ts] A=.ok (.bl true) A2:=by
 show cE (nA.1 [.sh (.at 0),.sh (.at 4),.sh (.tup ts),.no] A)=_;unfold nA;have b:GF .cA .cA=.ok (.bl true):=rfl;have hs:fA 5 [.cA,.cA]=.ok (.bl true):=rfl;simp only[ev,cS,fK,f9,bZ,b_,q,b,hd,ht,hs]
end
theorem lkn{k:Nat}:∀{pins:List (Nat×Ao)},k∉pins.map (·.1)->pins.lookup k=none
 |[],_=>rfl
 |p::pins,h=>by
  rw[bO,bG,not_or]at h;rw[cN];have:(k==p.1)=false:=by simpa using h.1
  rw[this];exact lkn h.2
def iY(A A':Ab)(S:List Nat):Prop:=∃pins,Ext A A' pins/\∀k∈pins.map (·.1),k∈S
section
variable {A' B:Ab}{S T:List Nat}{k:Nat}{o o':Ao}
theorem iY.push:iY A (A++[o]) S:=⟨[],Ext.push,λk h=>nomatch h⟩
theorem iY.put (h:A[k]?=some o')(m:k∈S):iY A (A.set k o) S:=⟨_,Ext.put h,λq b=>by cases cV.mp b;exact m⟩
def iY.of {pins:List (Nat×Ao)}(x:Ext A A' pins)(h:∀k∈pins.map (·.1),k∈S):iY A A' S:=⟨pins,x,h⟩
theorem iY.trans (a:iY A A' S)(b:iY A' B S):iY A B S:=by
 obtain⟨pins,x,p⟩:=a;obtain⟨V,y,q⟩:=b;refine⟨_,x.trans y,λk g=>?_⟩;rw[iE]at g;rcases dr.mp g with h|h
 ·exact q k h
 ·exact p k h
def iY.sub (a:iY A A' S)(h:∀k∈S,k∈T):iY A A' T:=by obtain⟨pins,x,p⟩:=a;exact⟨pins,x,λk b=>h k (p k b)⟩
theorem iY.same (a:iY A A' S)(h:A[k]?=some o)(n:k∉S):A'[k]?=some o:=by obtain⟨pins,x,p⟩:=a;exact x.same h (lkn λq=>n (p k q))
def bB.kp {i:Nat}{rk en ch bn iv:List (Key×Tr)}(h:bB A i rows rk en ch bn iv)(t:iY A A' S)(q:∀k∈S,k<i\/i+6<k):bB A' i rows rk en ch bn iv:=by
 have n:∀k,i<=k->k<=i+6->k∉S:=λk g h2 b=>by have:=q k b;omega
 exact⟨t.same h.o (n _ (by omega) (by omega)),t.same h.lg (n _ (by omega) (by omega)),t.same h.rk (n _ (by omega) (by omega)),t.same h.en (n _ (by omega) (by omega)),t.same h.ch (n _ (by omega) (by omega)),t.same h.bn (n _ (by omega) (by omega)),t.same h.iv (n _ (by omega) (by omega))⟩
def bK.kp {j ks kb ka:Nat}{cn asked:List Str}{d v p:Str}(h:bK A j ks kb ka rows bo stays cn asked d v p)(t:iY A A' S)(q:∀k∈[j,j+1,j+2,ks,kb,ka],k∉S):bK A' j ks kb ka rows bo stays cn asked d v p:=by
 obtain⟨pins,x,p⟩:=t;exact h.ext x λk b=>lkn λg=>q k b (p k g)
def cq.kp (h:cq A bh a9)(t:iY A A' S)(q:∀k∈S,6<k):cq A' bh a9:=by
 have n:∀k,k<=6->k∉S:=λk g b=>by have:=q k b;omega
 exact⟨t.same h.o (n _ (by decide)),t.same h.ps (n _ (by decide)),t.same h.pl (n _ (by decide))⟩
def fN.kp (h:fN A bw c8)(t:iY A A' S)(q:∀k∈S,6<k):fN A' bw c8:=by
 have n:∀k,k<=6->k∉S:=λk g b=>by have:=q k b;omega
 exact⟨t.same h.o (n _ (by decide)),t.same h.pe (n _ (by decide)),t.same h.rs (n _ (by decide))⟩
end
noncomputable abbrev iS(i:Nat):List Nat:=[i+1,i+2,i+3,i+4,i+5,i+6]
theorem sn{a b:String}(h:(a==b)=false):(Str.ofString a==Str.ofString b)=false:=by
 have:a≠b:=by simpa using h
 refine jn.mpr λe=>this ?_
 rw[Str.ofString_eq_toList,Str.ofString_eq_toList]at e;injection e with e
 have m:∀{l r:List Char},l.map Char.toNat=r.map Char.toNat->l=r:=λ{l}=>by
  induction l with
  |nil=>intro r h;cases r with
   |nil=>rfl
   |cons=>cases h
  |cons x l g=>intro r h;cases r with
   |nil=>cases h
   |cons y r=>
    injection h with h1 h2
    rw[g h2,Char.toNat_inj.mp h1]
 exact String.toList_inj.mp (m (Array.toList_inj.mpr e:(List.map Char.toNat a.toList).toArray.toList=_))
def jN{acc:Str}(h:acc.length<=20000):∃w,Bt acc=.ok (.str w):=⟨acc,aW (cF h (by decide))⟩
def jC{k:Str->Rs Tr}{acc z:Str}{n:Nat}(q:acc.length<=n)(hz:z.length<=1000)(hn:n<=10000)(h:∀a,a.length<=n+1000->∃w,k a=.ok (.str w)):∃w,m6 (.ok (.str z)) k acc=.ok (.str w):=by
 have l:(acc++z).length<=n+1000:=by rw[oX];omega
 obtain⟨w,e⟩:=h _ l;refine⟨w,?_⟩;show(if(acc++z).length<=dc then k (acc++z)else .bad)=_;rw[aW (cF l (by show n+1000<=1000000;omega)),e]
def fW:List (Bool×Str×Str)->Tr
 |[]=>.cA
 |(b,_,w)::cs=>if b then .str w else fW cs
noncomputable def fX(A:Ab)(X:Rz Tr):List (Bool×Str×Str)->Rz Tr
 |[]=>X
 |(b,x,_)::cs=>if b then .exc (.str x) A else fX A X cs
theorem Pw{X:Rz Tr}:∀{cs:List (Bool×Str×Str)},(∀c∈cs,c.1=false)->fX A X cs=X
 |[],_=>rfl
 |c::cs,h=>by
  obtain⟨b,x,w⟩:=c;have:b=false:=h _ (cD ..);subst this;exact Pw (cs:=cs) λc g=>h c (cu _ g)
def FU{b:Bool}{X:Rz Tr}{q:Rz Tr}(h1:b=true->q=.exc (.str a_) A)(h2:b=false->q=fX A X cs):q=fX A X ((b,a_,aP)::cs):=by
 cases b with
 |true=>exact h1 rfl
 |false=>exact h2 rfl
def ifW{b:Bool}{q:Rs Tr}(h1:b=true->q=.ok (.str aP))(h2:b=false->q=.ok (fW cs)):q=.ok (fW ((b,a_,aP)::cs)):=by
 cases b with
 |true=>exact h1 rfl
 |false=>exact h2 rfl
def YV{k:Nat}{t:Tr}(h:rows[k]?=some t):jW (.tup rows) (.int k)=.ok t:=by
 show kY (L2.vc rows k)=_;rw[AY h];rfl
def Eo:(∀a l,jW (.tup (a::l)) (.int 0)=.ok a)/\(∀a b l,jW (.tup (a::b::l)) (.int 1)=.ok b)/\(∀a b c l,jW (.tup (a::b::c::l)) (.int 2)=.ok c)/\(∀a b c d l,jW (.tup (a::b::c::d::l)) (.int 3)=.ok d)/\(∀a b c d e l,jW (.tup (a::b::c::d::e::l)) (.int 4)=.ok e):=
 ⟨λ_ _=>YV (k:=0) rfl,λ_ _ _=>YV (k:=1) rfl,λ_ _ _ _=>YV (k:=2) rfl,λ_ _ _ _ _=>YV (k:=3) rfl,λ_ _ _ _ _ _=>YV (k:=4) rfl⟩
def Vn:(∀i j:Int,ltC (.int i) (.int j)=.ok (.bl (decide (i<j))))/\(∀i j:Int,leC (.int i) (.int j)=.ok (.bl (decide (i<=j))))/\(∀i j:Int,geC (.int i) (.int j)=.ok (.bl (decide (j<=i))))/\(∀i j:Int,Lv [.int i,.int j]=.ok (.int (if j>i then j else i))):=by
 refine⟨?_,?_,?_,?_⟩<;>intros<;>rfl
def v7(aU:List (Str×Str))(z:Str):Int:=match aU.lookup z with
 |some r=>lvl r
 |none=>-1
def FV(r:Str):0<=lvl r/\lvl r<=3:=by
 unfold lvl;split
 ·decide
 split
 ·decide
 split<;>decide
def Uu{r:Str}(h:r∈gX):(r==("owner":Str))=decide (lvl r=3)/\(r==("keeper":Str))=decide (lvl r=2):=by
 have:r="guest"\/r="speaker"\/r="keeper"\/r="owner":=by simpa using h
 rcases this with rfl|rfl|rfl|rfl<;>decide+kernel
def MG:decide (v7 aU a_<0)=(aU.lookup a_).isNone:=by
 unfold v7;cases aU.lookup a_ with
 |none=>rfl
 |some r=>exact fF (by have:=FV r;show¬lvl r<0;omega)
abbrev RA(A:Ab)(i:Nat)(rows:List Tr)(aU:List (Str×Str))(ents:List (Str×Int))(chs:List (Str×Str))(bn iv:List Str):Prop:=bB A i rows (dP .str aU) (dP .int ents) (dP .str chs) (nS bn) (nS iv)
section
variable {iv:List Str}{ent:Str->Int}{r c_ val:Str}{X:Rz Tr}{Y:bV}
def jk(tu:gP rows):eC rows (dP .str aU) (dP .int ents) (dP .str aO) (nS aQ) (nS iv):=⟨tu,Vm,flI,Vm,wL,wL⟩
def dq.lk (k:dq aU ents ent)(h:aU.lookup a_=some r):r∈gX:=k.rl _ (jd h)
theorem bdX{A1:Ab}:∀{cs:List (Bool×Str×Str)},cE (p7 (fX A (.ok .cA A1) cs) Y)=fX A (.ok .cA A1) cs
 |[]=>rfl
 |(true,_,_)::cs=>rfl
 |(false,_,_)::cs=>bdX (cs:=cs)
def v8(h:RA A aN rows aU ents aO aQ iv)(tu:gP rows)(hw:a_.length<=1000):lB [.at aN,.str a_] A=if(aU.lookup a_).isNone then .exc (.str "NotIn") A else .ok .cA A:=by
 have n:=y9 h (jk tu) hw;rw[eD]at n;rw[n];cases aU.lookup a_<;>rfl
end
section
variable {A1:Ab}{j t ks kb ka:Nat}{iv asked:List Str}{ent:Str->Int}{c_ val c6 d v p:Str}
theorem YW(h:RA A aN rows aU ents aO aQ iv)(tu:gP rows)(k:dq aU ents ent)(hw:a_.length<=1000)(q:(aU.lookup a_).isNone=false):lD [.at aN,.str a_] A=if decide (v7 aU a_<2)then .exc (.str "NoRight") A else .ok .cA A:=by
 obtain⟨r,b⟩:∃r,aU.lookup a_=some r:=by cases e:aU.lookup a_ with
  |none=>rw[e]at q;cases q
  |some r=>exact⟨r,rfl⟩
 show cE (fJ.1 [.sh (.at aN),.sh (.str a_)] A)=_;unfold fJ;obtain⟨w,s⟩:=jC (z:=a_) (acc:=Str.empty) (n:=0) (k:=λacc=>m6 (.ok (.str " is no keeper or owner")) (λacc=>Bt acc) acc) (bz 0) hw (by decide) λa g=>jC g (by decide+kernel) (by decide) λa g=>jN (by omega);have l2:wM [.str "keeper"]=.ok (.int 2):=oz (by decide+kernel);simp only[ev,cS,fK,f9,h.rG (jk tu),dW,b,dt,kY,oz (k.lk b),l2,Vn];rw[show v7 aU a_=lvl r by unfold v7;rw[b]];cases decide (lvl r<2)with
 |true=>simp only[ev,cS,fK,s,cw]
 |false=>rfl
end
def sF(l:List Str)(z:Str):List Str:=if l.contains z then l else l++[z]
theorem Uv{z:Str}:kZ (nS aQ) (.inr z) (.bl true)=nS (sF aQ z):=by
 show kZ (dP .bl (aQ.map λz=>(z,true))) (.inr z) (Tr.bl true)=_;rw[j7];unfold nS sF;congr 1;cases e:aQ.contains z with
 |false=>
  rw[qI (by rw[BN,e];rfl),bc fE,iE];rfl
 |true=>
  unfold eZ;rw[aW rfl,aW (by rw[List.any_map];exact xo.mpr ⟨z,dg.mp e,by simp⟩),cL];exact gw λy b=>by show(if y=z then(y,true)else(y,true))=_;split<;>rfl
def Px:(nS bw).length=bw.length:=by unfold nS;rw[je,bu]
section
variable {i:Nat}{iv:List Str}{ent:Str->Int}{d4 val:Str}
def AG{z:Str}(q:(aU.lookup z).isNone=false):∃r,aU.lookup z=some r:=by
 cases e:aU.lookup z with
 |none=>rw[e]at q;cases q
 |some r=>exact⟨r,rfl⟩
def za{r:Str}(h:aU.lookup a_=some r):v7 aU a_=lvl r:=by unfold v7;rw[h]
def AL{b:Str}:(∀A,sx (.ok (.tup [.str aP])) A=.ok (.tup [.str aP]) A)/\(∀A,sx (.ok (.tup [.str aP,.str b])) A=.ok (.tup [.str aP,.str b]) A):=⟨λ_=>rfl,λ_=>rfl⟩
abbrev Ej(rows:List Tr)(a_ c7:Str)(ps:List Tr):Ao:=.lst (rows++[g7 rows a_ c7 ps])
end
section
variable {A1:Ab}{c6 c_ val:Str}{iv:List Str}
def Py(h:cq A bh a9)(hw:a_.length<=1000)(q:aP.length<=1000):ir [.at 0,.tup [.str a_,.str aP]] A=if((bh.lookup a_).isSome&&(bh.lookup aP).isSome)=true then .ok .cA A else .exc (.str "NoPerson") A:=by
 show cE (dN.1 [.sh (.at 0),.sh (.tup [.str a_,.str aP]),.no] A)=_;unfold dN;have s:=DP (z:="nobody is called ") (y:=a_) (by decide+kernel) hw;have s':=DP (z:="nobody is called ") (y:=aP) (by decide+kernel) q;simp only[ev,cS,fK,f9,Hl,bZ,b_,h.O4,eD,jq];cases(bh.lookup a_).isSome with
 |false=>simp only[d8,ev,cS,fK,f9,s,xu,cK,cg]
 |true=>
  simp only[dA,ev,cS,fK,f9,bZ,b_,h.O4,eD,jq,pE];cases(bh.lookup aP).isSome with
  |true=>simp only[dA,ev,cS,cw]
  |false=>simp only[d8,ev,cS,fK,f9,s',cK,cg]
def v9(h:cq A bh a9)(hw:a_.length<=1000)(q:aP.length<=1000)(hj:a9.lookup c6=some aN):jj [.at 0,.tup [.str a_,.str aP],.str c6] A=if((bh.lookup a_).isSome&&(bh.lookup aP).isSome)=true then .ok (.at aN) A else .exc (.str "NoPerson") A:=by
 show cE (eJ.1 [.sh (.at 0),.sh (.tup [.str a_,.str aP]),.sh (.str c6)] A)=_;unfold eJ;simp only[ev,cS,fK,f9,h.call (m:="need_people") rfl,Py h hw q];cases((bh.lookup a_).isSome&&(bh.lookup aP).isSome)with
 |true=>simp only[cw,ev,cS,fK,f9,h.call (m:="place") rfl,Hv h hj]
 |false=>simp only[cK,cg,ev]
end
section
variable {ks kb ka n:Nat}{ent:Str->Int}{asked:List Str}{v p d4 c6 x3 c_ val:Str}
def Uw:decide (0<=v7 bo a_)=(bo.lookup a_).isSome:=by
 unfold v7;cases bo.lookup a_ with
 |none=>rfl
 |some r=>exact iF (FV r).1
def Cd{T:Tr}(q:jW T (.str "roles")=.ok (.bX (dP .str bo)))(k:dq bo ents ent):y3 [T,.str a_]=.ok (.int (v7 bo a_)):=by
 cases b:bo.lookup a_ with
 |some r=>rw[za b];exact FT q b (k.lk b)
 |none=>
  show dI (nv.1 [.sh T,.sh (.str a_)])=_;unfold nv;simp only[ev,cS,q,eD,b,pz,o8,show v7 bo a_=-1 by unfold v7;rw[b]]
theorem FW{c7:Str}{c9:List Tr}{wh:Bool}(m:fN A bw c8)(h:bK A aN ks kb ka rows bo stays aQ asked aP v p)(hj:c8.lookup c6=some aN)
  (hw:c7="arrange"/\wh=false\/(c7="ask"\/c7="role"\/c7="out"\/c7="bar"\/c7="unbar")/\wh=true)
  (hd:fy [aZ 3 A (.at aN),.tup (.str c7:: .str a_:: .str c6:: .str x3::c9)]=.ok (fW cs)):
  fD [aZ 5 A (.at 4),.tup (.str c7:: .str a_:: .str c6:: .str x3::c9)]=.ok (fW ((!(bw.contains a_&&(!wh||bw.contains x3)),"NoPerson","no person")::((bo.lookup a_).isNone,"NotIn","not in")::cs)):=by
 show dI (iz.1 [.sh (aZ 5 A (.at 4)),.sh (.tup (.str c7:: .str a_:: .str c6:: .str x3::c9)),.no,.no,.no])=_;unfold iz;have r:Bf (.str c7) (.tup [.str "ask",.str "role",.str "out",.str "bar",.str "unbar"])=.ok (.bl wh):=by rcases hw with⟨rfl,rfl⟩|⟨rfl|rfl|rfl|rfl|rfl,rfl⟩<;>rfl
 have g:Bf (.str c7) (.tup [.str "say",.str "mend",.str "take_back"])=.ok (.bl false):=by rcases hw with⟨rfl,_⟩|⟨rfl|rfl|rfl|rfl|rfl,_⟩<;>rfl
 have b:(c7==Str.ofString "come")=false/\(c7==Str.ofString "found")=false/\(c7==Str.ofString "enter")=false/\(c7==Str.ofString "leave")=false:=by rcases hw with⟨rfl,_⟩|⟨rfl|rfl|rfl|rfl|rfl,_⟩<;>decide+kernel
 have l1:∀a,zq (.ok [a])=.ok (.lst [a]):=λ_=>rfl;have t3:aZ 3 A (.at aN)=.bX (dP (aZ 2 A) (zy aN ks kb ka aP v p)):=h8 h.o;simp only[ev,cS,Eo,bZ,b_,b,l1,Hl];rw[lY (BL:=[.sh (.tup (.str c7:: .str a_:: .str c6:: .str x3::c9)),.sh (.str c7)]) (λ_:Unit=>wh) (λ_=>.int 3) (λ_=>.str x3) (xs:=[()]) (by rfl) (by decide) rfl (λ_ _=>by simp only[ev,cS,r]) (λ_ _ e=>by simp only[ev,cS,Eo])];have a1:wa (.lst [.str a_]) (.lst (([()].filter λ_=>wh).map λ_=>.str x3))=.ok (.lst ((a_::if wh then[x3]else[]).map .str)):=by cases wh<;>rfl
 simp only[a1,ev,cS,Hl,bZ,b_];have I:(a_::if wh then[x3]else[]).length<=ee:=by
  cases wh
  ·show 1<=ee;decide
  ·show 2<=ee;decide
 rw[rf (ns:=a_::if wh then[x3]else[]) (BL:=[.sh (aZ 5 A (.at 4))]) (λz=>!bw.contains z) (by rfl) I rfl (λ_=>rfl) ?hC]
 case hC=>intro z _;simp only[ev,cS,m.Uo (n:=3),yO]
 have L:pT (.lst ((List.filter (λz=>!bw.contains z) (a_::if wh then[x3]else[])).map .str))=.ok (!(bw.contains a_&&(!wh||bw.contains x3))):=by
  cases wh<;>simp only[pf,xr,cw,cK,cg]<;>cases bw.contains a_<;>first|rfl|(cases bw.contains x3<;>rfl)
 simp only[ev,cS,L];refine ifW (λq=>by simp only[q,ev]) λq=>?_
 simp only[q,ev,cS,Eo,m.Mb (n:=3),DR,hj,dt,ph,bZ,b_,b];rw[show GF (aZ 3 A (.at aN)) .cA=.ok (.bl false) by rw[t3];rfl];simp only[ev,cS,Eo,b,g,h.zz (n:=1),eD,jq];have l:(bo.lookup a_).isSome=!(bo.lookup a_).isNone:=by cases bo.lookup a_<;>rfl
 refine ifW (λq=>by simp only[l,q,dA,d8,ev]) λq=>by simp only[l,q,dA,d8,ev,cS,b,g,hd]
end
section
variable {A':Ab}{ks kb ka n:Nat}{l':List Str}{v p d' v' p' c6 c_ val:Str}
noncomputable abbrev Hx:List (Key×Tr):=[(.inr "arrange",.str "set"),(.inr "take_back",.str "gone")]
def nm1:(∀a b,zq (.ok [a,b])=.ok (.lst [a,b]))/\Fw [.lst [.tup [.str "arrange",.str "set"],.tup [.str "take_back",.str "gone"]]]=.ok (.bX Hx)/\(∀A,vg (.ok (.bX Hx)) A=.ok (.at A.length) (A++[.bX Hx])):=⟨λ_ _=>rfl,rfl,λ_=>rfl⟩
def nm2:aZ 5 (A++[.bX Hx]) (.at A.length)=.bX Hx:=by rw[gn lX];rfl
def gt2{a b:Tr}{Y:bV}{c e:Cell}:KJ (gT [2,3]) (.ok (.tup [a,b]) A) (c::e:: .no:: .no::Y)=.ok (.nx (c::e:: .sh a:: .sh b::Y)) A:=rfl
noncomputable abbrev Ek(aP v p:Str):List (Str×Str):=[("door",aP),("voice",v),("past",p)]
abbrev jS(aN ks kb ka:Nat):List Nat:=[aN,aN+1,aN+2,ks,kb,ka]
end
structure Dat where
 rows:List Tr
 aU:List (Str×Str)
 ents:List (Str×Int)
 ent:Str->Int
 stays:List nW
 cn:List Str
 inv:List Str
 asked:List Str
 d:Str
 v:Str
 p:Str
 ks:Nat
 kb:Nat
 ka:Nat
noncomputable abbrev six:List Str:=["ann","bo","cy","dee","ed","zed"]
def fS{z:Str}(h:z∈six):z.length<=1000:=(by decide+kernel:∀z∈six,z.length<=1000) z h
def jl(rows:List Tr):Prop:=∀t∈rows,∃us,t=.tup us/\us.all ye=true/\us.length<=10
section
variable {cM us:List Tr}{ent:Str->Int}{inv asked:List Str}{t:Nat}
def jl.tu (h:jl rows):gP rows:=λt b=>by obtain⟨us,e,_⟩:=h t b;exact⟨us,e⟩
def jl.add (h:jl rows)(q:us.all ye=true)(hl:us.length<=10):jl (rows++[.tup us]):=λt b=>by
 rcases dr.mp b with b|b
 ·exact h t b
 ·exact⟨us,cV.mp b,q,hl⟩
def dz{n:Nat}(h:n<10000):n<ee:=dh h (by decide)
def wQ{α:Type}{l:List (Str×α)}{z:Str}{a:α}:(eZ l z a).length<=l.length+1:=by
 unfold eZ;split
 ·rw[bu];omega
 ·rw[eR];exact bz _
def g8.names (o:g8 rows aU cM bo):bo.map (·.1)=aU.map (·.1):=by
 cases o with
 |same _=>rfl
 |zE z g _ _=>
  obtain⟨a,r,e,_⟩:=g.ex;exact y' (cH.mpr ⟨_,d7 e,rfl⟩)
theorem g8.len (o:g8 rows aU cM bo):rows.length<=cM.length/\cM.length<=rows.length+1/\bo.length=aU.length:=by
 have hn:bo.length=aU.length:=by have:=cX List.length o.names;simpa using this
 cases o with
 |same _=>omega
 |zE z g _ _=>rw[eR];exact⟨by omega,bz _,hn⟩
theorem g8.jl (o:g8 rows aU cM bo)(h:jl rows):jl cM:=by
 cases o with
 |same _=>exact h
 |zE z g _ _=>exact h.add rfl (by show 5<=10;decide)
def g8.ow (o:g8 rows aU cM bo):bo=[]\/∃p∈bo,p.2="owner":=by
 cases o with
 |same h=>exact h
 |zE z g _ _=>exact .inr ⟨(z,"owner"),jd (by rw[y_,aW rfl]),rfl⟩
def zb(o:g8 rows aU cM bo)(h:∀p∈aU,ent p.1<rows.length+1):∀p∈bo,ent p.1<cM.length+1:=λp hp=>by
 have:p.1∈aU.map (·.1):=by rw[<-o.names];exact gx hp
 obtain⟨q,b,e⟩:=cH.mp this;have g:=h q b;have h2:=o.len.1;rw[<-e];omega
structure Good(rows:List Tr)(aU:List (Str×Str))(ents:List (Str×Int))(ent:Str->Int)(stays:List nW)(bw inv asked:List Str):Prop where
 fr:jl rows
 rk:dq aU ents ent
 op:oN stays=aU.map (·.1)
 lt:∀p∈aU,ent p.1<rows.length+1
 ow:aU=[]\/∃p∈aU,p.2="owner"
 ia:∀z,inv.contains z=asked.contains z
 ns:∀z∈aU.map (·.1),z∈six
 bs:∀z∈bw,z∈six
 is:∀z∈inv,z∈six
 nd:inv.Nodup
theorem Good.row (g:Good rows aU ents ent stays bw inv asked)(q:us.all ye=true)(hl:us.length<=10):Good (rows++[.tup us]) aU ents ent stays bw inv asked:=
 ⟨g.fr.add q hl,g.rk,g.op,λp hp=>by have:=g.lt p hp;rw[eR];show ent p.1<((rows.length+1:Nat):Int)+1;omega,g.ow,g.ia,g.ns,g.bs,g.is,g.nd⟩
abbrev Q0(D:Dat):Prop:=Good D.rows D.aU D.ents D.ent D.stays D.cn D.inv D.asked
structure Bd(D:Dat)(t:Nat):Prop where
 b1:D.rows.length<=3+2*t
 b2:D.aU.length<=3+t
 b3:D.ents.length<=3+t
 b4:D.stays.length<=3+t
 b5:D.asked.length<=t
 b6:D.cn.length<=t
 b7:D.inv.length<=t
end
structure Pr(A:Ab)(i j:Nat)(D:Dat)(t:Nat):Prop where
 r:RA A i D.rows D.aU D.ents (Ek D.d D.v D.p) D.cn D.inv
 m:bK A j D.ks D.kb D.ka D.rows D.aU D.stays D.cn D.asked D.d D.v D.p
 g:Q0 D
 b:Bd D t
 dj:∀k∈jS j D.ks D.kb D.ka,6<k/\(k<i\/i+6<k)
 hi:6<i
def Kept(A:Ab)(D D':Dat):Prop:=∀k∈[D'.ks,D'.kb,D'.ka],k∈[D.ks,D.kb,D.ka]\/A.length<=k
abbrev touched(i j:Nat)(D:Dat):List Nat:=iS i++jS j D.ks D.kb D.ka
def Res(A:Ab)(i j:Nat)(D:Dat)(t:Nat)(ts:List Tr):Prop:=∃A' D',jR [.at 0,.at 4,.tup ts] A=.ok (.bl true) A'/\iY A A' (touched i j D)/\Pr A' i j D' (t+1)/\Kept A D D'
noncomputable abbrev YX:List (Str×Str):=[("Known","known"),("NoPerson","no person"),("NotIn","not in"),("NotAsked","not asked"),("Barred","barred"),("NoRight","no right")]
section
variable {A' A2:Ab}{j t:Nat}{D D':Dat}{c6 x w:Str}{ts:List Tr}{X:Rz Tr}
def Ux(h:(x,w)∈YX):(["Known","NoPerson","NoRoom","NotIn","NotAsked","Barred","NoRight","NoRow","NoHand","NoLine"]:List Str).contains x=true/\y4 [.zR x]=.ok (.str w)/\fA 5 [.str w,.str w]=.ok (.bl true):=by
 simp only[bG,cP,cQ,Prod.mk.injEq]at h;rcases h with⟨rfl,rfl⟩|⟨rfl,rfl⟩|⟨rfl,rfl⟩|⟨rfl,rfl⟩|⟨rfl,rfl⟩|⟨rfl,rfl⟩<;>exact⟨by decide+kernel,rfl,rfl⟩
def Bd.more (b:Bd D t):Bd D (t+1):=by obtain⟨g,h2,l,n,r,I,L⟩:=b;exact⟨by omega,by omega,by omega,by omega,by omega,by omega,by omega⟩
theorem Pr.kp {S:List Nat}(P:Pr A aN j D t)(e:iY A A' S)(q:∀k∈S,(k<aN\/aN+6<k)/\k∉jS j D.ks D.kb D.ka):Pr A' aN j D (t+1):=
 ⟨bB.kp P.r e λk l=>(q k l).1,bK.kp P.m e λk l h=>(q k h).2 l,P.g,P.b.more,P.dj,P.hi⟩
theorem s_same(P:Pr A aN j D t)(h:jR [.at 0,.at 4,.tup ts] A=.ok (.bl true) (A++[.Em x])):Res A aN j D t ts:=
 ⟨_,D,h,iY.push,P.kp (iY.push (S:=[])) λ_ h=>(nomatch h),λ_ h=>.inl h⟩
theorem O3:∀{cs:List (Bool×Str×Str)},(∀c∈cs,c.1=false)\/∃c∈cs,fW cs=.str c.2.2/\fX A X cs=.exc (.str c.2.1) A
 |[]=>.inl λc h=>nomatch h
 |(true,x,w)::cs=>.inr ⟨_,cD ..,rfl,rfl⟩
 |(false,x,w)::cs=>by
  rcases O3 (cs:=cs)with h|⟨c,h,h2⟩
  ·exact .inl λc b=>by
    rcases bG.mp b with rfl|b
    ·rfl
    ·exact h c b
  ·exact .inr ⟨c,cu _ h,h2⟩
theorem YY:∀{cs:List (Bool×Str×Str)},(∀c∈cs,c.1=false)->fW cs=.cA
 |[],_=>rfl
 |(b,x,w)::cs,h=>by
  have:b=false:=h _ (cD ..);subst this;exact YY (cs:=cs) λc g=>h c (cu _ g)
def u0(P:Pr A aN j D t)(q:fD [aZ 5 A (.at 4),.tup ts]=.ok (fW cs))(hc:fQ [.at 0,.tup ts] A=fX A X cs)(he:∀c∈cs,c.2∈YX)(dn:(∀c∈cs,c.1=false)->fD [aZ 5 A (.at 4),.tup ts]=.ok .cA->Res A aN j D t ts):Res A aN j D t ts:=by
 rcases O3 (A:=A) (X:=X) (cs:=cs)with h|⟨c,h,h1,h2⟩
 ·exact dn h (by rw[q,YY h])
 ·obtain⟨b,g,l⟩:=Ux (he c h);rw[h1]at q;rw[h2]at hc;exact s_same P (Pt q (Pq hc b g) l)
def Pr.abH (P:Pr A aN j D t)(kp:Kept A D D'):∀k∈jS j D'.ks D'.kb D'.ka,6<k/\(k<aN\/aN+6<k):=λk b=>by
 have l:=iN P.r.iv;have g:=P.hi;have q:∀k,k∈[D'.ks,D'.kb,D'.ka]->6<k/\(k<aN\/aN+6<k):=λk b=>by
  rcases kp k b with h|h
  ·exact P.dj k (cu _ (cu _ (cu _ h)))
  ·omega
 rcases bG.mp b with rfl|b
 ·exact P.dj _ (by simp)
 rcases bG.mp b with rfl|b
 ·exact P.dj _ (by simp)
 rcases bG.mp b with rfl|b
 ·exact P.dj _ (by simp)
 exact q k b
def u3(P:Pr A aN j D t)(hH:cq A bh a9)(hr:fD [aZ 5 A (.at 4),.tup ts]=.ok .cA)(hd:ny [.at 4,.tup ts] A=.ok .cA A2)(t1:iY A A2 (jS j D.ks D.kb D.ka))
  (m2:bK A2 j D'.ks D'.kb D'.ka D'.rows D'.aU D'.stays D'.cn D'.asked D'.d D'.v D'.p) (kp:Kept A D D')
  (pr:cq A2 bh a9->RA A2 aN D.rows D.aU D.ents (Ek D.d D.v D.p) D.cn D.inv->∃q,fQ [.at 0,.tup ts] A2=.ok .cA q/\iY A2 q (iS aN)/\RA q aN D'.rows D'.aU D'.ents (Ek D'.d D'.v D'.p) D'.cn D'.inv)
  (g:Q0 D') (b:Bd D' (t+1)):Res A aN j D t ts:=by
 obtain⟨q,L,n,M⟩:=pr (cq.kp hH t1 λk l=>(P.dj k l).1) (bB.kp P.r t1 λk l=>(P.dj k l).2);have I:=P.abH kp;refine⟨q,D',Pu hr hd (Ut L),(t1.sub λk l=>dr.mpr (.inr l)).trans (n.sub λk l=>dr.mpr (.inl l)),⟨M,bK.kp m2 n λk l h=>?_,g,b,I,P.hi⟩,kp⟩;have:=I k l;simp only[bG,cP,cQ]at h;omega
end
section
variable {A1 A2:Ab}{j t:Nat}{D D':Dat}{d4 c_ val c7:Str}{c9:List Tr}
theorem FX(hw:c7="arrange"\/c7="ask"\/c7="role"\/c7="out"\/c7="bar"\/c7="unbar")(m:fN A bw c8)(q:c8.lookup aP=some j)(q1:jP [.at j,.tup (.str c7:: .str a_:: .str aP::c9)] A=.ok .cA A1)(q2:kJ [.at j] A1=.ok .cA A2)
  (sl:sI (.ok (.tup (.str c7:: .str a_:: .str aP::c9))) (.ok none) (EZ (.ok (.int 2)))=.ok (.tup [.str c7,.str a_])):ny [.at 4,.tup (.str c7:: .str a_:: .str aP::c9)] A=.ok .cA A2:=by
 show cE (jQ.1 [.sh (.at 4),.sh (.tup (.str c7:: .str a_:: .str aP::c9)),.no,.no,.no] A)=_;unfold jQ;have b:(c7==Str.ofString "come")=false/\(c7==Str.ofString "found")=false/\(c7==Str.ofString "say")=false/\(c7==Str.ofString "enter")=false/\(c7==Str.ofString "leave")=false:=by rcases hw with rfl|rfl|rfl|rfl|rfl|rfl<;>decide+kernel
 simp only[ev,cS,fK,f9,Eo,sl,AL,gt2,b,jw,m.Up,wK m.rs,dW,q,dt,kY,bZ,b_,q1,q2]
def Hy{kb ka:Nat}{ent:Str->Int}{p:Str}(h:bK A j aN kb ka rows bo stays bw aQ a_ aP p)(f:gP rows)(k:dq bo ents ent)(ho:oN stays=bo.map (·.1))(ow:bo=[]\/∃p∈bo,p.2="owner")(hl:rows.length<ee)(hs:stays.length<=ee)(hr:bo.length<ee):
  ∃A',kJ [.at j] A=.ok .cA A'/\(∀aN kb ka,iY A A' (jS j aN kb ka))/\bK A' j aN kb ka rows bo stays bw aQ a_ aP p:=by
 obtain⟨A',cM,lr,q,o,x,m⟩:=uZ h f k ho hl hs hr;obtain⟨rfl,rfl⟩:=o.one (.same ow);exact⟨A',q,λ_ _ _=>iY.of x (by simp),m⟩
def Kept.refl:Kept A D D:=λ_ h=>.inl h
abbrev Dr(D:Dat)(a_ c7:Str)(ps:List Tr):Dat:={D with rows:=D.rows++[g7 D.rows a_ c7 ps]}
def oS{α:Type}{l:List α}{a:α}:(l++[a]).length=l.length+1:=by rw[eR];rfl
def MH{y:Str}:(sF bw a_).contains y=(bw++[a_]).contains y:=by
 unfold sF;split
 ·rename_i h;rw[mI,dg,dg,dr];refine⟨.inl,λq=>?_⟩;rcases q with q|q
  ·exact q
  ·rw[cV.mp q];exact dg.mp h
 ·rfl
def Uy{z:Str}(h:a_∈sF bw z):a_∈bw\/a_=z:=by
 have:=MH▸dg.mpr h;rcases dr.mp (dg.mp this)with h|h
 ·exact .inl h
 ·exact .inr (cV.mp h)
def Uz{l:List Str}{z:Str}(h:l.Nodup):(sF l z).Nodup:=by
 unfold sF;split
 ·exact h
 ·rename_i q;refine tq.mpr ⟨h,wZ _ _,λa g b hb e=>q ?_⟩;rw[cV.mp hb]at e;exact dg.mpr (e▸g)
def UA{l:List Str}{z:Str}:(sF l z).length<=l.length+1:=by
 unfold sF;split
 ·omega
 ·rw[oS];exact bz _
theorem AH{n:Int}:∀{stays:List nW},oN (stays.map (jT a_ n))=(oN stays).filter λz=>!(z==a_)
 |[]=>rfl
 |s::stays=>by
  obtain⟨a,b,c,e⟩:=s;have g:=AH (n:=n) (stays:=stays);unfold oN at g⊢;rw[bO];cases e with
  |some m=>
   have:jT a_ n (a,b,c,some m)=(a,b,c,some m):=by simp[jT]
   rw[this,ki (by simp),ki (by simp)];exact g
  |none=>
   rw[lL (a:=(a,b,c,none)) (by rfl),bO];by_cases q:a=a_
   ·subst q;have:jT a n (a,b,c,none)=(a,b,c,some n):=by simp[jT]
    rw[this,ki (by simp),ki (by simp)];exact g
   ·have:jT a_ n (a,b,c,none)=(a,b,c,none):=by simp[jT,q]
    rw[this,lL (by rfl),bO,lL (by simpa using q),g]
def zc:(lq aU a_).map (·.1)=(aU.map (·.1)).filter λz=>!(z==a_):=by
 unfold lq;rw[px];congr 1;refine tD λq _=>?_
 show decide (q.1≠a_)=!(q.1==a_);by_cases h:q.1=a_<;>simp[h]
end
def contains_filter{l:List Str}{P:Str->Bool}{z:Str}:(l.filter P).contains z=(l.contains z&&P z):=by
 rw[mI,dg,gy,bW,dg]
section
variable {j t:Nat}{D:Dat}{c6:Str}
theorem Pz(P:Pr A aN j D t)(hH:cq A bh a9)(hM:fN A bw c8)(hi:a9.lookup c6=some aN)(hj:c8.lookup c6=some j)(hp:∀z,(bh.lookup z).isSome=bw.contains z)(h6:a_∈six)(ht:t<=1000):Res A aN j D t [.str "enter",.str a_,.str c6]:=by
 have tu:=P.g.fr.tu;have hs:=fS h6;have b1:=P.b.b1;have b2:=P.b.b2;have b3:=P.b.b3;have b4:=P.b.b4;have b5:=P.b.b5;have b6:=P.b.b6;have b7:=P.b.b7;have fl:eC D.rows (dP .str D.aU) (dP .int D.ents) (dP .str (Ek D.d D.v D.p)) (nS D.cn) (nS D.inv):=jk tu;have hr:=Hw (a_:=a_) (c7:="enter") hM P.m hj (.inr (.inl rfl));have I:=λ{A:Ab} (hH:cq A bh a9) (r:RA A aN D.rows D.aU D.ents (Ek D.d D.v D.p) D.cn D.inv)=>(ME (a_:=a_) (c6:=c6) hH).trans (Mz hH hs hi (by rw[r.call (m:="enter") rfl];rfl));simp only[hp]at I;have s2:¬(Str.ofString "enter"=Str.ofString "found"):=by decide+kernel
 have vb:∀{b},D.cn.contains a_=b->fc (nS D.cn) (.inr a_)=if b then some (.bl true)else none:=λe=>by rw[FE,e]
 refine u0 (cs:=[(!bw.contains a_,"NoPerson","no person"),((D.aU.lookup a_).isSome,"Known","known"),(D.cn.contains a_,"Barred","barred"),(decide (D.d="asked")&&!D.asked.contains a_,"NotAsked","not asked")]) (X:=fQ [.at 0,.tup [.str "enter",.str a_,.str c6]] A) P (hr.trans ?_) ?_ (by simp) λall LA=>?_
 ·simp only[s2,cg,cw];cases bw.contains a_ with
  |false=>rfl
  |true=>
   cases(D.aU.lookup a_).isSome with
   |true=>rfl
   |false=>
    cases D.cn.contains a_ with
    |true=>rfl
    |false=>by_cases hd:D.d="asked"<;>cases D.asked.contains a_<;>simp[fW,hd]
 ·refine FU (λq=>by rw[I hH P.r,show bw.contains a_=false by simpa using q];rfl) λq=>?_
  have I:=I hH P.r;rw[show bw.contains a_=true by simpa using q,aW rfl]at I;refine FU (λq=>?_) λq=>FU (λq2=>?_) λq2=>FU (λq3=>?_) λq3=>rfl
  ·obtain⟨r,L⟩:=sP.mp q;rw[I,Mv P.r fl hs L];rfl
  ·rw[I,Mw (r:=.bl true) P.r fl hs (by simpa using q) (vb q2)];rfl
  ·rw[bW,pb]at q3;rw[I,Mx P.r fl hs (by simpa using q) (vb q2) (show some D.d=some _ by rw[eO q3.1]) (by rw[FE,P.g.ia,q3.2];rfl)];rfl
 have a1:bw.contains a_=true:=by simpa using all _ (cD ..)
 have L:D.aU.lookup a_=none:=by simpa using all ((D.aU.lookup a_).isSome,"Known","known") (by simp)
 have a3:=all (D.cn.contains a_,"Barred","barred") (by simp);have a4:=all (decide (D.d="asked")&&!D.asked.contains a_,"NotAsked","not asked") (by simp);obtain⟨A1,YS,f1,q1,le1,x1,m1⟩:=MB (a_:=a_) (c7:="enter") P.m tu (dz (by omega)) (dz (by omega)) (dz (by omega)) (dC (dz (by omega)));have Q1:=P.g.rk.enter (a_:=a_) (n:=D.rows.length+1) (r:="guest") L P.g.lt hs (by decide+kernel);have hnm:(eZ D.aU a_ "guest").map (·.1)=D.aU.map (·.1)++[a_]:=by rw[qI L,iE];rfl
 have pl:=wQ (l:=D.aU) (z:=a_) (a:=("guest":Str));have YZ:oN (D.stays++[(a_,f1,(D.rows.length+1:Int),none)])=(eZ D.aU a_ "guest").map (·.1):=by
  unfold oN;rw[List.filter_append,iE,hnm,<-P.g.op];rfl
 obtain⟨A2,cM,cU,q2,M,x2,m2⟩:=uZ m1 (m_ tu) Q1 YZ (by rw[oS];exact dz (by omega)) (by rw[oS];exact dC (dz (by omega))) (dz (by omega));have ol:=M.len;rw[oS]at ol;refine u3 (D':=⟨cM,cU,eZ D.ents a_ (D.rows.length+1),λz=>if z=a_ then D.rows.length+1 else D.ent z,D.stays++[(a_,f1,(D.rows.length+1:Int),none)],D.cn,D.inv.filter λz=>!(z==a_),D.asked.filter λz=>!(z==a_),D.d,D.v,D.p,D.ks,D.kb,YS⟩) P hH LA (MC hM hj q1 q2) ((iY.of x1 (by simp)).trans (iY.of x2 (by simp))) m2 (λk L=>?_) (λPB r2=>?_) ⟨M.jl (P.g.fr.add rfl (by show 3<=10;decide)),M.FR Q1,YZ.trans M.names.symm,zb M λq S=>?_,M.ow,λz=>?_,λz hz=>?_,P.g.bs,λz hz=>P.g.is z (gy.mp hz).1,P.g.nd.sublist List.filter_sublist⟩ ⟨by show cM.length<=_;omega,by show cU.length<=_;omega,?_,by show(D.stays++[_]).length<=_;rw[oS];omega,by show(D.asked.filter _).length<=_;have:=o4 (λz=>!(z==a_)) D.asked;omega,by show D.cn.length<=_;omega,by show(D.inv.filter _).length<=_;have:=o4 (λz=>!(z==a_)) D.inv;omega⟩
 ·simp only[bG,cP,cQ]at L⊢;omega
 ·obtain⟨A3,Q2,MI,q3,o3,x3,r3⟩:=Pm (a_:=a_) (d:=D.d) r2 fl P.g.rk P.g.lt (dz (by omega)) (dz (by omega)) (dz (by omega)) hs L (vb a3) rfl (by
   by_cases h9:D.d="asked"
   ·right;rw[FE,P.g.ia];rw[h9]at a4;rw[show D.asked.contains a_=true by simpa using a4];rfl
   ·exact .inl h9)
  obtain⟨rfl,rfl⟩:=M.one o3;rw[O8]at r3;have I:=I PB r2;rw[a1,aW rfl,q3]at I;exact⟨A3,I,iY.of x3 (by simp),r3⟩
 ·rw[qI L]at S;show(if q.1=a_ then(D.rows.length+1:Int)else D.ent q.1)<((D.rows++[g7 D.rows a_ "enter" []]).length:Int)+1;rw[oS];rcases dr.mp S with S|S
  ·rw[bc (lookup_none L q S)];have:=P.g.lt q S;omega
  ·cases cV.mp S;rw[aW rfl];omega
 ·show(D.inv.filter λz=>!(z==a_)).contains z=(D.asked.filter λz=>!(z==a_)).contains z;rw[contains_filter,contains_filter,P.g.ia]
 ·have hz:z∈cU.map (·.1):=hz;rw[M.names,hnm]at hz;rcases dr.mp hz with hz|hz
  ·exact P.g.ns z hz
  ·rw[cV.mp hz];exact h6
 ·show(eZ D.ents a_ _).length<=_;have:=wQ (l:=D.ents) (z:=a_) (a:=(D.rows.length+1:Int));omega
theorem PC(P:Pr A aN j D t)(hH:cq A bh a9)(hM:fN A bw c8)(hi:a9.lookup c6=some aN)(hj:c8.lookup c6=some j)(hp:∀z,(bh.lookup z).isSome=bw.contains z)(h6:a_∈six)(ht:t<=1000):Res A aN j D t [.str "leave",.str a_,.str c6]:=by
 have tu:=P.g.fr.tu;have hs:=fS h6;have b1:=P.b.b1;have b2:=P.b.b2;have b3:=P.b.b3;have b4:=P.b.b4;have b5:=P.b.b5;have b6:=P.b.b6;have b7:=P.b.b7;have fl:eC D.rows (dP .str D.aU) (dP .int D.ents) (dP .str (Ek D.d D.v D.p)) (nS D.cn) (nS D.inv):=jk tu;have hr:=Hw (a_:=a_) (c7:="leave") hM P.m hj (.inr (.inr rfl));have I:=λ{A:Ab} (hH:cq A bh a9) (r:RA A aN D.rows D.aU D.ents (Ek D.d D.v D.p) D.cn D.inv)=>(MF (a_:=a_) (c6:=c6) hH).trans (MA hH hs hi (by rw[r.call (m:="leave") rfl];rfl));simp only[hp]at I;have s2:¬(Str.ofString "leave"=Str.ofString "found"):=by decide+kernel
 have s3:¬(Str.ofString "leave"=Str.ofString "enter"):=by decide+kernel
 refine u0 (cs:=[(!bw.contains a_,"NoPerson","no person"),(!(D.aU.lookup a_).isSome,"NotIn","not in")]) (X:=fQ [.at 0,.tup [.str "leave",.str a_,.str c6]] A) P (hr.trans ?_) ?_ (by simp) λall LA=>?_
 ·simp only[s2,s3,cg];cases bw.contains a_<;>cases(D.aU.lookup a_).isSome<;>rfl
 ·refine FU (λq=>by rw[I hH P.r,show bw.contains a_=false by simpa using q];rfl) λq=>FU (λL=>?_) λL=>rfl;rw[I hH P.r,show bw.contains a_=true by simpa using q,aW rfl,My P.r fl hs (by simpa using L)];rfl
 have a1:bw.contains a_=true:=by simpa using all _ (cD ..)
 obtain⟨r,M⟩:∃r,D.aU.lookup a_=some r:=sP.mp (by simpa using all (!(D.aU.lookup a_).isSome,"NotIn","not in") (by simp));have q0:=vA (a_:=a_) (ps:=[.str "leave"]) P.m tu (dz (by omega)) (by show 2+1<=ee;decide) rfl;have x0:=Ext.put (o:=.lst (D.rows++[g7 D.rows a_ "leave" []])) P.m.rw;have m0:=P.m.FC x0;obtain⟨A1,YT,q1,le1,x1,m1⟩:=Pp (a_:=a_) (n:=D.rows.length+1) m0 (dC (dz (by omega))) M;have Q1:=P.g.rk.leave (a_:=a_);have dl:=o4 (λp:Str×Str=>decide (p.1≠a_)) D.aU;have YZ:oN (D.stays.map (jT a_ (D.rows.length+1)))=(lq D.aU a_).map (·.1):=by rw[AH,P.g.op,zc]
 obtain⟨A2,cM,S,L,l,x2,m2⟩:=uZ m1 (m_ tu) Q1 YZ (by rw[oS];exact dz (by omega)) (by rw[bu];exact dC (dz (by omega))) (dz (by show(D.aU.filter _).length<_;omega));have le0:=x0.le;have ol:=l.len;rw[oS]at ol;have ol3:S.length=(D.aU.filter λp=>decide (p.1≠a_)).length:=ol.2.2;refine u3 (D':=⟨cM,S,D.ents,D.ent,D.stays.map (jT a_ (D.rows.length+1)),D.cn,D.inv,D.asked,D.d,D.v,D.p,YT,D.kb,D.ka⟩) P hH LA (MD hM hj q0 q1 L) (((iY.of x0 (by simp)).trans (iY.of x1 (by simp))).trans (iY.of x2 (by simp))) m2 (λk M=>?_) (λPB r2=>?_) ⟨l.jl (P.g.fr.add rfl (by show 3<=10;decide)),l.FR Q1,YZ.trans l.names.symm,zb l λq hq=>?_,l.ow,P.g.ia,λz hz=>?_,P.g.bs,P.g.is,P.g.nd⟩ ⟨by show cM.length<=_;omega,by show S.length<=_;omega,by show D.ents.length<=_;omega,by show(D.stays.map _).length<=_;rw[bu];omega,by show D.asked.length<=_;omega,by show D.cn.length<=_;omega,by show D.inv.length<=_;omega⟩
 ·simp only[bG,cP,cQ]at M⊢;omega
 ·obtain⟨A3,Q2,MI,q3,o3,x3,r3⟩:=Pn (a_:=a_) r2 fl P.g.rk (dz (by omega)) (dz (by omega)) hs M;obtain⟨rfl,rfl⟩:=l.one o3;have I:=I PB r2;rw[a1,aW rfl,q3]at I;exact⟨A3,I,iY.of x3 (by simp),r3⟩
 ·have:=P.g.lt q (gy.mp hq).1;show D.ent q.1<((D.rows++[g7 D.rows a_ "leave" []]).length:Int)+1;rw[oS];omega
 ·have hz:z∈S.map (·.1):=hz;rw[l.names,zc]at hz;exact P.g.ns z (gy.mp hz).1
end
section
variable {A1:Ab}{j t ks kb ka:Nat}{D:Dat}{iv cn asked:List Str}{ent:Str->Int}{c_ val c6 d v p:Str}
def Y0(h:RA A aN rows aU ents aO aQ iv)(tu:gP rows)(k:dq aU ents ent)(hw:a_.length<=1000)(hl:rows.length<ee)(hc:aO.length<ee):
  lF [.at aN,.str a_,.str c_,.str val] A=fX A (.ok .cA ((A.set (aN+1) (Ej rows a_ "set" [.str c_,.str val])).set (aN+4) (.bX (dP .str (eZ aO c_ val))))) [((aU.lookup a_).isNone,"NotIn","not in"),(decide (v7 aU a_<2),"NoRight","no right")]:=by
 show cE (iT.1 [.sh (.at aN),.sh (.str a_),.sh (.str c_),.sh (.str val)] A)=_;unfold iT;simp only[ev,cS,fK,f9,h.call (m:="need_in") rfl,v8 h tu hw];refine FU (λq=>by simp only[q,cw,ev]) λq=>?_
 simp only[q,cK,cg,ev,cS,fK,f9,h.call (m:="need_keeper") rfl,YW h tu k hw q];refine FU (λq=>by simp only[q,cw,ev]) λq=>?_
 have w:=uX (a_:=a_) (c7:="set") (ps:=[.str c_,.str val]) h (jk tu) hl (by show 3+2<=ee;decide) rfl;have h1:=h.BJ (Ext.put (o:=Ej rows a_ "set" [.str c_,.str val]) h.lg);have ep:=lp (z:=c_) (t:=.str val) (Y:=[.sh (.at aN),.sh (.str a_),.sh (.str c_),.sh (.str val)]) h1.ch (by rw[je];exact hc);rw[j7]at ep;simp only[q,cK,cg,ev,cS,fK,f9,h.call (m:="write_row") rfl,AL,w,ml,h1.O3,ep,fX]
theorem Y1(q:cq A bh a9)(hi:a9.lookup c6=some aN)(h:RA A aN rows aU ents aO aQ iv)(hw:a_.length<=1000)(hR:lF [.at aN,.str a_,.str c_,.str val] A=fX A (.ok .cA A1) cs):
  fQ [.at 0,.tup [.str "arrange",.str a_,.str c6,.str c_,.str val]] A=fX A (.ok .cA A1) ((!(bh.lookup a_).isSome,"NoPerson","no person")::cs):=by
 show cE (fP.1 [.sh (.at 0),.sh (.tup [.str "arrange",.str a_,.str c6,.str c_,.str val]),.no] A)=_;unfold fP;simp only[ev,cS,fK,f9,Eo,bZ,b_,sn,String.reduceBEq,bU,q.call (m:="arrange") rfl,YU];show cE (iU.1 [.sh (.at 0),.sh (.str a_),.sh (.str c6),.sh (.str c_),.sh (.str val)] A)=_;unfold iU;simp only[ev,cS,fK,f9,q.call (m:="place_for") rfl,(AL (b:=a_)).1,sO q hw hi];cases(bh.lookup a_).isSome with
 |false=>rfl
 |true=>simp only[cw,ev,cS,fK,f9,h.call (m:="arrange") rfl,hR,bdX];rfl
theorem UB(h:bK A j ks kb ka rows bo stays cn asked d v p)(k:dq bo ents ent):fy [aZ 3 A (.at j),.tup [.str "arrange",.str a_,.str c6,.str c_,.str val]]=.ok (fW [(decide (v7 bo a_<2),"NoRight","no right")]):=by
 show dI (dw.1 [.sh (aZ 3 A (.at j)),.sh (.tup [.str "arrange",.str a_,.str c6,.str c_,.str val]),.no,.no,.no,.no])=_;unfold dw;have sl:sI (.ok (.tup [.str "arrange",.str a_,.str c6,.str c_,.str val])) (.ok none) (EZ (.ok (.int 2)))=.ok (.tup [.str "arrange",.str a_]):=rfl;have gt:∀a b Y c e,Ku (gT [2,3]) (.ok (.tup [a,b])) (c::e:: .no:: .no::Y)=.ok (.nx (c::e:: .sh a:: .sh b::Y)):=λ_ _ _ _ _=>rfl;have g:Bf (.str "arrange") (.tup [.str "role",.str "out"])=.ok (.bl false):=rfl;have l:Bf (.str "arrange") (.tup [.str "out",.str "bar"])=.ok (.bl false):=rfl;cases r:decide (v7 bo a_<2)<;>simp only[ev,cS,Eo,Vn,sl,gt,Cd (h.zz (n:=1)) k,g,l,sn,String.reduceBEq,bU,bZ,b_,fW,cw,cK,cg,tV,mK,dA,d8,r]
theorem Y2(h:bK A j ks kb ka rows bo stays cn asked d v p)(f:gP rows)(q:rows.length<ee)(hw:c_="door"\/c_="voice"\/c_="past"):
  ∃A' d' v' p',jP [.at j,.tup [.str "arrange",.str a_,.str c6,.str c_,.str val]] A=.ok .cA A'/\iY A A' (jS j ks kb ka)/\bK A' j ks kb ka (rows++[g7 rows a_ "set" [.str c_,.str val]]) bo stays cn asked d' v' p'/\eZ (Ek d v p) c_ val=Ek d' v' p':=by
 have h0:=h.ext (Ext.push (o:=.bX Hx)) λ_ _=>rfl;have w:=vA (a_:=a_) (ps:=[.str "set",.str c_,.str val]) h0 f q (by show 2+3<=ee;decide) rfl;have h1:=h0.FC (Ext.put (o:=.lst (rows++[g7 rows a_ "set" [.str c_,.str val]])) h0.rw);have t1:=(iY.push (A:=A) (o:=.bX Hx) (S:=jS j ks kb ka)).trans (iY.put (o:=(.lst (rows++[g7 rows a_ "set" [.str c_,.str val]]))) h0.rw (by simp));obtain⟨d',v',p',b,g⟩:∃d' v' p',eZ (zy j ks kb ka d v p) c_ (.str val)=zy j ks kb ka d' v' p'/\eZ (Ek d v p) c_ val=Ek d' v' p':=by
  rcases hw with rfl|rfl|rfl
  ·exact⟨val,v,p,rfl,rfl⟩
  ·exact⟨d,val,p,rfl,rfl⟩
  ·exact⟨d,v,val,rfl,rfl⟩
 refine⟨_,d',v',p',?_,t1.trans (iY.put h1.o (by simp)),h1.e_o (Ext.put h1.o),g⟩;show cE (fB.1 [.sh (.at j),.sh (.tup [.str "arrange",.str a_,.str c6,.str c_,.str val]),.no,.no,.no,.no] A)=_;unfold fB;have s1:sI (.ok (.tup [.str "arrange",.str a_,.str c6,.str c_,.str val])) (.ok none) (EZ (.ok (.int 2)))=.ok (.tup [.str "arrange",.str a_]):=rfl;have s2:sI (.ok (.tup [.str "arrange",.str a_,.str c6,.str c_,.str val])) (EZ (.ok (.int 3))) (.ok none)=.ok (.tup [.str c_,.str val]):=rfl;have s3:C7 (.ok (.bX Hx)) (.ok (.str "arrange")) (.ok (.str "arrange"))=.ok (.str "set"):=rfl;have s4:wa (.tup [.str "set"]) (.tup [.str c_,.str val])=.ok (.tup [.str "set",.str c_,.str val]):=rfl;have s5:∀A,sx (.ok (.tup [.str "set",.str c_,.str val])) A=.ok (.tup [.str "set",.str c_,.str val]) A:=λ_=>rfl;have l:Bf (.str "arrange") (.tup [.str "out",.str "bar"])=.ok (.bl false):=rfl;simp only[ev,cS,fK,f9,Eo,s1,AL,gt2,nm1,nm2,bZ,b_,s2,s3,s4,s5,w,sn,String.reduceBEq,bU,ml,h1.p_o b,l]
theorem Y3(P:Pr A aN j D t)(q:cq A bh a9)(hM:fN A bw c8)(hi:a9.lookup c6=some aN)(hj:c8.lookup c6=some j)(hp:∀z,(bh.lookup z).isSome=bw.contains z)(h6:a_∈six)(hw:c_="door"\/c_="voice"\/c_="past")(ht:t<=1000):Res A aN j D t [.str "arrange",.str a_,.str c6,.str c_,.str val]:=by
 have tu:=P.g.fr.tu;have hs:=fS h6;have b1:=P.b.b1;have b2:=P.b.b2;have b3:=P.b.b3;have b4:=P.b.b4;have b5:=P.b.b5;have b6:=P.b.b6;have b7:=P.b.b7;have hR:=λ{A:Ab} (r:RA A aN D.rows D.aU D.ents (Ek D.d D.v D.p) D.cn D.inv)=>Y0 (a_:=a_) (c_:=c_) (val:=val) r tu P.g.rk hs (dz (by omega)) (by show 3<ee;decide);have L:=FW (a_:=a_) (x3:=c_) (c9:=[.str val]) (wh:=false) hM P.m hj (.inl ⟨rfl,rfl⟩) (UB P.m P.g.rk);have I:=λ{A:Ab} (q:cq A bh a9) r=>Y1 (c6:=c6) q hi r hs (hR r);simp only[hp]at I;simp only[d8,tU,Bool.and_true]at L;refine u0 P L (I q P.r) (by simp) λall M=>?_
 obtain⟨A1,d',v',p',S,t1,m1,ec⟩:=Y2 (a_:=a_) (c6:=c6) (val:=val) P.m tu (dz (by omega)) hw;have g:=P.g.row (us:=[.int (D.rows.length+1),.str a_,.str "set",.str c_,.str val]) rfl (by show 5<=10;decide);obtain⟨A2,q2,t2,m2⟩:=Hy m1 g.fr.tu P.g.rk P.g.op P.g.ow (by rw[oS];exact dz (by omega)) (dC (dz (by omega))) (dz (by omega));refine u3 (D':={Dr D a_ "set" [.str c_,.str val]with d:=d',v:=v',p:=p'}) P q M (FX (.inl rfl) hM hj S q2 rfl) (t1.trans (t2 _ _ _)) m2 Kept.refl (λPB l=>⟨_,(I PB l).trans (Pw all),?_,?_⟩) g ⟨by show(D.rows++[_]).length<=_;rw[oS];omega,by show D.aU.length<=_;omega,by show D.ents.length<=_;omega,by show D.stays.length<=_;omega,by show D.asked.length<=_;omega,by show D.cn.length<=_;omega,by show D.inv.length<=_;omega⟩
 ·have n:=l.BJ (Ext.put (o:=Ej D.rows a_ "set" [.str c_,.str val]) l.lg);exact(iY.put l.lg (by simp)).trans (iY.put n.ch (by simp))
 ·have n:=l.BJ (Ext.put (o:=Ej D.rows a_ "set" [.str c_,.str val]) l.lg);rw[ec];exact n.abo (Ext.put n.ch)
end
section
variable {A1:Ab}{j t ks kb ka:Nat}{D:Dat}{iv cn asked:List Str}{ent:Str->Int}{d4 val c6 d v p:Str}
def Y4(h:RA A aN rows aU ents aO aQ iv)(tu:gP rows)(k:dq aU ents ent)(hw:a_.length<=1000)(hv:d4.length<=1000)(hl:rows.length<ee)(hc:iv.length<ee):
  sN [.at aN,.str a_,.str d4] A=fX A (.ok .cA ((A.set (aN+1) (Ej rows a_ "ask" [.str d4])).set (aN+6) (.bX (nS (sF iv d4))))) [((aU.lookup a_).isNone,"NotIn","not in"),(decide (v7 aU a_<2),"NoRight","no right"),((aU.lookup d4).isSome,"Known","known")]:=by
 show cE (om.1 [.sh (.at aN),.sh (.str a_),.sh (.str d4)] A)=_;unfold om;simp only[ev,cS,fK,f9,h.call (m:="need_in") rfl,v8 h tu hw];refine FU (λq=>by simp only[q,cw,ev]) λq=>?_
 simp only[q,cK,cg,ev,cS,fK,f9,h.call (m:="need_keeper") rfl,YW h tu k hw q];refine FU (λq=>by simp only[q,cw,ev]) λq=>?_
 have s:=DP (z:=d4) (y:=" is in the room") hv (by decide+kernel);simp only[q,cK,cg,ev,cS,fK,f9,h.rG (jk tu),eD,jq];refine FU (λq=>by simp only[q,ev,cS,fK,f9,s]) λq=>?_
 have w:=uX (a_:=a_) (c7:="ask") (ps:=[.str d4]) h (jk tu) hl (by show 3+1<=ee;decide) rfl;have h1:=h.BJ (Ext.put (o:=Ej rows a_ "ask" [.str d4]) h.lg);have ep:=lp (z:=d4) (t:=.bl true) (Y:=[.sh (.at aN),.sh (.str a_),.sh (.str d4)]) h1.iv (by rw[Px];exact hc);rw[Uv]at ep;simp only[q,ev,cS,fK,f9,h.call (m:="write_row") rfl,(AL (b:=a_)).1,w,ml,h1.YL,ep,fX]
theorem Y5(q:cq A bh a9)(hi:a9.lookup c6=some aN)(h:RA A aN rows aU ents aO aQ iv)(hw:a_.length<=1000)(hv:d4.length<=1000)(hR:sN [.at aN,.str a_,.str d4] A=fX A (.ok .cA A1) cs):
  fQ [.at 0,.tup [.str "ask",.str a_,.str c6,.str d4]] A=fX A (.ok .cA A1) ((!((bh.lookup a_).isSome&&(bh.lookup d4).isSome),"NoPerson","no person")::cs):=by
 show cE (fP.1 [.sh (.at 0),.sh (.tup [.str "ask",.str a_,.str c6,.str d4]),.no] A)=_;unfold fP;simp only[ev,cS,fK,f9,Eo,bZ,b_,sn,String.reduceBEq,bU,q.call (m:="ask") rfl,YU];show cE (ou.1 [.sh (.at 0),.sh (.str a_),.sh (.str c6),.sh (.str d4)] A)=_;unfold ou;simp only[ev,cS,fK,f9,q.call (m:="place_for") rfl,AL,v9 q hw hv hi];cases((bh.lookup a_).isSome&&(bh.lookup d4).isSome)with
 |false=>rfl
 |true=>simp only[cw,ev,cS,fK,f9,h.call (m:="ask") rfl,hR,bdX];rfl
theorem UC(h:bK A j ks kb ka rows bo stays cn asked d v p)(k:dq bo ents ent):fy [aZ 3 A (.at j),.tup [.str "ask",.str a_,.str c6,.str d4]]=.ok (fW [(decide (v7 bo a_<2),"NoRight","no right"),((bo.lookup d4).isSome,"Known","known")]):=by
 show dI (dw.1 [.sh (aZ 3 A (.at j)),.sh (.tup [.str "ask",.str a_,.str c6,.str d4]),.no,.no,.no,.no])=_;unfold dw;have sl:sI (.ok (.tup [.str "ask",.str a_,.str c6,.str d4])) (.ok none) (EZ (.ok (.int 2)))=.ok (.tup [.str "ask",.str a_]):=rfl;have gt:∀a b Y c e,Ku (gT [2,3]) (.ok (.tup [a,b])) (c::e:: .no:: .no::Y)=.ok (.nx (c::e:: .sh a:: .sh b::Y)):=λ_ _ _ _ _=>rfl;have g:Bf (.str "ask") (.tup [.str "role",.str "out"])=.ok (.bl false):=rfl;have l:Bf (.str "ask") (.tup [.str "out",.str "bar"])=.ok (.bl false):=rfl;cases r:decide (v7 bo a_<2)<;>cases I:(bo.lookup d4).isSome<;>simp only[ev,cS,Eo,Vn,sl,gt,Cd (h.zz (n:=1)) k,g,l,sn,String.reduceBEq,bU,bZ,b_,Uw,fW,cw,cK,cg,tV,mK,dA,d8,r,I]
theorem Y6(h:bK A j ks kb ka rows bo stays cn asked d v p)(f:gP rows)(q:rows.length<ee)(ha:asked.length<ee):
  ∃A',jP [.at j,.tup [.str "ask",.str a_,.str c6,.str d4]] A=.ok .cA A'/\iY A A' (jS j ks kb ka)/\bK A' j ks kb ka (rows++[g7 rows a_ "ask" [.str d4]]) bo stays cn (asked++[d4]) d v p:=by
 have h0:=h.ext (Ext.push (o:=.bX Hx)) λ_ _=>rfl;have w:=vA (a_:=a_) (ps:=[.str "ask",.str d4]) h0 f q (by show 2+2<=ee;decide) rfl;have h1:=h0.FC (Ext.put (o:=.lst (rows++[g7 rows a_ "ask" [.str d4]])) h0.rw);have t1:=(iY.push (A:=A) (o:=.bX Hx) (S:=jS j ks kb ka)).trans (iY.put (o:=(.lst (rows++[g7 rows a_ "ask" [.str d4]]))) h0.rw (by simp));refine⟨_,?_,t1.trans (iY.put (o:=.lst ((asked++[d4]).map .str)) h1.as (by simp)),h1.aby (Ext.put h1.as)⟩;show cE (fB.1 [.sh (.at j),.sh (.tup [.str "ask",.str a_,.str c6,.str d4]),.no,.no,.no,.no] A)=_;unfold fB;have s1:sI (.ok (.tup [.str "ask",.str a_,.str c6,.str d4])) (.ok none) (EZ (.ok (.int 2)))=.ok (.tup [.str "ask",.str a_]):=rfl;have s2:sI (.ok (.tup [.str "ask",.str a_,.str c6,.str d4])) (EZ (.ok (.int 3))) (.ok none)=.ok (.tup [.str d4]):=rfl;have s3:C7 (.ok (.bX Hx)) (.ok (.str "ask")) (.ok (.str "ask"))=.ok (.str "ask"):=rfl;have s4:wa (.tup [.str "ask"]) (.tup [.str d4])=.ok (.tup [.str "ask",.str d4]):=rfl;have g:Bf (.str "ask") (.tup [.str "out",.str "bar"])=.ok (.bl false):=rfl;have b:=BI (t:=.str d4) h1.as (by rw[bu];exact ha);rw[show asked.map Tr.str++[.str d4]=(asked++[d4]).map .str by rw[iE];rfl]at b;simp only[ev,cS,fK,f9,Eo,s1,AL,gt2,nm1,nm2,bZ,b_,s2,s3,s4,w,sn,String.reduceBEq,bU,jw,h1.abz,BH h1.as,b,g]
def Y7(P:Pr A aN j D t)(q:cq A bh a9)(hM:fN A bw c8)(hi:a9.lookup c6=some aN)(hj:c8.lookup c6=some j)(hp:∀z,(bh.lookup z).isSome=bw.contains z)(h6:a_∈six)(h7:d4∈six)(ht:t<=1000):Res A aN j D t [.str "ask",.str a_,.str c6,.str d4]:=by
 have tu:=P.g.fr.tu;have hs:=fS h6;have M:=fS h7;have b1:=P.b.b1;have b2:=P.b.b2;have b3:=P.b.b3;have b4:=P.b.b4;have b5:=P.b.b5;have b6:=P.b.b6;have b7:=P.b.b7;have hR:=λ{A:Ab} (r:RA A aN D.rows D.aU D.ents (Ek D.d D.v D.p) D.cn D.inv)=>Y4 (a_:=a_) (d4:=d4) r tu P.g.rk hs M (dz (by omega)) (dz (by omega));have S:=FW (a_:=a_) (x3:=d4) (c9:=[]) (wh:=true) hM P.m hj (.inr ⟨.inl rfl,rfl⟩) (UC P.m P.g.rk);have L:=λ{A:Ab} (q:cq A bh a9) r=>Y5 (c6:=c6) q hi r hs M (hR r);simp only[hp]at L;simp only[dA,jE]at S;refine u0 P S (L q P.r) (by simp) λall LA=>?_
 obtain⟨A1,q1,t1,m1⟩:=Y6 (a_:=a_) (c6:=c6) (d4:=d4) P.m tu (dz (by omega)) (dz (by omega));have g:=P.g.row (us:=[.int (D.rows.length+1),.str a_,.str "ask",.str d4]) rfl (by show 4<=10;decide);obtain⟨A2,q2,t2,m2⟩:=Hy m1 g.fr.tu P.g.rk P.g.op P.g.ow (by rw[oS];exact dz (by omega)) (dC (dz (by omega))) (dz (by omega));refine u3 (D':={Dr D a_ "ask" [.str d4]with inv:=sF D.inv d4,asked:=D.asked++[d4]}) P q LA (FX (.inr (.inl rfl)) hM hj q1 q2 rfl) (t1.trans (t2 _ _ _)) m2 Kept.refl (λPB n=>⟨_,(L PB n).trans (Pw all),?_,?_⟩) ⟨g.fr,g.rk,g.op,g.lt,g.ow,λz=>?_,g.ns,g.bs,λz hz=>?_,Uz g.nd⟩ ⟨by show(D.rows++[_]).length<=_;rw[oS];omega,by show D.aU.length<=_;omega,by show D.ents.length<=_;omega,by show D.stays.length<=_;omega,by show(D.asked++[_]).length<=_;rw[oS];omega,by show D.cn.length<=_;omega,by show(sF D.inv d4).length<=_;have:=UA (l:=D.inv) (z:=d4);omega⟩
 ·have I:=n.BJ (Ext.put (o:=Ej D.rows a_ "ask" [.str d4]) n.lg);exact(iY.put n.lg (by simp)).trans (iY.put I.iv (by simp))
 ·have I:=n.BJ (Ext.put (o:=Ej D.rows a_ "ask" [.str d4]) n.lg);exact I.YM (Ext.put I.iv)
 ·show(sF D.inv d4).contains z=(D.asked++[d4]).contains z;rw[MH,mI,dg,dg,dr,dr,<-dg (as:=D.inv),P.g.ia,dg]
 ·rcases Uy hz with h|rfl
  ·exact P.g.is z h
  ·exact h7
end
noncomputable def UD(a b c:Int):Bool:=decide (a<2)||((a==2)&&(decide (1<b)||decide (1<c)))
section
variable {A1:Ab}{j t ks kb ka:Nat}{D:Dat}{iv cn asked:List Str}{ent:Str->Int}{d4 c6 role v p:Str}
theorem MJ(h:RA A aN rows aU ents aO aQ iv)(tu:gP rows)(k:dq aU ents ent)(h4:role∈gX)(q:(aU.lookup a_).isNone=false)(q2:(aU.lookup d4).isNone=false):oK [aZ 5 A (.at aN),.str a_,.str d4,.str role]=.ok (.bl (!UD (v7 aU a_) (v7 aU d4) (lvl role))):=by
 obtain⟨r,g⟩:=AG q;obtain⟨s,hs⟩:=AG q2;show dI (ib.1 [.sh (aZ 5 A (.at aN)),.sh (.str a_),.sh (.str d4),.sh (.str role)])=_;unfold ib;have l1:wM [.str "speaker"]=.ok (.int 1):=oz (by decide+kernel);have e:=Uu (k.lk g);simp only[ev,cS,h.rG (jk tu),dW,g,hs,dt,kY,e.1,e.2,oz (k.lk g),oz (k.lk hs),oz h4,l1,Vn];rw[za g,za hs];have b:=FV r;unfold UD;by_cases l:lvl r=2
 ·simp only[l,decide_true,ev];congr 2;rw[mI];simp only[iD,pb,Bool.or_eq_false_iff,Bool.and_eq_false_iff,wY];constructor
  ·intro q;refine⟨by decide,.inr ?_⟩;split at q<;>omega
  ·intro q;have:¬(1<lvl s)/\¬(1<lvl role):=q.2.resolve_left (by simp);split<;>omega
 ·simp only[l,decide_false,ev,cS,h.rG (jk tu),dW,g,dt,kY,e.1];congr 2;rw[mI];simp only[iD,pb,Bool.or_eq_false_iff,Bool.and_eq_false_iff,wY,jn];constructor
  ·intro q;exact⟨by omega,.inl l⟩
  ·intro q;omega
abbrev csR(aU:List (Str×Str))(a_ d4 role:Str):List (Bool×Str×Str):=[((aU.lookup a_).isNone,"NotIn","not in"),((aU.lookup d4).isNone,"NotIn","not in"),(UD (v7 aU a_) (v7 aU d4) (lvl role),"NoRight","no right"),(aU.lookup d4==some role,"Known","known")]
theorem PD(h:RA A aN rows aU ents aO aQ iv)(tu:gP rows)(k:dq aU ents ent)(hw:a_.length<=1000)(hv:d4.length<=1000)(h4:role∈gX):gs [.at aN,.str a_,.str d4,.str role] A=fX A (gs [.at aN,.str a_,.str d4,.str role] A) (csR aU a_ d4 role):=by
 have r:role.length<=1000:=(by decide+kernel:∀z∈gX,z.length<=1000) role h4;refine FU (λq=>?_) λq=>FU (λl=>?_) λl=>FU (λI=>?_) λI=>FU (λM=>?_) λ_=>rfl
 all_goals
  show cE (iy.1 [.sh (.at aN),.sh (.str a_),.sh (.str d4),.sh (.str role)] A)=_;unfold iy;simp only[ev,cS,fK,f9,h.call (m:="need_in") rfl,v8 h tu hw,q,cw,cK,cg]
 ·simp only[ev,cS,fK,f9,h.call (m:="need_in") rfl,v8 h tu hv,l,cw]
 ·obtain⟨w,L⟩:=jC (z:=a_) (acc:=Str.empty) (n:=0) (k:=λacc=>m6 (.ok (.str " may not make ")) (λacc=>m6 (.ok (.str d4)) (λacc=>m6 (.ok (.str " a ")) (λacc=>m6 (.ok (.str role)) (λacc=>Bt acc) acc) acc) acc) acc) (bz 0) hw (by decide) λa g=>jC g (by decide+kernel) (by decide) λa g=>jC g hv (by decide) λa g=>jC g (by decide+kernel) (by decide) λa g=>jC g r (by decide) λa g=>jN (by omega);have tr:∀b,pT (.bl b)=.ok b:=λ_=>rfl;simp only[ev,cS,fK,f9,h.call (m:="need_in") rfl,v8 h tu hv,l,cK,cg,h.dO (n:=4) (m:="may_give") rfl,MJ h tu k h4 q l,I,dA,d8,tr,L]
 ·obtain⟨s,hs⟩:=AG l;have es:s=role:=by rw[hs]at M;simpa using M
  subst es;obtain⟨w,L⟩:=jC (z:=d4) (acc:=Str.empty) (n:=0) (k:=λacc=>m6 (.ok (.str " is a ")) (λacc=>m6 (.ok (.str s)) (λacc=>Bt acc) acc) acc) (bz 0) hv (by decide) λa g=>jC g (by decide+kernel) (by decide) λa g=>jC g r (by decide) λa g=>jN (by omega);have tr:∀b,pT (.bl b)=.ok b:=λ_=>rfl;simp only[ev,cS,fK,f9,h.call (m:="need_in") rfl,v8 h tu hv,l,cK,cg,h.dO (n:=4) (m:="may_give") rfl,MJ h tu k h4 q l,I,dA,d8,tr,h.rG (jk tu),dW,hs,xh,dt,kY,bU,L]
def UE(h:RA A aN rows aU ents aO aQ iv)(tu:gP rows)(k:dq aU ents ent)(hw:a_.length<=1000)(hv:d4.length<=1000)(h4:role∈gX)(hl:rows.length+1<ee)(hk:aU.length+1<ee)(all:∀c∈csR aU a_ d4 role,c.1=false):
  ∃A' cM cU,gs [.at aN,.str a_,.str d4,.str role] A=.ok .cA A'/\g8 (rows++[g7 rows a_ "role" [.str d4,.str role]]) (eZ aU d4 role) cM cU/\iY A A' (iS aN)/\RA A' aN cM cU ents aO aQ iv:=by
 have q:(aU.lookup a_).isNone=false:=all ((aU.lookup a_).isNone,"NotIn","not in") (by simp);have g:(aU.lookup d4).isNone=false:=all ((aU.lookup d4).isNone,"NotIn","not in") (by simp);have I:UD (v7 aU a_) (v7 aU d4) (lvl role)=false:=all (UD (v7 aU a_) (v7 aU d4) (lvl role),"NoRight","no right") (by simp);have r:(aU.lookup d4==some role)=false:=all (aU.lookup d4==some role,"Known","known") (by simp);obtain⟨s,hs⟩:=AG g;have es:(s==role)=false:=by rw[hs]at r;simpa using r
 obtain⟨A1,g1,g2,g3⟩:=Mt (a_:=a_) (d4:=d4) (role:=role) h (jk tu) (by omega) (by rw[je];omega);rw[j7]at g2 g3;have pl:=wQ (l:=aU) (z:=d4) (a:=role);obtain⟨A2,cM,cU,s1,s2,s3,s4⟩:=Mu g3 (jk (m_ tu)) (k.role (cH.mpr ⟨_,jd hs,rfl⟩) h4) (by rw[oS];omega) (by omega);refine⟨A2,cM,cU,?_,s2,(iY.of g2 (by simp)).trans (iY.of s3 (by simp)),s4⟩;show cE (iy.1 [.sh (.at aN),.sh (.str a_),.sh (.str d4),.sh (.str role)] A)=_;unfold iy;have tr:∀b,pT (.bl b)=.ok b:=λ_=>rfl;simp only[ev,cS,fK,f9,h.call (m:="need_in") rfl,v8 h tu hw,v8 h tu hv,q,g,cK,cg,h.dO (n:=4) (m:="may_give") rfl,MJ h tu k h4 q g,I,dA,d8,tr,h.rG (jk tu),dW,hs,xh,dt,kY,es,h.call (m:="give_role") rfl,g1,g3.call (m:="see_to_owner") rfl,s1]
theorem bdY{q:Rz Tr}{Y:bV}:∀{cs:List (Bool×Str×Str)},cE (p7 (fX A q cs) Y)=fX A (cE (p7 q Y)) cs
 |[]=>rfl
 |(true,_,_)::cs=>rfl
 |(false,_,_)::cs=>bdY (cs:=cs)
theorem UG(q:cq A bh a9)(hi:a9.lookup c6=some aN)(h:RA A aN rows aU ents aO aQ iv)(hw:a_.length<=1000)(hv:d4.length<=1000)(hR:gs [.at aN,.str a_,.str d4,.str role] A=fX A (gs [.at aN,.str a_,.str d4,.str role] A) cs):
  fQ [.at 0,.tup [.str "role",.str a_,.str c6,.str d4,.str role]] A=fX A (cE (p7 (gs [.at aN,.str a_,.str d4,.str role] A) [.sh (.at 0),.sh (.str a_),.sh (.str c6),.sh (.str d4),.sh (.str role)])) ((!((bh.lookup a_).isSome&&(bh.lookup d4).isSome),"NoPerson","no person")::cs):=by
 show cE (fP.1 [.sh (.at 0),.sh (.tup [.str "role",.str a_,.str c6,.str d4,.str role]),.no] A)=_;unfold fP;simp only[ev,cS,fK,f9,Eo,bZ,b_,sn,String.reduceBEq,bU,q.call (m:="role") rfl,YU];show cE (l0.1 [.sh (.at 0),.sh (.str a_),.sh (.str c6),.sh (.str d4),.sh (.str role)] A)=_;unfold l0;simp only[ev,cS,fK,f9,q.call (m:="place_for") rfl,AL,v9 q hw hv hi];cases((bh.lookup a_).isSome&&(bh.lookup d4).isSome)with
 |false=>rfl
 |true=>
  simp only[cw,ev,cS,fK,f9,h.call (m:="role") rfl];exact(cX (λσ=>cE (p7 σ _)) hR).trans bdY
def PH(h:bK A j ks kb ka rows bo stays cn asked aP v p)(k:dq bo ents ent)(h4:role∈gX):fy [aZ 3 A (.at j),.tup [.str "role",.str a_,.str c6,.str d4,.str role]]=.ok (fW (csR bo a_ d4 role).tail):=by
 show dI (dw.1 [.sh (aZ 3 A (.at j)),.sh (.tup [.str "role",.str a_,.str c6,.str d4,.str role]),.no,.no,.no,.no])=_;unfold dw;have sl:sI (.ok (.tup [.str "role",.str a_,.str c6,.str d4,.str role])) (.ok none) (EZ (.ok (.int 2)))=.ok (.tup [.str "role",.str a_]):=rfl;have gt:∀a b Y c e,Ku (gT [2,3]) (.ok (.tup [a,b])) (c::e:: .no:: .no::Y)=.ok (.nx (c::e:: .sh a:: .sh b::Y)):=λ_ _ _ _ _=>rfl;have l:Bf (.str "role") (.tup [.str "role",.str "out"])=.ok (.bl true):=rfl;have r:Bf (.str role) (.tup [.str "keeper",.str "owner"])=.ok (.bl (decide (1<lvl role))):=by
  have:role="guest"\/role="speaker"\/role="keeper"\/role="owner":=by simpa using h4
  rcases this with rfl|rfl|rfl|rfl<;>rfl
 have ob:∀a b,Wr (.ok a) (.ok b)=.ok (a||b):=λa b=>by cases a<;>rfl
 have ab:∀a b,Ie (.ok a) (.ok b)=.ok (a&&b):=λa b=>by cases a<;>rfl
 simp only[ev,cS,Eo,Vn,sl,gt,Cd (h.zz (n:=1)) k,l,MG,bZ,b_];refine ifW (λq=>by simp only[q,ev]) λq=>?_
 simp only[q,ev,cS,Eo,Vn,r,ob,ab,bU];refine ifW (λq=>by simp only[UD]at q;simp only[q,ev]) λg=>?_
 simp only[UD]at g;obtain⟨s,hs⟩:=AG q;simp only[g,ev,cS,Eo,h.zz (n:=1),dW,hs,dt,kY,fW];rw[show(some s==some role)=(s==role)from rfl];cases(s==role)<;>rfl
theorem UH(h:bK A j ks kb ka rows bo stays cn asked aP v p)(f:gP rows)(q:rows.length<ee)(ha:bo.length<ee):
  ∃A',jP [.at j,.tup [.str "role",.str a_,.str c6,.str d4,.str role]] A=.ok .cA A'/\iY A A' (jS j ks kb ka)/\bK A' j ks kb ka (rows++[g7 rows a_ "role" [.str d4,.str role]]) (eZ bo d4 role) stays cn asked aP v p:=by
 have h0:=h.ext (Ext.push (o:=.bX Hx)) λ_ _=>rfl;have w:=vA (a_:=a_) (ps:=[.str "role",.str d4,.str role]) h0 f q (by show 2+3<=ee;decide) rfl;have h1:=h0.FC (Ext.put (o:=.lst (rows++[g7 rows a_ "role" [.str d4,.str role]])) h0.rw);have t1:=(iY.push (A:=A) (o:=.bX Hx) (S:=jS j ks kb ka)).trans (iY.put (o:=.lst (rows++[g7 rows a_ "role" [.str d4,.str role]])) h0.rw (by simp));refine⟨_,?_,t1.trans (iY.put (o:=.bX (dP .str (eZ bo d4 role))) h1.rl (by simp)),h1.O6 (Ext.put h1.rl)⟩;show cE (fB.1 [.sh (.at j),.sh (.tup [.str "role",.str a_,.str c6,.str d4,.str role]),.no,.no,.no,.no] A)=_;unfold fB;have s1:sI (.ok (.tup [.str "role",.str a_,.str c6,.str d4,.str role])) (.ok none) (EZ (.ok (.int 2)))=.ok (.tup [.str "role",.str a_]):=rfl;have s2:sI (.ok (.tup [.str "role",.str a_,.str c6,.str d4,.str role])) (EZ (.ok (.int 3))) (.ok none)=.ok (.tup [.str d4,.str role]):=rfl;have s3:C7 (.ok (.bX Hx)) (.ok (.str "role")) (.ok (.str "role"))=.ok (.str "role"):=rfl;have s4:wa (.tup [.str "role"]) (.tup [.str d4,.str role])=.ok (.tup [.str "role",.str d4,.str role]):=rfl;have s5:∀A,sx (.ok (.tup [.str "role",.str d4,.str role])) A=.ok (.tup [.str "role",.str d4,.str role]) A:=λ_=>rfl;have b:Bf (.str "role") (.tup [.str "out",.str "bar"])=.ok (.bl false):=rfl;have ep:=lp (z:=d4) (t:=.str role) (Y:=[.sh (.at j),.sh (.tup [.str "role",.str a_,.str c6,.str d4,.str role]),.sh (.str "role"),.sh (.str a_),.sh (.at A.length),.sh (.int (rows.length+1))]) h1.rl (by rw[je];exact ha);rw[j7]at ep;simp only[ev,cS,fK,f9,Eo,s1,AL,gt2,nm1,nm2,bZ,b_,s2,s3,s4,s5,w,sn,String.reduceBEq,bU,ml,jw,h1.O5,ep,b]
theorem UI(P:Pr A aN j D t)(hH:cq A bh a9)(hM:fN A bw c8)(hi:a9.lookup c6=some aN)(hj:c8.lookup c6=some j)(hp:∀z,(bh.lookup z).isSome=bw.contains z)(h6:a_∈six)(h7:d4∈six)(h4:role∈gX)(ht:t<=1000):Res A aN j D t [.str "role",.str a_,.str c6,.str d4,.str role]:=by
 have tu:=P.g.fr.tu;have hs:=fS h6;have M:=fS h7;have b1:=P.b.b1;have b2:=P.b.b2;have b3:=P.b.b3;have b4:=P.b.b4;have b5:=P.b.b5;have b6:=P.b.b6;have b7:=P.b.b7;have hr:=FW (a_:=a_) (x3:=d4) (c9:=[.str role]) (wh:=true) hM P.m hj (.inr ⟨.inr (.inl rfl),rfl⟩) (PH P.m P.g.rk h4);have n:=λ{A:Ab} (hH:cq A bh a9) (r:RA A aN D.rows D.aU D.ents (Ek D.d D.v D.p) D.cn D.inv)=>UG (c6:=c6) hH hi r hs M (PD r tu P.g.rk hs M h4);simp only[hp]at n;simp only[dA,jE]at hr;refine u0 P hr (n hH P.r) (by simp) λall LA=>?_
 have Y8:=λc n=>all c (cu _ n);obtain⟨A1,q1,t1,m1⟩:=UH (a_:=a_) (c6:=c6) (d4:=d4) (role:=role) P.m tu (dz (by omega)) (dz (by omega));obtain⟨s,S⟩:=AG (Y8 ((D.aU.lookup d4).isNone,"NotIn","not in") (by simp));have lJ:d4∈D.aU.map (·.1):=cH.mpr ⟨_,jd S,rfl⟩;have Q1:=P.g.rk.role lJ h4;have L:=y' (a:=role) lJ;have pl:=wQ (l:=D.aU) (z:=d4) (a:=role);have pl2:(eZ D.aU d4 role).length=D.aU.length:=by have:=cX List.length L;simpa using this
 obtain⟨A2,cM,cU,q2,I,x2,m2⟩:=uZ m1 (m_ tu) Q1 (P.g.op.trans L.symm) (by rw[oS];exact dz (by omega)) (dC (dz (by omega))) (dz (by omega));have ol:=I.len;rw[oS]at ol;refine u3 (D':={D with rows:=cM,aU:=cU}) P hH LA (FX (.inr (.inr (.inl rfl))) hM hj q1 q2 rfl) (t1.trans (iY.of x2 (by simp))) m2 Kept.refl (λPB r2=>?_) ⟨I.jl (P.g.fr.add rfl (by show 5<=10;decide)),I.FR Q1,(P.g.op.trans L.symm).trans I.names.symm,zb I λq hq=>?_,I.ow,P.g.ia,λz hz=>P.g.ns z (by have hz:z∈cU.map (·.1):=hz;rwa[I.names,L]at hz),P.g.bs,P.g.is,P.g.nd⟩ ⟨by show cM.length<=_;omega,by show cU.length<=_;omega,by show D.ents.length<=_;omega,by show D.stays.length<=_;omega,by show D.asked.length<=_;omega,by show D.cn.length<=_;omega,by show D.inv.length<=_;omega⟩
 ·obtain⟨A3,Q2,MI,q3,o3,x3,r3⟩:=UE (a_:=a_) (d4:=d4) (role:=role) r2 tu P.g.rk hs M h4 (dz (by omega)) (dz (by omega)) Y8;obtain⟨rfl,rfl⟩:=I.one o3;have n:=(n PB r2).trans (Pw all);rw[q3]at n;exact⟨A3,n,x3,r3⟩
 ·have QH:q.1∈D.aU.map (·.1):=by rw[<-L];exact gx hq
  obtain⟨q',VX,e⟩:=cH.mp QH;have:=P.g.lt q' VX;show D.ent q.1<((D.rows++[g7 D.rows a_ "role" [.str d4,.str role]]).length:Int)+1;rw[oS,<-e];omega
end
section
def Ce{n:Nat}{t:Tr}(h:ye t=true):fA (n+1) [t,t]=.ok (.bl true):=by
 cases t with
 |cA=>rfl
 |bl b=>cases b<;>rfl
 |int k=>show Rs.ok (Tr.bl (k==k))=_;rw[bU]
 |str z=>show Rs.ok (Tr.bl (z==z))=_;rw[bU]
 |_=>cases h
theorem MK{F:bV->Rs Tr}:∀{ts:List Tr} {c d:Cell},(∀t∈ts,F [.sh t,.sh t]=.ok (.bl true))->ER (gT [0,1]) (λ_=>.ok true) F (ts.map λt=>.tup [t,t]) [c,d]=.ok (ts.map λ_=>.bl true)
 |[],_,_,_=>rfl
 |t::ts,c,d,h=>by
  show(NW (F [.sh t,.sh t])).bind (λy=>(ER (gT [0,1]) (λ_=>.ok true) F (ts.map λt=>.tup [t,t]) [.sh t,.sh t]).bind λys=>Rs.ok (y::ys))=_;rw[h t (cD ..),MK λu b=>h u (cu _ b)]
  rfl
theorem lG{n:Nat}{ts:List Tr}(q:ts.length<=ee)(h:∀t∈ts,fA n [t,t]=.ok (.bl true)):fA (n+1) [.tup ts,.tup ts]=.ok (.bl true):=by
 show dI ((uW (fA n)).1 [.sh (.tup ts),.sh (.tup ts)])=_;unfold uW;have i1:Ss [.tup ts,.ty "tuple"]=.ok (.bl true):=rfl;have i2:pT (.bl true)=.ok true:=rfl;have l:∀a b:Int,Nf (.int a) (.int b)=.ok (.bl (!(a==b))):=λ_ _=>rfl;have r:zpW (.ok [.tup ts,.tup ts])=.ok (ts.map λt=>.tup [t,t]):=by
  show(if ts.length<=ts.length then Rs.ok (QK ts ts)else .bad)=_;rw[aW (bz _),DV]
 have I:vI [none,none] (gT [0,1]) (λ_=>.ok true) (λY=>(dO (fA n) (x_ (x6 Y 0) (x_ (x6 Y 1) (.ok []))))) (.ok (ts.map λt=>.tup [t,t])) [.sh (.tup ts),.sh (.tup ts)]=.ok (.lst (ts.map λ_=>.bl true)):=by
  show(if(ts.map λt=>Tr.tup [t,t]).length<=ee then _ else _)=_;rw[aW (by rw[bu];exact q)];show(ER (gT [0,1]) _ _ _ [.no,.no]).bind _=_;rw[MK λt g=>h t g]
  rfl
 have L:Oh [.lst (ts.map λ_=>.bl true)]=.ok (.bl true):=Mc λt g=>by obtain⟨_,_,rfl⟩:=cH.mp g;rfl
 simp only[ev,cS,i1,i2,l,r,bU,dA,I,L]
variable {i j t:Nat}{D:Dat}{name:Str}
def qJ(h:cq A bh a9)(hi:a9.lookup name=some i):oM [aZ 5 A (.at 0),.str name]=.ok (aZ 3 A (.at i)):=by
 show dI (ig.1 [.sh (aZ 5 A (.at 0)),.sh (.str name)])=_;unfold ig;simp only[ev,cS,h.Uj,eD,hi,dt,nL,dA,dW,kY]
def PK(h:cq A bh a9)(hi:a9.lookup name=some i)(P:Pr A i j D t):v5 [aZ 5 A (.at 0),.str name]=.ok (.tup D.rows):=by
 show dI (l7.1 [.sh (aZ 5 A (.at 0)),.sh (.str name)])=_;unfold l7;have e:vZ [aZ 3 A (.at i)]=.ok (.tup D.rows):=by
  show dI (l6.1 [.sh (aZ 3 A (.at i))])=_;unfold l6;simp only[ev,cS,P.r.abC (n:=1) P.g.fr.tu,Pa]
 simp only[ev,cS,h.dO (n:=4) (m:="place") rfl,qJ h hi,P.r.dO (n:=2) (m:="rows") rfl,e]
def ML(h:cq A bh a9)(hi:a9.lookup name=some i)(P:Pr A i j D t):uQ [aZ 5 A (.at 0),.str name]=.ok (.tup ((de (D.aU.map (·.1))).map λz=>.tup [.str z,.str ((D.aU.lookup z).getD "")])):=by
 show dI (kG.1 [.sh (aZ 5 A (.at 0)),.sh (.str name)])=_;unfold kG;have e:uO [aZ 3 A (.at i)]=.ok (.tup ((de (D.aU.map (·.1))).map λz=>.tup [.str z,.str ((D.aU.lookup z).getD "")])):=by
  show dI (kE.1 [.sh (aZ 3 A (.at i))])=_;unfold kE;simp only[ev,cS,P.r.abD (n:=1) Vm,FG P.g.rk.nd P.g.ns (iX P.g.rk.nd),Pa]
 simp only[ev,cS,h.dO (n:=4) (m:="place") rfl,qJ h hi,P.r.dO (n:=2) (m:="roles") rfl,e]
def MM{l:List Str}:(l.map λz=>(z,true)).map (·.1)=l:=by rw[cL];exact kS l
def Js(h:cq A bh a9)(hi:a9.lookup name=some i)(P:Pr A i j D t)(hb:D.cn.length<64)(hs:∀z∈D.cn,z.length<=1000):r6 [aZ 5 A (.at 0),.str name]=.ok (.tup ((de D.cn).map .str)):=by
 show dI (jA.1 [.sh (aZ 5 A (.at 0)),.sh (.str name)])=_;unfold jA;have e:rZ [aZ 3 A (.at i)]=.ok (.tup ((de D.cn).map .str)):=by
  show dI (jz.1 [.sh (aZ 3 A (.at i))])=_;unfold jz;have s:=rg (f:=Tr.bl) (l:=D.cn.map λz=>(z,true)) (λp hp=>by obtain⟨z,hz,rfl⟩:=cH.mp hp;exact hs z hz) (by rw[bu];exact hb);rw[MM]at s;simp only[ev,cS,P.r.abF (n:=1) wL,show nT [.bX (nS D.cn)]=_ from s,Pa]
 simp only[ev,cS,h.dO (n:=4) (m:="place") rfl,qJ h hi,P.r.dO (n:=2) (m:="barred") rfl,e]
def MN(h:cq A bh a9)(hi:a9.lookup name=some i)(P:Pr A i j D t)(hb:D.inv.length<64)(hs:∀z∈D.inv,z.length<=1000):uR [aZ 5 A (.at 0),.str name]=.ok (.tup ((de D.inv).map .str)):=by
 show dI (kH.1 [.sh (aZ 5 A (.at 0)),.sh (.str name)])=_;unfold kH;have e:uP [aZ 3 A (.at i)]=.ok (.tup ((de D.inv).map .str)):=by
  show dI (kF.1 [.sh (aZ 3 A (.at i))])=_;unfold kF;have s:=rg (f:=Tr.bl) (l:=D.inv.map λz=>(z,true)) (λp hp=>by obtain⟨z,hz,rfl⟩:=cH.mp hp;exact hs z hz) (by rw[bu];exact hb);rw[MM]at s;simp only[ev,cS,P.r.abG (n:=1) wL,show nT [.bX (nS D.inv)]=_ from s,Pa]
 simp only[ev,cS,h.dO (n:=4) (m:="place") rfl,qJ h hi,P.r.dO (n:=2) (m:="asked") rfl,e]
def FY{c_ w:Str}(h:cq A bh a9)(hi:a9.lookup name=some i)(P:Pr A i j D t)(q:(Ek D.d D.v D.p).lookup c_=some w):qG [aZ 5 A (.at 0),.str name,.str c_]=.ok (.str w):=by
 show dI (iW.1 [.sh (aZ 5 A (.at 0)),.sh (.str name),.sh (.str c_)])=_;unfold iW;have e:qF [aZ 3 A (.at i),.str c_]=.ok (.str w):=by
  show dI (iV.1 [.sh (aZ 3 A (.at i)),.sh (.str c_)])=_;unfold iV;simp only[ev,cS,P.r.abE (n:=1) Vm,dW,q,dt,kY]
 simp only[ev,cS,h.dO (n:=4) (m:="place") rfl,qJ h hi,P.r.dO (n:=2) (m:="setting") rfl,e]
end
section
variable {i i' j' t:Nat}{D D' D1 D2:Dat}{ts:List Tr}
def r8(D:Dat)(i aN:Nat):Prop:=∀k∈[D.ks,D.kb,D.ka],(k<i\/i+6<k)/\k≠aN/\k≠aN+1/\k≠aN+2
def Apart(D D':Dat):Prop:=∀k∈[D.ks,D.kb,D.ka],k∉[D'.ks,D'.kb,D'.ka]
def Apart.symm (h:Apart D D'):Apart D' D:=λk b q=>h k q b
def far(q:(i=7/\aN=16/\i'=27/\j'=36)\/(i=27/\aN=36/\i'=7/\j'=16)){k:Nat}(hk:(i<=k/\k<=i+6)\/k=aN\/k=aN+1\/k=aN+2):(k<i'\/i'+6<k)/\k≠j'/\k≠j'+1/\k≠j'+2:=by
 rcases q with⟨rfl,rfl,rfl,rfl⟩|⟨rfl,rfl,rfl,rfl⟩<;>refine⟨?_,?_,?_,?_⟩<;>omega
def r8.ne (c:r8 D i aN){k q:Nat}(hk:(i<=k/\k<=i+6)\/k=aN\/k=aN+1\/k=aN+2)(hq:q∈[D.ks,D.kb,D.ka]):k≠q:=λe=>by
 subst e;have c:=c k hq;rcases hk with h|h|h|h
 ·rcases c.1 with z|z
  ·exact Nat.not_le_of_lt z h.1
  ·exact Nat.not_le_of_lt z h.2
 ·exact c.2.1 h
 ·exact c.2.2.1 h
 ·exact c.2.2.2 h
def MO(A8:(i=7/\aN=16/\i'=27/\j'=36)\/(i=27/\aN=36/\i'=7/\j'=16))(hH:cq A bh a9)(hM:fN A bw c8)(R1:Pr A i aN D t)(R2:Pr A i' j' D' t)(c1:r8 D i' j')(c2:r8 D' i aN)(ap:Apart D D')(res:Res A i aN D t ts):
  ∃A' D1,jR [.at 0,.at 4,.tup ts] A=.ok (.bl true) A'/\cq A' bh a9/\fN A' bw c8/\Pr A' i aN D1 (t+1)/\Pr A' i' j' D' (t+1)/\r8 D1 i' j'/\r8 D' i aN/\Apart D1 D':=by
 obtain⟨A',D1,e,x,P1,kp⟩:=res;have hi:=R1.hi;have g:∀k∈touched i aN D,6<k:=λk b=>by
  rcases dr.mp b with b|b
  ·simp only[bG,cP,cQ]at b;omega
  ·exact(R1.dj k b).1
 have l1:=iN R2.m.st;have l2:=iN R2.m.br;have I:=iN R2.m.as;have L:=iN R2.m.rl;have M:=iN R2.r.iv;refine⟨A',D1,e,cq.kp hH x g,fN.kp hM x g,P1,R2.kp x λk b=>?_,λk q=>?_,c2,λk q=>?_⟩
 ·have go:∀k,((i<=k/\k<=i+6)\/k=aN\/k=aN+1\/k=aN+2)->(k<i'\/i'+6<k)/\k∉jS j' D'.ks D'.kb D'.ka:=λk b=>by
   have f:=far A8 b;have n:=λq (l:q∈[D'.ks,D'.kb,D'.ka])=>c2.ne b l;refine⟨f.1,λm=>?_⟩;simp only[bG,cP,cQ]at m n;rcases m with m|m|m|m
   ·exact f.2.1 m
   ·exact f.2.2.1 m
   ·exact f.2.2.2 m
   ·exact n k m rfl
  rcases dr.mp b with b|b
  ·refine go k (.inl ?_)
   clear go A8
   simp only[bG,cP,cQ]at b;rcases b with rfl|b<;>first|exact⟨bz _,mH _ 6⟩|omega
  ·have:k=aN\/k=aN+1\/k=aN+2\/k∈[D.ks,D.kb,D.ka]:=by simpa using b
   rcases this with h|h|h|h
   ·exact go k (.inr (.inl h))
   ·exact go k (.inr (.inr (.inl h)))
   ·exact go k (.inr (.inr (.inr h)))
   ·have f:=c1 k h;refine⟨f.1,λm=>?_⟩;have a:=ap k h;simp only[bG,cP,cQ]at m a;rcases m with m|m|m|m
    ·exact f.2.1 m
    ·exact f.2.2.1 m
    ·exact f.2.2.2 m
    ·exact a m
 ·rcases kp k q with q|q
  ·exact c1 k q
  ·omega
 ·rcases kp k q with q|q
  ·exact ap k q
  ·simp only[bG,cP,cQ,not_or];omega
structure Sta(A:Ab)(t:Nat)(bh:List (Str×Bool))(bw:List Str)(D1 D2:Dat):Prop where
 h:cq A bh [("hall",7),("yard",27)]
 m:fN A bw [("hall",16),("yard",36)]
 pp:bh.map (·.1)=bw
 pl:bw.length<=5+t
 p6:∀z∈bw,z∈six
 r1:Pr A 7 16 D1 t
 r2:Pr A 27 36 D2 t
 c1:r8 D1 27 36
 c2:r8 D2 7 16
 ap:Apart D1 D2
def St(A:Ab)(t:Nat):Prop:=∃bh bw D1 D2,Sta A t bh bw D1 D2
theorem zd{α:Type}{z:Str}:∀{l:List (Str×α)},(l.lookup z).isSome=(l.map (·.1)).contains z
 |[]=>rfl
 |q::l=>by
  rw[cN,bO,List.contains_cons];cases e:(z==q.1)with
  |true=>rfl
  |false=>rw[jE];exact zd
def St.go {f:Str->List Tr}(h:St A t)(S:∀{i aN D bh a9 bw c8 c6},Pr A i aN D t->cq A bh a9->fN A bw c8->a9.lookup c6=some i->c8.lookup c6=some aN->(∀z,(bh.lookup z).isSome=bw.contains z)->Res A i aN D t (f c6)){c6:Str}(q:c6="hall"\/c6="yard"):
  ∃A',jR [.at 0,.at 4,.tup (f c6)] A=.ok (.bl true) A'/\St A' (t+1):=by
 obtain⟨bh,bw,D1,D2,s⟩:=h;have hp:∀a_,(bh.lookup a_).isSome=bw.contains a_:=λa_=>by rw[zd,s.pp]
 have I:=s.pl;rcases q with rfl|rfl
 ·obtain⟨A',D',e,a1,a2,b,g,l,n,r⟩:=MO (.inl ⟨rfl,rfl,rfl,rfl⟩) s.h s.m s.r1 s.r2 s.c1 s.c2 s.ap (S (c6:="hall") s.r1 s.h s.m (by decide+kernel) (by decide+kernel) hp);exact⟨A',e,bh,bw,D',D2,a1,a2,s.pp,by omega,s.p6,b,g,l,n,r⟩
 ·obtain⟨A',D',e,a1,a2,b,g,l,n,r⟩:=MO (.inr ⟨rfl,rfl,rfl,rfl⟩) s.h s.m s.r2 s.r1 s.c2 s.c1 s.ap.symm (S (c6:="yard") s.r2 s.h s.m (by decide+kernel) (by decide+kernel) hp);exact⟨A',e,bh,bw,D1,D',a1,a2,s.pp,by omega,s.p6,g,b,n,l,r.symm⟩
end
theorem AI:∀{xs ss:List Str} {z:Str},z∈eQ ss xs↔z∈ss\/z∈xs
 |[],ss,z=>by simp[eQ]
 |x::xs,ss,z=>by
  show z∈eQ (gS ss x) xs↔_;rw[AI,bG];unfold gS;split
  ·rename_i h;exact⟨λq=>q.elim .inl λq=>.inr (.inr q),λq=>q.elim .inl λq=>q.elim (λe=>.inl (e▸h)) .inr⟩
  ·rw[dr,cV,or_assoc]
theorem AJ:∀{xs ss:List Str},ss.Nodup->(eQ ss xs).Nodup
 |[],_,h=>h
 |x::xs,ss,h=>by
  show(eQ (gS ss x) xs).Nodup;refine AJ ?_
  unfold gS;split
  ·exact h
  ·rename_i q;refine tq.mpr ⟨h,wZ _ _,λa g b hb e=>q ?_⟩;rw[cV.mp hb]at e;exact e▸g
section
variable {t:Nat}{D1 D2:Dat}
def ne_str:Nf (.str aP) (.str aP)=.ok (.bl false):=by show Rs.ok (Tr.bl (!(aP==aP)))=_;rw[bU];rfl
def UJ(s:Sta A t bh bw D1 D2){G K:bV->Rs Out}
  (q:∀{i j:Nat} {D:Dat} {name:Str} {c3 c4:Cell},([("hall",7),("yard",27)]:List (Str×Nat)).lookup name=some i->([("hall",16),("yard",36)]:List (Str×Nat)).lookup name=some j->Pr A i j D t->∃a b,G [.sh (aZ 5 A (.at 0)),.sh (aZ 5 A (.at 4)),.sh (.str name),c3,c4,.no]=.ok (.nx [.sh (aZ 5 A (.at 0)),.sh (aZ 5 A (.at 4)),.sh (.str name),a,b,.no]))
  (hK:∀a b,dI (K [.sh (aZ 5 A (.at 0)),.sh (aZ 5 A (.at 4)),.sh (.str "yard"),a,b,.no])=.ok (.bl true)):
  dI (CO (Gu (gN 2) G (KU (Ib jW (x6 [.sh (aZ 5 A (.at 0)),.sh (aZ 5 A (.at 4)),.no,.no,.no,.no] 1) (Rs.ok (.str "rooms")))) [.sh (aZ 5 A (.at 0)),.sh (aZ 5 A (.at 4)),.no,.no,.no,.no]) K)=.ok (.bl true):=by
 have g:=wJ (f:=λj=>aZ 3 A (.at j)) (l:=[("hall",16),("yard",36)]) (λp hp=>(by decide+kernel:∀p∈([("hall",16),("yard",36)]:List (Str×Nat)),p.1.length<=1000) p hp);have r:KU (.ok (.bX (dP (λj=>aZ 3 A (.at j)) [("hall",16),("yard",36)])))=.ok [.str "hall",.str "yard"]:=g;obtain⟨a1,b1,I⟩:=q (name:="hall") (c3:=.no) (c4:=.no) (by decide+kernel) (by decide+kernel) s.r1;obtain⟨a2,b2,L⟩:=q (name:="yard") (c3:=a1) (c4:=b1) (by decide+kernel) (by decide+kernel) s.r2;simp only[ev,cS,s.m.Mb (n:=3),r,Pa,Hl,bZ,b_,I,L,hK]
def rq{l:List Str}{n:Nat}(q:l.length<=1000):fA (n+2) [.tup ((de l).map .str),.tup ((de l).map .str)]=.ok (.bl true):=lG (by rw[bu,(eL _).length_eq];exact dC (dz (by omega))) λu b=>by
 obtain⟨z,_,rfl⟩:=cH.mp b;exact Ce rfl
theorem Y9(s:Sta A t bh bw D1 D2)(ht:t<=50):AF [aZ 5 A (.at 0),aZ 5 A (.at 4)]=.ok (.bl true):=by
 show dI (vz.1 [.sh (aZ 5 A (.at 0)),.sh (aZ 5 A (.at 4)),.no,.no,.no,.no])=_;refine UJ s (λ{i j D name c3 c4} hi M P=>?_) λa b=>?_
 ·have b1:=P.b.b1;have b2:=P.b.b2;have b5:=P.b.b5;have b6:=P.b.b6;have b7:=P.b.b7;have hs:=rg (f:=Tr.str) (l:=D.aU) P.g.rk.sh (by omega);have tt:pT (.bl true)=.ok true:=rfl;simp only[ev,cS,s.m.Mb (n:=3),dW,M,dt,kY,bZ,b_,P.m.zz (n:=1),hs,Hl];rw[lY (BL:=[.sh (aZ 3 A (.at j))]) (λ_=>true) Tr.str (λz=>.tup [.str z,.str ((D.aU.lookup z).getD "")]) (by rfl) (by rw[(eL _).length_eq,bu];exact dC (dz (by omega))) rfl (λ_ _=>rfl) ?hF]
  case hF=>
   intro z hz _;obtain⟨q,S,rfl⟩:=cH.mp ((eL _).mem_iff.mp hz);simp only[ev,cS,P.m.zz (n:=1),dW,iX P.g.rk.nd q S,dt,kY,ph]
  rw[show∀l:List Str,l.filter (λ_=>true)=l from λl=>o7.mpr λ_ _=>rfl];have I:fA 5 [.tup [.tup D.rows,.tup ((de (D.aU.map (·.1))).map λz=>.tup [.str z,.str ((D.aU.lookup z).getD "")])],.tup [.tup D.rows,.tup ((de (D.aU.map (·.1))).map λz=>.tup [.str z,.str ((D.aU.lookup z).getD "")])]]=.ok (.bl true):=by
   refine lG (by show 2<=ee;decide) λu r=>?_
   simp only[bG,cP,cQ]at r;rcases r with rfl|rfl
   ·refine lG (dC (dz (by omega))) λu r=>?_
    obtain⟨us,rfl,hf,h10⟩:=P.g.fr u r;exact lG (dC (dz (by omega))) λw hw=>Ce (dH.mp hf w hw)
   ·refine lG (by rw[bu,(eL _).length_eq,bu];exact dC (dz (by omega))) λu r=>?_
    obtain⟨z,_,rfl⟩:=cH.mp r;refine lG (by show 2<=ee;decide) λw hw=>?_
    simp only[bG,cP,cQ]at hw;rcases hw with rfl|rfl<;>exact Ce rfl
  have L:=Js s.h hi P (by omega) λz hz=>fS (P.g.bs z hz);have has:=MN s.h hi P (by omega) λz hz=>fS (P.g.is z hz);have so:=Az (ss:=D.cn) (by omega);have ss:p_ (.lst (D.asked.map .str))=.ok (.lst ((de D.inv).map .str)):=by
   show(match oC (D.asked.map .str)with|some ss=>if ss.length<64 then Rs.ok (Tr.lst ((de (eQ [] ss)).map .str))else .bad|none=>.bad)=_;rw[vq];show(if D.asked.length<64 then Rs.ok (Tr.lst ((de (eQ [] D.asked)).map .str))else .bad)=_;rw[aW (by omega),Dq ((List.perm_ext_iff_of_nodup (AJ List.nodup_nil) P.g.nd).mpr λz=>?_)];rw[AI,<-dg (as:=D.inv),P.g.ia,dg];simp
  simp only[ev,cS,Pa,bZ,b_,s.h.dO (n:=4) (m:="rows") rfl,s.h.dO (n:=4) (m:="roles") rfl,s.h.dO (n:=4) (m:="barred") rfl,s.h.dO (n:=4) (m:="asked") rfl,PK s.h hi P,ML s.h hi P,P.m.Uk (n:=1) P.g.fr.tu,I,tt,dA,L,P.m.YO (n:=1),so,rq (l:=D.cn) (n:=3) (by omega),has,P.m.Ul (n:=1),ss,rq (l:=D.inv) (n:=3) (by omega)];rw[lY (BL:=[.sh (.str name),.sh (aZ 3 A (.at j)),.sh (aZ 5 A (.at 0))]) (λ_=>false) Tr.str (λ_=>.cA) (xs:=["door","voice","past"]) (by rfl) (by show 3<=ee;decide) rfl ?hC (λ_ _ e=>by cases e)]
  case hC=>
   intro z hz;have:z="door"\/z="voice"\/z="past":=by simpa using hz
   rcases this with rfl|rfl|rfl
   ·simp only[ev,cS,s.h.dO (n:=4) (m:="setting") rfl,FY (c_:="door") (w:=D.d) s.h hi P rfl,P.m.a_d (n:=2),ne_str]
   ·simp only[ev,cS,s.h.dO (n:=4) (m:="setting") rfl,FY (c_:="voice") (w:=D.v) s.h hi P rfl,P.m.a_v (n:=2),ne_str]
   ·simp only[ev,cS,s.h.dO (n:=4) (m:="setting") rfl,FY (c_:="past") (w:=D.p) s.h hi P rfl,P.m.a_p (n:=2),ne_str]
  exact⟨_,_,rfl⟩
 ·have hp:bh.length<64:=by have:=s.pl;have h2:=cX List.length s.pp;rw[bu]at h2;omega
  have sh:∀p∈bh,p.1.length<=1000:=λp hp=>fS (s.p6 p.1 (by rw[<-s.pp];exact gx hp));have s1:=rg (f:=Tr.bl) sh hp;have s2:=Az (ss:=bw) (by have:=s.pl;omega);rw[s.pp]at s1;have s3:=rg (f:=λj=>aZ 3 A (.at j)) (l:=[("hall",7),("yard",27)]) (λp hp=>(by decide+kernel:∀p∈([("hall",7),("yard",27)]:List (Str×Nat)),p.1.length<=1000) p hp) (by decide);have s4:nT [.bX (dP (λj=>aZ 3 A (.at j)) [("hall",16),("yard",36)])]=.ok (.lst ((de ["hall","yard"]).map .str)):=rg (f:=λj=>aZ 3 A (.at j)) (l:=[("hall",16),("yard",36)]) (λp hp=>(by decide+kernel:∀p∈([("hall",16),("yard",36)]:List (Str×Nat)),p.1.length<=1000) p hp) (by decide);have e1:rY [aZ 5 A (.at 0)]=.ok (.tup ((de bw).map .str)):=by
   show dI (jy.1 [.sh (aZ 5 A (.at 0))])=_;unfold jy;simp only[ev,cS,s.h.O4,s1,Pa]
  have e2:uN [aZ 5 A (.at 0)]=.ok (.tup ((de ["hall","yard"]).map .str)):=by
   show dI (kD.1 [.sh (aZ 5 A (.at 0))])=_;unfold kD;simp only[ev,cS,s.h.Uj,s3,Pa]
   rfl
  have I:fA 5 [.tup [.tup ((de ["hall","yard"]).map .str),.tup ((de bw).map .str)],.tup [.tup ((de ["hall","yard"]).map .str),.tup ((de bw).map .str)]]=.ok (.bl true):=by
   refine lG (by show 2<=ee;decide) λu r=>?_
   simp only[bG,cP,cQ]at r;rcases r with rfl|rfl
   ·exact rq (n:=2) (by decide)
   ·exact rq (n:=2) (by have:=s.pl;omega)
  simp only[ev,cS,Pa,Hl,bZ,b_,s.m.Mb (n:=3),s.m.Uo (n:=3),s4,s2,s.h.dO (n:=4) (m:="rooms") rfl,s.h.dO (n:=4) (m:="people") rfl,e1,e2,I]
end
def mix(c p m:Int):Int:=(c*48271 % p)*(c*48271 % p+7) % p % m
def Cf{c p m:Int}(hm:0<m):0<=mix c p m/\mix c p m<m:=⟨xt _ (by omega),Int.emod_lt_of_pos _ hm⟩
def UK{i j:Int}(h:yb i j):Il (.int i) (.int j)=.ok (.int (i*j)):=aW h
def UL{i j:Int}(h:0<j):Ik (.int i) (.int j)=.ok (.int (i % j)):=aW h
def Y_(c p m:Int)(hp:0<p)(q:p<=1048576)(hm:0<m):Hr [.int c,.int p,.int m]=.ok (.int (mix c p m)):=by
 have r:0<=c*48271 % p:=xt _ (by omega);have I:c*48271 % p<p:=Int.emod_lt_of_pos _ hp;show dI (wO.1 [.sh (.int c),.sh (.int p),.sh (.int m),.no])=_;unfold wO;have b:Il (.int c) (.int 48271)=.ok (.int (c*48271)):=aW (.inr ⟨by decide,by decide⟩);have g:∀a,Ik (.int a) (.int p)=.ok (.int (a % p)):=λa=>aW hp;have l:Il (.int (c*48271 % p)) (.int (c*48271 % p+7))=.ok (.int ((c*48271 % p)*(c*48271 % p+7))):=aW (.inl ⟨by omega,by omega⟩);have n:∀a,Ik (.int a) (.int m)=.ok (.int (a % m)):=λa=>aW hm;simp only[ev,cS,b,g,l,n,bZ,b_,mix]
def UM(ns:List Int)(k:Int)(h:0<=k):∃c,Ea [.vF ns,.int k]=.ok (.int c):=by
 show∃c,dI (CO (U9 (.ok (decide (k<(ns.length:Int)))) (Kt ((kY (L2.vc ns k)).bind λn=>.ok (.int n))) (.ok (.nx [.sh (.vF ns),.sh (.int k)]))) λY=>Kt (Rs.ok (.int 0)))=_;by_cases b:k<(ns.length:Int)
 ·have g:k.toNat<ns.length:=by omega
  have e:L2.vc ns k=some (ns[k.toNat]):=by
   have q:=AY (xs:=ns) (j:=k.toNat) (bY g);rw[Int.toNat_of_nonneg h]at q;exact q
  rw[iF b,e];exact⟨_,rfl⟩
 ·rw[fF b];exact⟨0,rfl⟩
def MP{l:List Tr}{k:Int}(h0:0<=k)(h1:k<l.length):∃t∈l,jW (.tup l) (.int k)=.ok t/\jW (.lst l) (.int k)=.ok t:=by
 have b:k.toNat<l.length:=by omega
 have q:=AY (xs:=l) (j:=k.toNat) (bY b);rw[Int.toNat_of_nonneg h0]at q;exact⟨l[k.toNat],kP _,by show kY (L2.vc l k)=_;rw[q];rfl,by show kY (L2.vc l k)=_;rw[q];rfl⟩
def Y'{l:List Str}{k:Int}(h0:0<=k)(q:k<l.length):∃z∈l,jW (.tup (l.map .str)) (.int k)=.ok (.str z):=by
 obtain⟨t,b,e,_⟩:=MP (l:=l.map .str) h0 (by rw[bu];exact q);obtain⟨z,hz,rfl⟩:=cH.mp b;exact⟨z,hz,e⟩
noncomputable abbrev PL:List Str:=["ann","bo","cy","dee","ed"]
noncomputable abbrev three:List Str:=["ann","bo","zed"]
noncomputable abbrev rms:List Str:=["hall","hall","hall","yard"]
noncomputable abbrev sets:List Tr:=[.tup [.str "door",.str "open"],.tup [.str "door",.str "asked"],.tup [.str "voice",.str "all"],.tup [.str "voice",.str "some"],.tup [.str "past",.str "shown"],.tup [.str "past",.str "hidden"]]
inductive j_(ws:List Str):List Tr->Prop
 |PM {a_:Str}:("come":Str)∈ws->a_∈six->j_ ws [.str "come",.str a_]
 |one {c7 a_ c6:Str}:(c7="found"\/c7="enter"\/c7="leave")->c7∈ws->a_∈six->(c6="hall"\/c6="yard")->j_ ws [.str c7,.str a_,.str c6]
 |arr {a_ c6 c_ val:Str}:("arrange":Str)∈ws->a_∈six->(c6="hall"\/c6="yard")->(c_="door"\/c_="voice"\/c_="past")->j_ ws [.str "arrange",.str a_,.str c6,.str c_,.str val]
 |role {a_ c6 d4 r:Str}:("role":Str)∈ws->a_∈six->(c6="hall"\/c6="yard")->d4∈six->r∈gX->j_ ws [.str "role",.str a_,.str c6,.str d4,.str r]
 |two {c7 a_ c6 d4:Str}:(c7="ask"\/c7="out"\/c7="bar"\/c7="unbar")->c7∈ws->a_∈six->(c6="hall"\/c6="yard")->d4∈six->j_ ws [.str c7,.str a_,.str c6,.str d4]
noncomputable abbrev ten:List Str:=["come","found","enter","leave","arrange","role","ask","out","bar","unbar"]
def UN{b:Bool}{x y:Rs Out}{K:bV->Rs Out}{P:Rs Tr->Prop}(h:∀r,r=x\/r=y->P (dI (CO r K))):P (dI (CO (U9 (.ok b) x y) K)):=by
 cases b
 ·exact h y (.inr rfl)
 ·exact h x (.inl rfl)
theorem UO{ws:List Str}(q:∀w∈ws,w∈ten)(hl:0<ws.length)(c:Int)(T:Tr):∃ts,Ee [.int c,T,.tup (ws.map .str)]=.ok (.tup ts)/\j_ ws ts:=by
 show∃ts,dI (uV.1 [.sh (.int c),.sh T,.sh (.tup (ws.map .str)),.no,.no,.no,.no,.no,.no,.no,.no,.no])=.ok (.tup ts)/\_;unfold uV;have g:=λp m (hp:0<p) (NF:p<=1048576) (hm:0<m)=>Y_ c p m hp NF hm;simp only[ev,cS,g 9931 20 (by decide) (by decide) (by decide),bZ,b_];refine UN (P:=λr=>∃ts,r=.ok (.tup ts)/\j_ ws ts) λr h=>?_
 obtain⟨l,h0,S,rfl⟩:∃l:List Str,(0:Int)<l.length/\(∀z∈l,z∈six)/\r=.ok (.nx [.sh (.int c),.sh T,.sh (.tup (ws.map .str)),.sh (.tup (l.map .str)),.no,.no,.no,.no,.no,.no,.no,.no]):=by
  rcases h with rfl|rfl
  ·exact⟨three,by decide,by decide+kernel,rfl⟩
  ·exact⟨PL,by decide,by decide+kernel,rfl⟩
 have hm:(0:Int)<ws.length:=by omega
 have k4:∀l:List Str,((l.map Tr.str).length:Int)=l.length:=λl=>by rw[bu]
 have n:=λ{l:List Str} {p m:Int} (hm:0<m) (hl:m=l.length)=>Y' (l:=l) (Cf (c:=c) (p:=p) hm).1 (hl▸(Cf hm).2);obtain⟨c6,hr,er⟩:=n (l:=rms) (p:=9907) (m:=4) (by decide) rfl;obtain⟨c7,hw,ew⟩:=n (l:=ws) (p:=9901) (m:=ws.length) hm rfl;obtain⟨a_,g3,e3⟩:=n (l:=l) (p:=9929) (m:=l.length) h0 rfl;obtain⟨d4,g4,e4⟩:=n (l:=l) (p:=9923) (m:=l.length) h0 rfl;obtain⟨rl,M,e7⟩:=n (l:=gX) (p:=9883) (m:=4) (by decide) rfl;obtain⟨st,cG,_,e8⟩:=MP (l:=sets) (Cf (c:=c) (p:=9887) (m:=6) (by decide)).1 (by exact(Cf (by decide)).2);have L:c6="hall"\/c6="yard":=by simpa using hr
 have I:=S a_ g3;have h4:=S d4 g4;have Q3:=q c7 hw;simp only[bG,cP,cQ]at Q3 cG;simp only[bO,mL]at er e7;have ni:Bf (.str "arrange") (.tup [.str "come",.str "found",.str "enter",.str "leave"])=.ok (.bl false)/\Bf (.str "role") (.tup [.str "come",.str "found",.str "enter",.str "leave"])=.ok (.bl false):=⟨rfl,rfl⟩;have l3:∀a b c,zq (.ok [a,b,c])=.ok (.lst [a,b,c]):=λ_ _ _=>rfl;have a3:wa (.lst [.tup [.str "door",.str "open"],.tup [.str "door",.str "asked"],.tup [.str "voice",.str "all"]]) (.lst [.tup [.str "voice",.str "some"],.tup [.str "past",.str "shown"],.tup [.str "past",.str "hidden"]])=.ok (.lst sets):=rfl;simp only[ev,cS,k4,g 9929 l.length (by decide) (by decide) h0,g 9923 l.length (by decide) (by decide) h0,g 9907 4 (by decide) (by decide) (by decide),g 9901 ws.length (by decide) (by decide) hm,e3,e4,er,ew,bZ,b_];rcases Q3 with rfl|rfl|rfl|rfl|rfl|rfl|rfl|rfl|rfl|rfl
 all_goals first
  |exact⟨_,rfl,.PM hw I⟩
  |exact⟨_,rfl,.one (by simp) hw I L⟩
  |exact⟨_,rfl,.two (by simp) hw I L h4⟩
  |skip
 all_goals simp only[ev,cS,sn,String.reduceBEq,bU,ni,g 9887 6 (by decide) (by decide) (by decide),g 9883 4 (by decide) (by decide) (by decide),e7,l3,a3,e8,bZ,b_]
 all_goals first
  |exact⟨_,rfl,.role hw I L h4 M⟩
  |(rcases cG with rfl|rfl|rfl|rfl|rfl|rfl<;>exact⟨_,rfl,.arr hw I L (by simp)⟩)
noncomputable abbrev FZ:List (Str×Str):=[("ann","owner"),("bo","guest"),("cy","guest")]
noncomputable abbrev MQ:List (Str×Int):=[("ann",1),("bo",2),("cy",3)]
noncomputable abbrev MR:List nW:=[("ann",1,1,none),("bo",1,2,none),("cy",1,3,none)]
noncomputable abbrev MS:List Tr:=[.tup [.int 1,.str "ann",.str "found"],.tup [.int 2,.str "bo",.str "enter"],.tup [.int 3,.str "cy",.str "enter"]]
abbrev F0:List (Str×Str):=[("dee","owner")]
abbrev MT:List (Str×Int):=[("dee",1)]
abbrev MU:List nW:=[("dee",1,1,none)]
noncomputable abbrev MV:List Tr:=[.tup [.int 1,.str "dee",.str "found"]]
noncomputable abbrev El:List (Str×Bool):=[("ann",true),("bo",true),("cy",true),("dee",true),("ed",true)]
def D10:Dat:=⟨MS,FZ,MQ,λz=>(MQ.lookup z).getD 0,MR,[],[],[],"open","all","shown",19,20,26⟩
def D20:Dat:=⟨MV,F0,MT,λz=>(MT.lookup z).getD 0,MU,[],[],[],"open","all","shown",39,40,42⟩
noncomputable def B0:Ab:=[.ins "Hall" [("persons",.at 1),("places",.at 2),("hands",.at 3)],.bX [],.bX [],.lst []]
def B1:Ab:=B0++[.bX (dP id [("people",.at 5),("rooms",.at 6)]),.lst (PL.map .str),.bX []]
def A0:Ab:=[.ins "Hall" [("persons",.at 1),("places",.at 2),("hands",.at 3)],.bX (dP .bl El),.bX (dP .at [("hall",7),("yard",27)]),.lst [],.bX (dP id [("people",.at 5),("rooms",.at 6)]),.lst (PL.map .str),.bX (dP .at [("hall",16),("yard",36)]),
 .ins "Room" (roomF 7),.lst MS,.bX (dP .str FZ),.bX (dP .int MQ),.bX (dP .str (Ek "open" "all" "shown")),.bX [],.bX [],.bX [],.bX [],
 .bX (dP id (zy 16 19 20 26 "open" "all" "shown")),.lst MS,.bX (dP .str FZ),.lst (MR.map wm),.lst [],.lst [],.lst [],.lst [.str "ann"],.lst [],.lst [.str "ann"],.lst [],
 .ins "Room" (roomF 27),.lst MV,.bX (dP .str F0),.bX (dP .int MT),.bX (dP .str (Ek "open" "all" "shown")),.bX [],.bX [],.bX [],.bX [],
 .bX (dP id (zy 36 39 40 42 "open" "all" "shown")),.lst MV,.bX (dP .str F0),.lst (MU.map wm),.lst [],.lst [],.lst []]
def UP:yy "Hall" oJ (.ok [] [])=.ok (.at 0) B0:=by kernel_rfl
def PN:AD [.tup [.str "ann",.str "bo",.str "cy",.str "dee",.str "ed"]] B0=.ok (.at 4) B1:=by kernel_rfl
def UQ:Ei [.at 0,.at 4] B1=.ok .cA A0:=by kernel_rfl
def rk0(h:(aU.all λp=>gX.contains p.2&&(decide (p.1.length<=1000)&&(ents.lookup p.1==some ((ents.lookup p.1).getD 0))))=true)(n:(aU.map (·.1)).Nodup)(u:(aU.map λp=>(ents.lookup p.1).getD 0).Pairwise (· <·)):dq aU ents λz=>(ents.lookup z).getD 0:=by
 have q:=λp hp=>dH.mp h p hp;simp only[bW,iD,fg]at q;exact⟨λp hp=>dg.mp (q p hp).1,n,λp hp=>(q p hp).2.1,λp hp=>(q p hp).2.2,u⟩
theorem rows0(h:(rows.all λt=>match t with|.tup us=>us.all ye&&decide (us.length<=10)|_=>false)=true):jl rows:=λt b=>by
 have q:=dH.mp h t b;cases t with
 |tup us=>
  have q:(us.all ye&&decide (us.length<=10))=true:=q;rw[bW,iD]at q;exact⟨us,rfl,q⟩
 |_=>cases q
def st0:St A0 0:=⟨El,PL,D10,D20,⟨rfl,rfl,rfl⟩,⟨rfl,rfl,rfl⟩,rfl,by decide,by decide+kernel,
 ⟨⟨rfl,rfl,rfl,rfl,rfl,rfl,rfl⟩,⟨rfl,rfl,rfl,rfl,rfl,rfl,by decide⟩,⟨rows0 rfl,rk0 (by decide+kernel) (by decide+kernel) (by decide+kernel),rfl,by decide+kernel,.inr (by decide+kernel),λ_=>rfl,by decide+kernel,by decide+kernel,by decide+kernel,by decide+kernel⟩,⟨by decide,by decide,by decide,by decide,by decide,by decide,by decide⟩,by decide,by decide⟩,
 ⟨⟨rfl,rfl,rfl,rfl,rfl,rfl,rfl⟩,⟨rfl,rfl,rfl,rfl,rfl,rfl,by decide⟩,⟨rows0 rfl,rk0 (by decide+kernel) (by decide+kernel) (by decide+kernel),rfl,by decide+kernel,.inr (by decide+kernel),λ_=>rfl,by decide+kernel,by decide+kernel,by decide+kernel,by decide+kernel⟩,⟨by decide,by decide,by decide,by decide,by decide,by decide,by decide⟩,by decide,by decide⟩,by unfold r8;decide,by unfold r8;decide,by unfold Apart;decide⟩
def Jt(h:j_ bw rows):mZ rows=true:=by cases h<;>rfl
theorem Hz{T:oQ}{G:bV->Ab->Rz Out}{n:Nat}(I:Nat->bV->Ab->Prop)(h:∀k Y A,k<n->I k Y A->∃rK,T (.int (0+(k:Nat))) Y=.ok rK/\∃q A2,G rK A=.ok (.nx q) A2/\I (k+1) q A2):∀(m k:Nat) (Y:bV) (A:Ab),k+m=n->I k Y A->∃iB A',sC T G ((List.range' k m).map λk=>Tr.int (0+(k:Nat))) Y A=.ok (.nx iB) A'/\I n iB A'
 |0,k,Y,A,e,hi=>⟨Y,A,rfl,by rw[<-e];exact hi⟩
 |m+1,k,Y,A,e,hi=>by
  obtain⟨rK,b,q,A2,g,h2⟩:=h k Y A (by omega) hi;obtain⟨iB,A',l,r⟩:=Hz I h m (k+1) q A2 (by omega) h2;refine⟨iB,A',?_,r⟩;rw[List.range'_succ,bO];simp only[Hl,b,fK,cS,g];exact l
def MW{n:Nat}{T:oQ}{G K:bV->Ab->Rz Out}{NX:bV}{A0:Ab}(I:Nat->bV->Ab->Prop)(h0:I 0 NX A0)(h:∀k Y A,k<n->I k Y A->∃rK,T (.int (0+(k:Nat))) Y=.ok rK/\∃iC A2,G rK A=.ok (.nx iC) A2/\I (k+1) iC A2)(hK:∀Y A,I n Y A->yj (K Y A)=.ok (.bl true)):
  yj (E4 (sC T G ((List.range' 0 n).map λk=>Tr.int (0+(k:Nat))) NX A0) K)=.ok (.bl true):=by
 obtain⟨b,A',e,q⟩:=Hz I h n 0 NX A0 (by omega) h0;rw[show sC T G ((List.range' 0 n).map λk=>Tr.int (0+(k:Nat))) NX A0=_ from e];exact hK b A' q
def PQ(j:Int):Gv (.ok [.int j])=if-4611686018427387904<=j/\j<4611686018427387904 then .ok (CQ 0 j.toNat)else .bad:=rfl
def Za:Gv (.ok [.int 24])=.ok ((List.range' 0 24).map λk=>Tr.int (0+(k:Nat))):=by rw[PQ,aW (by decide)];show Rs.ok (CQ 0 24)=_;unfold CQ;rw[List.range_eq_range']
theorem St.push {A:Ab}{t:Nat}{o:Ao}(h:St A t):St (A++[o]) (t+1):=by
 obtain⟨bh,bw,D1,D2,s⟩:=h;have b:=s.pl;have e:∀k∈([]:List Nat),6<k:=λ_ h=>(nomatch h);exact⟨bh,bw,D1,D2,cq.kp s.h (iY.push (S:=[])) e,fN.kp s.m (iY.push (S:=[])) e,s.pp,by omega,s.p6,s.r1.kp (iY.push (S:=[])) λ_ h=>(nomatch h),s.r2.kp (iY.push (S:=[])) λ_ h=>(nomatch h),s.c1,s.c2,s.ap⟩
def j_.mono {ws vs:List Str}{ts:List Tr}(h:j_ ws ts)(q:∀w∈ws,w∈vs):j_ vs ts:=by
 cases h with
 |PM a b=>exact .PM (q _ a) b
 |one a b c d=>exact .one a (q _ b) c d
 |arr a b c d=>exact .arr (q _ a) b c d
 |role a b c d e=>exact .role (q _ a) b c d e
 |two a b c d e=>exact .two a (q _ b) c d e
noncomputable abbrev ws:List Str:=["ask","ask","ask","enter","leave","arrange"]
noncomputable abbrev wr:List Str:=["role","enter","ask","ask","ask","enter","leave","arrange"]
theorem step{ts:List Tr}(h:St A aN)(hd:j_ wr ts)(ht:aN<=1000):∃A',jR [.at 0,.at 4,.tup ts] A=.ok (.bl true) A'/\St A' (aN+1):=by
 cases hd with
 |PM q _=>exact absurd q (by decide+kernel)
 |@one c7 a_ c6 hw q n I=>
  rcases hw with rfl|rfl|rfl
  ·exact absurd q (by decide+kernel)
  ·exact h.go (f:=λc6=>[.str "enter",.str a_,.str c6]) (λP b g hi l hp=>Pz P b g hi l hp n ht) I
  ·exact h.go (f:=λc6=>[.str "leave",.str a_,.str c6]) (λP b g hi l hp=>PC P b g hi l hp n ht) I
 |@arr a_ c6 c_ val q n I hw=>exact h.go (f:=λc6=>[.str "arrange",.str a_,.str c6,.str c_,.str val]) (λP b g hi l hp=>Y3 P b g hi l hp n hw ht) I
 |@role a_ c6 d4 r q n I L M=>exact h.go (f:=λc6=>[.str "role",.str a_,.str c6,.str d4,.str r]) (λP b g hi l hp=>UI P b g hi l hp n L M ht) I
 |@two c7 a_ c6 d4 hw q n I L=>
  rcases hw with rfl|rfl|rfl|rfl
  ·exact h.go (f:=λc6=>[.str "ask",.str a_,.str c6,.str d4]) (λP b g hi l hp=>Y7 P b g hi l hp n L ht) I
  ·exact absurd q (by decide+kernel)
  ·exact absurd q (by decide+kernel)
  ·exact absurd q (by decide+kernel)
def LI(ns:List Int)(k:Nat)(Y:bV)(A:Ab):Prop:=St A (k+4)/\∃a b c,Y=[.sh (.vF ns),.sh (.at 0),.sh (.at 4),.sh c,.sh a,.sh (.tup (ws.map .str)),b]
theorem MX(ns:List Int):y8 [.vF ns]=.ok (.bl true):=by
 unfold y8 Dc;rw[aW ⟨rfl,rfl⟩];show yj (Hs.1 [.sh (.vF ns),.no,.no,.no,.no,.no,.no] [])=_;unfold Hs;have S:∀A,sx (.ok (.tup [.str "ann",.str "bo",.str "cy",.str "dee",.str "ed"])) A=.ok (.tup [.str "ann",.str "bo",.str "cy",.str "dee",.str "ed"]) A:=λA=>rfl;have n:Ba (.ok (ws.map .str))=.ok (.tup (ws.map .str)):=rfl;have r:∀A,sx (.ok (.tup (ws.map .str))) A=.ok (.tup (ws.map .str)) A:=λA=>rfl;have I:∀A,Tu (Ts (.ok (.bl true) A))=.ok false A:=λ_=>rfl;have l2:∀a b,zq (.ok [a,b])=.ok (.lst [a,b]):=λ_ _=>rfl;have l1:∀a,zq (.ok [a])=.ok (.lst [a]):=λ_=>rfl;simp only[bO,mL]at n r;have q:∀A,vg (.ok (.lst [.tup [.str "role",.str "ann",.str "hall",.str "bo",.str "keeper"],.tup [.str "enter",.str "ed",.str "hall"]])) A=.ok (.at A.length) (A++[.lst [.tup [.str "role",.str "ann",.str "hall",.str "bo",.str "keeper"],.tup [.str "enter",.str "ed",.str "hall"]]]):=λ_=>rfl;have t5:aZ 5 (A0++[.lst [.tup [.str "role",.str "ann",.str "hall",.str "bo",.str "keeper"],.tup [.str "enter",.str "ed",.str "hall"]]]) (.at A0.length)=.lst [.tup [.str "role",.str "ann",.str "hall",.str "bo",.str "keeper"],.tup [.str "enter",.str "ed",.str "hall"]]:=by rw[ll lX];rfl
 have al:∀a b c,Hd (.lst [a,b]) (.lst [c])=.ok (.lst [a,b,c]):=λ_ _ _=>rfl;have lw:L5 (.ok (.lst [.tup [.str "role",.str "ann",.str "hall",.str "bo",.str "keeper"],.tup [.str "enter",.str "ed",.str "hall"],.tup [.str "role",.str "bo",.str "hall",.str "cy",.str "speaker"]]))=.ok [.tup [.str "role",.str "ann",.str "hall",.str "bo",.str "keeper"],.tup [.str "enter",.str "ed",.str "hall"],.tup [.str "role",.str "bo",.str "hall",.str "cy",.str "speaker"]]:=rfl;obtain⟨A1,b1,s1⟩:=step (ts:=[.str "role",.str "ann",.str "hall",.str "bo",.str "keeper"]) (st0.push (o:=.lst [.tup [.str "role",.str "ann",.str "hall",.str "bo",.str "keeper"],.tup [.str "enter",.str "ed",.str "hall"]])) (.role (by decide+kernel) (by decide+kernel) (.inl rfl) (by decide+kernel) (by decide+kernel)) (by decide);obtain⟨A2,b2,s2⟩:=step (ts:=[.str "enter",.str "ed",.str "hall"]) s1 (.one (.inr (.inl rfl)) (by decide+kernel) (by decide+kernel) (.inl rfl)) (by decide);obtain⟨A3,b3,s3⟩:=step (ts:=[.str "role",.str "bo",.str "hall",.str "cy",.str "speaker"]) s2 (.role (by decide+kernel) (by decide+kernel) (.inl rfl) (by decide+kernel) (by decide+kernel)) (by decide);simp only[ev,cS,fK,f9,UP,S,PN,UQ,l1,l2,q,t5,al,lw,I,b1,b2,b3,n,r,bZ,b_,Za,Hl];refine MW (LI ns) ⟨s3,_,.no,_,rfl⟩ (λk Y A hk g=>?_) λY A g=>?_
 ·obtain⟨hs,a,b,L,rfl⟩:=g;obtain⟨c,ec⟩:=UM ns ((0+(k:Nat):Int) % 11) (xt _ (by decide));obtain⟨ts,M,hd⟩:=UO (ws:=ws) (by decide+kernel) (by decide) (c+41*(0+(k:Nat))) (aZ 5 A (.at 4));obtain⟨A',eb,l⟩:=step hs (hd.mono (by decide+kernel)) (by omega);have m1:Ik (.int (0+(k:Nat))) (.int 11)=.ok (.int ((0+(k:Nat):Int) % 11)):=UL (by decide);have m2:Il (.int 41) (.int (0+(k:Nat)))=.ok (.int (41*(0+(k:Nat)))):=UK (.inl ⟨by decide,by decide⟩);have fz:∀A,sx (.ok (.tup ts)) A=.ok (.tup ts) A:=λA=>aW (Jt hd);simp only[bO,mL]at M⊢;refine⟨_,rfl,[.sh (.vF ns),.sh (.at 0),.sh (.at 4),.sh L,.sh (.tup ts),.sh (.tup (ws.map .str)),.sh (.int (0+(k:Nat)))],A',?_,l,_,_,_,rfl⟩;simp only[ev,cS,fK,f9,m1,ec,m2,M,fz,bZ,b_,eb,I]
  rfl
 ·obtain⟨⟨bh,bw,D1,D2,s⟩,a,b,L,rfl⟩:=g;simp only[ev,cS,fK,Y9 s (by decide)]
  rfl
def O:Vk:=⟨["ValueError","all","bool","dict","int","isinstance","len","list","max","min","range","set","sorted","str","tuple","zip"],["Barred","Hall","Known","NoHand","NoLine","NoPerson","NoRight","NoRoom","NoRow","NotAsked","NotIn","Room","TalkError"],["Hall","Room"],[("Room",["banned","chosen","entries","invited","log","ranks","read_marks","said_by_key"]),("Hall",["hands","persons","places"])],[iO],["Known","NoPerson","NoRoom","NotIn","NotAsked","Barred","NoRight","NoRow","NoHand","NoLine"],[.inl "Barred",.inl "Known",.inl "NoHand",.inl "NoLine",.inl "NoPerson",.inl "NoRight",.inl "NoRoom",.inl "NoRow",.inl "NotAsked",.inl "NotIn",.inr "ValueError"],["TalkError"],["Barred","Known","NoPerson","NoRight","NoRoom","NotAsked","NotIn"]⟩
set_option maxHeartbeats 8000000 in
theorem all_mk{l:PySem.W.OpenLaw}{w:World}{K:Frag}{h:Heap}{mg:Str->Option Value}{fa:Addr}(X:K.In h)(G:h.Ns mainGlobals mg)(hfa:mg "law"=some (.ref fa))
  (c1:DS.map (Df.fd K)=DS.map (λd=>d.re (d.fd K))) (c2:DS.all (Df.QY K)=true) (c3:O.QY K=true)
  {ze:Addr} {MY:Nat} {MZ:Array (Option Value)} {Ju Jv Jw Jx:Tok} (HC:PySem.W.nsIn K mainGlobals "ROLES"=some (some (.ref ze))) (HD:K.lookup ze=some ⟨.type "tuple",none,.seq #[.str "guest" Ju,.str "speaker" Jv,.str "keeper" Jw,.str "owner" Jx] MY,MZ⟩)
  {q:Addr} {dn1:Nat} {abI abJ abK:Tok} {Zb Zc Zd:Addr} (e1:PySem.W.nsIn K mainGlobals "SETTINGS"=some (some (.ref q))) (d1:K.lookup q=some ⟨.type "dict",none,.dict #[⟨PyData.keyHash w.params "door",.str "door" abI,.ref Zb⟩,⟨PyData.keyHash w.params "voice",.str "voice" abJ,.ref Zc⟩,⟨PyData.keyHash w.params "past",.str "past" abK,.ref Zd⟩] dn1,#[]⟩) (s1:(q==sysModules)=false)
  {Ze:Option Addr} {Zf:Nat} {Zg:Array (Option Value)} {UR US:Tok} (Zh:K.lookup Zb=some ⟨.type "tuple",Ze,.seq #[.str "open" UR,.str "asked" US] Zf,Zg⟩)
  {Zi:Option Addr} {Zj:Nat} {Zk:Array (Option Value)} {UT UU:Tok} (Zl:K.lookup Zc=some ⟨.type "tuple",Zi,.seq #[.str "all" UT,.str "some" UU] Zj,Zk⟩)
  {Zm:Option Addr} {Zn:Array (Option Value)} {UW UX:Tok} (Zo:K.lookup Zd=some ⟨.type "tuple",Zm,.seq #[.str "shown" UW,.str "hidden" UX] aN,Zn⟩)
  :∃fd:FuncData,(∀(s:Shared) (v:Value),BindsTo s fd ⟨[v],[]⟩ [("_law_script",v)])/\∀base:Heap,K.In base->base.Ns mainGlobals mg->eI l.prog w K mg base mw 10 fa fd ["_law_script"] (spT K y8):=by
 have o:=O.ok X G c3;have T:QZ K w mg:=⟨λi d e=>LZ X G c1 c2 d (d7 e),o.bl rfl,o.bl rfl,o.bl rfl,o.bl rfl,o.bl rfl,o.bl rfl,o.bl rfl,o.bl rfl,o.bl rfl,o.bl rfl,o.bl rfl,o.bl rfl,o.bl rfl,o.bl rfl,o.bl rfl,o.bl rfl,o.bn 0 rfl,o.mk_ rfl,o.mk_ rfl,⟨⟨.ref ze,_,W.mg_of X G HC,rfl,λH=>.tup (vs:=[.str "guest",.str "speaker",.str "keeper",.str "owner"]) (.inr ⟨_,_,_,HD,rfl,rfl,by show 4<=sizeLine;decide,(.cons ⟨_,rfl⟩ (.cons ⟨_,rfl⟩ (.cons ⟨_,rfl⟩ (.cons ⟨_,rfl⟩ .nil))))⟩) (.cons (.str _ (by decide)) (.cons (.str _ (by decide)) (.cons (.str _ (by decide)) (.cons (.str _ (by decide)) .nil))))⟩,⟨_,_,W.mg_of X G HC,HD,rfl,rfl⟩⟩,o.fl (c:="Room") rfl rfl,o.fl (c:="Room") rfl rfl,o.fl (c:="Room") rfl rfl,o.fl (c:="Hall") rfl rfl,o.fl (c:="Room") rfl rfl,o.fl (c:="Room") rfl rfl,o.fl (c:="Hall") rfl rfl,o.fl (c:="Hall") rfl rfl,o.fl (c:="Room") rfl rfl,o.fl (c:="Room") rfl rfl,o.fl (c:="Room") rfl rfl,E3.gd (bC:=[("door",.tup [.str "open",.str "asked"]),("voice",.tup [.str "all",.str "some"]),("past",.tup [.str "shown",.str "hidden"])]) (.cons (v:=.ref _) rfl (λH=>.tup (vs:=[.str "open",.str "asked"]) (.inr ⟨_,_,_,Zh,rfl,rfl,by show 2<=sizeLine;decide,(.cons ⟨_,rfl⟩ (.cons ⟨_,rfl⟩ .nil))⟩) (.cons (.str _ (by decide)) (.cons (.str _ (by decide)) .nil))) (.cons (v:=.ref _) rfl (λH=>.tup (vs:=[.str "all",.str "some"]) (.inr ⟨_,_,_,Zl,rfl,rfl,by show 2<=sizeLine;decide,(.cons ⟨_,rfl⟩ (.cons ⟨_,rfl⟩ .nil))⟩) (.cons (.str _ (by decide)) (.cons (.str _ (by decide)) .nil))) (.cons (v:=.ref _) rfl (λH=>.tup (vs:=[.str "shown",.str "hidden"]) (.inr ⟨_,_,_,Zo,rfl,rfl,by show 2<=sizeLine;decide,(.cons ⟨_,rfl⟩ (.cons ⟨_,rfl⟩ .nil))⟩) (.cons (.str _ (by decide)) (.cons (.str _ (by decide)) .nil))) .nil))) (W.mg_of X G e1) d1 s1 (show List.Nodup (["door","voice","past"]:List Str) by decide),E3.gk (bC:=[("door",.tup [.str "open",.str "asked"]),("voice",.tup [.str "all",.str "some"]),("past",.tup [.str "shown",.str "hidden"])]) (.cons (v:=.ref _) rfl (λH=>.tup (vs:=[.str "open",.str "asked"]) (.inr ⟨_,_,_,Zh,rfl,rfl,by show 2<=sizeLine;decide,(.cons ⟨_,rfl⟩ (.cons ⟨_,rfl⟩ .nil))⟩) (.cons (.str _ (by decide)) (.cons (.str _ (by decide)) .nil))) (.cons (v:=.ref _) rfl (λH=>.tup (vs:=[.str "all",.str "some"]) (.inr ⟨_,_,_,Zl,rfl,rfl,by show 2<=sizeLine;decide,(.cons ⟨_,rfl⟩ (.cons ⟨_,rfl⟩ .nil))⟩) (.cons (.str _ (by decide)) (.cons (.str _ (by decide)) .nil))) (.cons (v:=.ref _) rfl (λH=>.tup (vs:=[.str "shown",.str "hidden"]) (.inr ⟨_,_,_,Zo,rfl,rfl,by show 2<=sizeLine;decide,(.cons ⟨_,rfl⟩ (.cons ⟨_,rfl⟩ .nil))⟩) (.cons (.str _ (by decide)) (.cons (.str _ (by decide)) .nil))) .nil))) (W.mg_of X G e1) d1 s1 (show List.Nodup (["door","voice","past"]:List Str) by decide) (show∀z∈(["door","voice","past"]:List Str),z.length<=dc by decide),o.xc 0 rfl,o.xc 1 rfl,o.xc 2 rfl,o.xc 3 rfl,o.xc 4 rfl,o.xc 5 rfl,o.xc 6 rfl,o.xc 7 rfl,o.xc 8 rfl,o.xc 9 rfl,o.xc 10 rfl,o.Hn rfl,o.Hn rfl,o.Hn rfl,o.Hn rfl,o.Hn rfl,o.Hn rfl,o.Hn rfl,o.Hn rfl,o.Hn rfl,o.Hn rfl,o.ca rfl rfl,o.er rfl rfl,o.er rfl rfl,o.er rfl rfl,o.er rfl rfl,o.er rfl rfl,o.er rfl rfl,o.er rfl rfl⟩;cases hfa.symm.trans ((T.d 58 rfl:DW.Ok K mg).m0 rfl);obtain⟨g,od,kV,doc,pm,an,f_,ct,J9,b,_,_⟩:=(T.d 58 rfl:DW.Ok K mg).fn.ex;exact⟨_,λs v=>by rw[b];exact .of_eq rfl,λbase _ _=>(YR T).ok⟩
def UY{K:Frag}{H:Hp}{Q:VK}{E:XK}{a:Addr}{ns:List Int}(q:lR K H a (ns.map V.int))(hQ:∀H',Q (.bl true) H'):spT K y8 [.ref a] H Q E:=
 ⟨⟨λ_=>false,λ_=>none⟩,[.vF ns],λb e=>(nomatch e),.cons (.vF q) .nil,.bl true,MX ns,λv H' _ r=>by rw[r.x8];exact hQ H'⟩
def walk{l:PySem.W.OpenLaw}{q:Program}{XP:(Str->Option Value)->Heap->Prop}{YP:World->Heap->Prop}{d:DefRec}{K:Params->Frag}(hn:l.most=some 63)(Vq:d.params.defaults=[])
  (hY:∀(w:World) (h:Heap),YP w h->(K w.params).In h)
  (F:∀(w:World) (mg:Str->Option Value) (fa:Addr) (h:Heap),(K w.params).In h->h.Ns mainGlobals mg->mg d.name=some (.ref fa)->
   ∃fd:FuncData,(∀(s:Shared) (u:Value),BindsTo s fd ⟨[u],[]⟩ [("_law_script",u)])/\∀base:Heap,(K w.params).In base->base.Ns mainGlobals mg->eI l.prog w (K w.params) mg base mw 10 fa fd ["_law_script"] (spT (K w.params) y8)):
  PySem.W.WalkO q bw XP YP l.row.toRowW d [] (λf vs=>PySem.call f vs):=
 L2.NL (n:=63) (k:=10) (x:="_law_script") (CX:=λ_=>mw) (sp:=λw=>spT (K w.params) y8) hn (by decide) Vq ⟨rfl,by decide,by decide⟩ hY F (λ_ _ a ns g _ b=>UY b λ_=>rfl) λ_ _ _ _ _ z=>z
end M08
structure PySem.W.Fast:Prop where(tw17809678527194579582 tw17162710211853346661 tw8111957758830437511 tw571275989294910146 tw2795339007354287550 tw14409404097941957218 tw18085680265154228667 tw16115042736385054882 tw9596041817523731670 tw4164410964709414317 tw2339075203378081531 tw1327797764015039514 tw7198051710842352275 tw6606008015413657547 tw8823584914867002082 tw18347513020970837961 tw9805039929801082835 tw6067758057828889180 tw16301551328930838258 tw5541959512698297671 tw14264245802833985387 tw1366344175060536963 tw2417064440630967593 tw12988382990270729829 tw8872907113959058213 tw7232942340254778006 tw8064575978113415907 tw16657647569034006066 tw13158930431715303351 tw16906653822570999319 tw13566167646602107151 tw15545218204704209286 tw15338189680836191694 tw12842278803814030850 tw3375793456606193393 tw9572185770461085305 tw2350341273193019060 tw3041463749262175918 tw14315990870872667187 tw3696939232745411290 tw12887202315972211424 tw12717458679327928488 tw1186325134559229969 tw5415197814490388512 tw7295137785719043416 tw11065313584887927402 tw11667840022812381759 tw16515642730460233478 tw15641887529571751800 tw11600598917851591149 tw13778913731517888143 tw8871744843360183942 tw16163989235811242286 tw15293261492792483613 tw10256033996841877437 tw18337463250565793891 tw9118527969406038906 tw3661270463709027595 tw10705938966254813361 tw7971376063912266283 tw14515157439552449467 tw4449985698402853660 tw7647358056735432902 tw11301588062247116299 tw17893503827118530426 tw16750139947213193220 tw10909521771056632818 tw14921230593421870059 tw17467205859284042135 tw5612629400253727341 tw9947479703226103546 tw719436327423164599 tw7224446902659985544 tw5651789528430478256 tw894449981894476941 tw4021377286940983727 tw9350104510249389582 tw14435573931478945411 tw8501980315077145234 tw5290307831800947114 tw10063089069396055430 tw8638486423984021521 tw11630158995724820295 tw7281372920409719719 tw7040248175352183300 tw8943914931772417061 tw2286873526325181621 tw292119622375921664 tw15525171418873421651 tw16059536372818660124 tw1360759952553845625 tw3817994357252586697 tw17757156036187807591 tw4657939978553652721 tw9571316165887012263 tw12641708049505866251 tw10115960080250000086 tw11834150057546383879 tw1125320111058517870 tw17830202074379953284 tw13032809661510762573 tw1770415311764486400 tw12500109119589474803 tw13755403502543785573 tw18248572992598808478 tw5824796302649437947 tw7259475611085015150 tw9418557985423249581 tw16389937419396923406 tw8580267529097124159 tw3713025633755156227 tw9465390371895539734 tw9368887083908305003 tw9845722753034539200 tw379087110871498823 tw8797864449494815035 tw13448719911251290467 tw14654868329559517660 tw13791281252024548240 tw3566044185180249272 tw7854796055715638642 tw5182358246150460102 tw6431978260638265287 tw5129250084673137623 tw12306977368115316821 tw6331300074931747786 tw9196942436173195897 tw12432663822518924873 tw10908526593991655620 tw12749954352428310148 tw3121735927482360251 tw389805521256306690 tw16723030591347188025 tw14708430204851309261 tw10128311918302185896 tw17710667947087344888 tw10083829334439769044 tw3902885705049401218 tw4909308388725099960 tw2571306688987041691 tw17197041207915502364 tw6039068804909702721 tw9283113452951786754 tw15527102315916012318 tw277333174177314805 tw6388245320829259709 tw8203805644109570473 tw12280823755197147923 tw7043785453549630749 tw9747715865331432434 tw16979433682540233476 tw16891655352957405260 tw16900886597320586570 tw3386251255543877788 tw13123857155017335946 tw9608975676518695801 tw13663208187346123747 tw12028498360800462647 tw892096533716309357 tw4954814977371243967 tw12862880263174519561 tw9220301093176341546 tw1351982592098072496 tw10542447887741527976 tw17009217833631685010 tw6341968336754701692 tw5203568745053019830 tw14426442530663705259 tw4570579382790311301 tw2524940095665660942 tw4899570330039874084 tw3141865466549702059 tw471630950384372013 tw898422835540443738 tw14645578194954214759 tw18013036892609568185 tw13340414003274318461 tw16074935974699002194 tw1924901351891575312 tw11272511255898168927 tw4331944916909020315 tw11251031816646119264 tw11592389679888308062 tw10521122045907068261 tw11919288408558007506 tw15615534310508311792 tw11129143351124909283 tw2570502362830918665 tw8882230098546304490 tw15068646947750516397 tw13679470500074100960 tw17056688024096945714 tw8540110553988743180 tw5993450848062141851 tw9325561547643808863 tw5685470625010285931 tw3478317714518981153 tw6193306223495661072 tw17265799011335870469 tw920963743584374632 tw10302466992145759086 tw4574484847980541906 tw14645097677205550458 tw6199189708909799353 tw4362501786738737772 tw6259047625649459978 tw11369752171635664740 tw10656025439099292070 tw9355152682027773421 tw16817111501126530685 tw6979585190252717388 tw12609861460915599045 tw16527667178538115954 tw9362820451301351945 tw9439017251054812658 tw8870909555309483177 tw6315474340489220819 tw14102985976731422402 tw18186213880038950304 tw17846028302529667391 tw12869795355414256187 tw5342288071756507197 tw4628885905084615957 tw9481746969728027740 tw4172297220226373486 tw3330349571083122044 tw8914871218072321618 tw13066572425434354160 tw11280709889440047715 tw17316352515444628809 tw15620772914818698008 tw17890728732895395168 tw11322187844993648729 tw7513260447788816167 tw13791246445657428633 tw15723076397955610619 tw3713030825115017718 tw10305390064646284471 tw16255515158239776448 tw14581725866969779665 tw8487921504619050470 tw8741372202594579169 tw12246072825352662116 tw10484735470050165739 tw12832517872229957451 tw6108561412853320643 tw926110955508209520 tw4146445132113560290 tw15152841693471593443 tw1556240673103176285 tw9088524592144254935 tw7503970673667325048 tw8376131669996499459 tw8783026924358553150 tw8769151463640992760 tw12858488480651838651 tw7208535012835475557 tw10194579212467838796 tw4993778886885089544 tw10513590580449846316 tw5494268073549402087 tw9081326259512794203 tw11446394318944114820 tw6347491461058031490 tw14757232336245700473 tw8976167446366943989 tw15323389457311986540 tw10123267390321402920 tw12533330385553521087 tw16371456244093911772 tw16730029543463986097 tw13379753732825734512 tw10835562163019363067 tw3937213168777139611 tw8345496339441672060 tw4230012668913560925 tw365794942818635287 tw17881742307667845675 tw936276828850596451 tw1786621819359221792 tw5561269365512591560 tw17794494995498413357 tw4492187713129174913 tw9869725430934425871 tw8495780492206894862 tw14287780276414734089 tw11421199314974434606 tw18319648202979573834 tw4603030394292593711 tw9892632901835105299 tw1100974188091473522 tw11958544865740177578 tw8028159349641084335 tw15967218102886060065 tw2921094994911055036 tw5456930459373797669 tw6891624993216325030 tw8478385355428049060 tw15992974009050919206 tw13783997051667015282 tw5047563323487304476 tw12653725654405877433 tw16545283891461090127 tw14345445409253322467 tw601824674669706304 tw17516490035474451597 tw16206495577854045568 tw6758145448703907996 tw10116709720048201526 tw16161865637686420971 tw10168825523889215388 tw2370625440996775345 tw16486608874402479266 tw14683171513289765322 tw9786802486637986139 tw10898764333744684194 tw9255004115378174367 tw2517618296195925105 tw13784153848213626067 tw6947161054140093096 tw344614332688444891 tw7221522823876730389 tw6452258775981829348 tw13298528738369798212 tw12808589875331385960 tw7429164377099711707 tw11467415726596773551 tw17314896353791034014 tw13601572792211491146 tw11372857095938262048 tw15325615906140165474 tw5991180382245892833 tw8903605892633401946 tw2397130932369481298 tw15348228173372173778 tw18443263927708213737 tw10949640216802088339 tw11854779980530047061 tw15869219513455727464 tw3660596109102444228:True)
open PySem PySem.W PyProof.Rows
set_option maxRecDepth 100000 in
set_option maxHeartbeats 0 in
theorem PySem.Challenge.cw_talkhall_k08_asking_holds : PySem.Challenge.rw_talkhall_k08_asking.Holds := by
 w_on;o_law;k_head;(case hw=>w_witness2)
 k_fill
 refine M08.walk (l:=PySem.Challenge.rw_talkhall_k08_asking) rfl rfl (fun w h ρ=>PySem.W.kIn_of ρ) ?F
 case F=>
  intro w mg fa h KX G Vr
  refine' M08.all_mk KX G Vr ?_ ?_ ?_ ?_ ?_ ?_ ?_ ?_ ?_ ?_ ?_
  all_goals first|k_is|kernel_rfl|skip
