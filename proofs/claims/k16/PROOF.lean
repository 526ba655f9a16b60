import PyProof.Rows.All
import Wide.All
import OpenK.AllK
import Wide.FinOn
import Lean
import PyProof.EqAt
import PyProof.EqKinds
import PyProof.TupleCall
import PyProof.ExcArgsOwn
import PyProof.AttrMissSeq
import KE.KMinKey
import KE.KBoundM
import KE.KSortTup
import KE.KItemsList
import PyProof.ListRange
import PyProof.SeqI3
import PySem.Challenge.RW_talkhall_k16_whole_rights
set_option Elab.async false
set_option linter.all false
set_option maxRecDepth 100000
set_option bootstrap.genMatcherCode false
set_option genSizeOf false
set_option genInjectivity false
set_option compiler.extract_closed false
noncomputable section
set_option maxHeartbeats 4000000
def aQ:=@List.set_cons_succ
def aR:=@List.set_cons_zero
def aU:=@beq_self_eq_true
def aY:=@List.length_map
def bP:=@Bool.false_eq_true
def cu:=@PySem.Heap.get?_push_of_some
def cI:=@List.getElem?_eq_getElem
def aM:=@PySem.wpAny_bind
def cw:=@List.mem_cons_of_mem
def aZ:=@Nat.le_refl
def aX:=@List.map_cons
def ay:=@if_pos
def a_:=@List.mem_cons
def bC:=@Bool.and_eq_true
def ck:=@List.contains_iff_mem
def b_:=@List.getElem?_map
def cz:=@List.mem_singleton
def bD:=@PySem.Heap.lt_size
def cn:=@List.lookup_cons
def cQ:=@PySem.Heap.get?_push_size
def cJ:=@List.mem_cons_self
def dm:=@List.mem_append_right
def aE:=@if_neg
def bI:=@Nat.le_trans
def cE:=@List.size_toArray
def bo:=@PySem.wpAny_pure
def cA:=@Option.map_some
def cF:=@List.mem_append
def aP:=@if_true
def bV:=@List.mem_map
def dH:=@Nat.lt_of_lt_of_le
def dI:=@List.length_append
def dq:=@List.length_cons
def dr:=@List.not_mem_nil
def cp:=@List.map_map
def bq:=@if_false
def cK:=@Bool.or_false
def eQ:=@List.mem_of_getElem?
def cG:=@Nat.le_of_lt
def gy:=@List.getElem?_eq_some_iff
def dA:=@decide_eq_true
def gz:=@decide_eq_false_iff_not
def dJ:=@Bool.not_false
def cY:=@Nat.ne_of_lt
def hU:=@PySem.Str.length_append
def fo:=@of_decide_eq_true
def dM:=@Bool.not_true
def gA:=@List.mem_append_left
def eR:=@List.mem_filter
def fT:=@Option.isSome_some
def gB:=@beq_eq_false_iff_ne
def eV:=@PySem.W.kia_one
def hV:=@Bool.or_eq_false_iff
def i6:=@List.length_filter_le
def fD:=@List.map_append
def fU:=@List.all_eq_true
def jG:=@List.filter_cons_of_neg
def fV:=@decide_eq_false
def kT:=@PySem.F.slot_list_append
def kU:=@List.filter_cons_of_pos
def cR:=@congrArg
def i7:=@Bool.false_ne_true
def fE:=@Nat.lt_irrefl
def kW:=@List.getElem?_set_self
def fq:=@Bool.true_or
def jH:=@List.mem_map_of_mem
def jI:=@List.map_congr_left
def m_:=@PySem.F.type_list_append
def d8:=@PySem.wpAny_mono
def hW:=@List.append_nil
def fF:=@Bool.or_true
def eW:=@PySem.sizeLine_eq
def kX:=@PySem.W.hideAll_none
def kY:=@List.getElem?_set_ne
def dt:=@or_false
def jJ:=@decide_eq_true_eq
def p9:=@List.getD_eq_getElem?_getD
def nc:=@PySem.F.plain_min_loop
def kZ:=@PySem.mem_of_lookup
def k_:=@List.filter_eq_self
def p_:=@List.getElem?_append_left
def fG:=@beq_iff_eq
def jK:=@List.nodup_cons
def jL:=@List.find?_cons
def jM:=@beq_false_of_ne
def ng:=@List.replicate_succ
def nh:=@PySem.Around.under_plainId
def i8:=@List.any_cons
def i9:=@List.all_cons
def nj:=@List.mem_filterMap
def nk:=@Nat.lt_of_le_of_lt
def nq:=@Option.isSome_map
def jO:=@Bool.true_and
def qa:=@PySem.W.hideAll_get
def qd:=@Array.length_toList
def lh:=@PySem.codeAny_builtin
def qe:=@Int.toNat_of_nonneg
def qf:=@PySem.Calls.evalArgs_plain
def qg:=@PySem.W.of_hideAll
def sx:=@PySem.W.funFrames_hide
def mh:=@Option.isSome_none
def ki:=@List.length_set
def kj:=@Bool.eq_iff_iff
def mi:=@List.flatten_cons
def mj:=@List.getElem?_set
def ml:=@PySem.Calls.spliced_cons
def mn:=@PySem.wpAny_Call_Name_kw
def oW:=@PySem.Calls.callWith_builtin
def hX:=@Nat.zero_le
def jg:=@PySem.wpAny_holding
def jh:=@Nat.ne_of_gt
def mq:=@List.getElem_mem
def mr:=@PySem.wpAny_truthy_bool
def mv:=@PySem.wpAny_pyIter_list
def oX:=@List.filterMap_cons
def oY:=@PySem.W.plainGet_of
def sA:=@Option.isSome_iff_exists
def kl:=@PySem.wpAny_tryCatch
def km:=@Bool.beq_comm
def mw:=@Option.map_none
def sC:=@List.getElem?_replicate
def sD:=@PySem.F.plainAttrs_dict
def mz:=@Bool.false_and
def oZ:=@Bool.not_eq_true'
def kn:=@PySem.plainId_quiet
def o4:=@List.length_range
def o5:=@PySem.tupleKind_room_in1
def sE:=@PySem.F.slot_dict_pop
def sF:=@Array.getElem?_toList
def sG:=@Bool.and_eq_false_iff
def o6:=@List.any_eq_true
def o7:=@Nat.succ_ne_self
def mB:=@Bool.and_true
def sH:=@Array.toArray_toList
def o8:=@List.filter_map
def sI:=@List.length_pos_iff
def o9:=@List.mem_range
def v9:=@List.getElem?_append_right
def o_:=@PySem.wpAny_passesOwn
def v_:=@List.drop_eq_getElem_cons
def sJ:=@PySem.W.kitx_dict
def wa:=@PyProof.Rows.slot_tuple_getitem
def sL:=@List.append_assoc
def mC:=@List.map_id
def sM:=@List.filter_congr
def sN:=@Nat.le_succ_of_le
def pb:=@Bool.false_or
def wb:=@PySem.F.slot_tuple_index
def wc:=@PySem.Calls.Name_function_global
def pd:=@PySem.Heap.size_push
def sO:=@Nat.lt_succ_self
def ko:=@PySem.call_meets
def wd:=@PySem.F.entry_min_loop
def sP:=@PySem.Calls.spliced_nil
def we:=@List.length_replicate
def wg:=@PySem.F.slot_dict_get
def wj:=@PySem.F.slot_list_getattribute
def pf:=@PySem.codeAny_mono
def wk:=@PySem.Heap.get?_update_other
def ph:=@PySem.call_meetsIn
def wm:=@List.getElem_of_mem
def wo:=@List.filter_sublist
def sQ:=@PySem.wpAny_execs_nil
def wq:=@PySem.W.callWith_K
def wt:=@PySem.F.typeOf_object_class
def wu:=@Option.isNone_some
def sR:=@PySem.W.looks_findIn
def wx:=@PySem.W.kitx_list
def sS:=@List.map_nil
def sT:=@List.all_map
def wy:=@Nat.lt_succ_of_lt
def mD:=@PySem.W.Looks.ld
def wz:=@Bool.eq_false_iff
def sU:=@PySem.wpAny_seqItems
def sV:=@List.any_map
def wA:=@Nat.le_of_lt_succ
def wB:=@List.nodup_append
def wC:=@Option.getD_some
def wD:=@List.drop_length
def wF:=@decide_eq_decide
def sW:=@Nat.le_succ
def wG:=@List.of_mem_zip
def wH:=@List.length_nil
def wI:=@List.forIn_cons
def wJ:=@Int.emod_nonneg
def AI:=@PyProof.Rows.callWith_type1
def wK:=@PySem.wpAny_Call_method
def wL:=@Bool.and_false
def AJ:=@PySem.F.excBase_ValueError
set_option compiler.extract_closed false
local macro_rules|`(tactic|decide)=>`(tactic|decide+kernel)
local macro_rules|`(tactic|omega)=>`(tactic|lia)
namespace HT
open PySem PyProof.Rows
section
open PySem.SeqAt
open PySem.AutoSeq1 (wpAny_loadPart')
open PySem.MeetsSeq PySem.MeetsSeq2 PySem.MeetsSeq3
end
def KC{s:Shared}{vs ws:List Value}{Q:Value->Shared->Prop}(ht:IsTup s.heap t vs.toArray)(hb:IsTup s.heap b ws.toArray)(q:vs≠[])
  (h1:ws=[]->Q (.ref t) s) (h2:ws≠[]->Q (.ref s.heap.objs.size) {s with heap:=s.heap.push {cls:=.type "tuple",data:=.seq (vs++ws).toArray}})
  (hsz:vs.length+ws.length<=sizeLine):wpAny (model prog w) A (binaryOp .Add (.ref t) (.ref b)) Q E s:=by
 obtain⟨⟨cls,dd,data,sl⟩,L,r,n,hd⟩:=id ht;obtain⟨⟨Zk,I,data2,M⟩,g,S,n2,hd2⟩:=id hb;simp only at r hd S hd2;subst r hd S hd2;have e:vs.toArray++ws.toArray=(vs++ws).toArray:=by simp
 by_cases hw:ws=[]
 .exact concat_meets ⟨_,L,rfl⟩ ⟨_,g,rfl⟩ noFill_tuple_add seq_tuple_add PySem.F.slot_tuple_add PySem.F.entry_tuple_add (PySem.F.args_tuple_add_2 _ _)
   (tuple_addW1 t b vs.toArray ws.toArray n n2 dd I sl M (by simpa using q) (by simp[hw])) ⟨L,g,h1 hw⟩
 .refine concat_meets ⟨_,L,rfl⟩ ⟨_,g,rfl⟩ noFill_tuple_add seq_tuple_add PySem.F.slot_tuple_add PySem.F.entry_tuple_add (PySem.F.args_tuple_add_2 _ _)
   (tuple_addW2 t b vs.toArray ws.toArray n n2 dd I sl M (by simpa using q) (by simpa using hw) (by rwa[List.size_toArray,List.size_toArray])) ⟨L,g,?_⟩
  rw[e];exact h2 hw
noncomputable def gL(n d:Nat):Option Int->Nat
 |none=>d
 |some v=>if v<0 then(v+(n:Int)).toNat else min v.toNat n
def Hl(n d:Nat):gL n d none=d:=rfl
def KD(n d k:Nat):gL n d (some (k:Int))=min k n:=by
 show(if(k:Int)<0 then((k:Int)+(n:Int)).toNat else min (k:Int).toNat n)=min k n;rw[if_neg (by omega),Int.toNat_natCast]
def N1(n d:Nat)(hd:d<=n)(o:Option Int):gL n d o<=n:=by
 cases o with
 |none=>exact hd
 |some v=>
  show(if v<0 then(v+(n:Int)).toNat else min v.toNat n)<=n;by_cases L:v<0
  .rw[if_pos L];omega
  .rw[if_neg L];exact Nat.min_le_right _ _
def zy(v:Int)(n d:Nat):(if v<0 then max (v+(n:Int)) 0 else min v (n:Int))=((gL n d (some v):Nat):Int):=by
 show(if v<0 then max (v+(n:Int)) 0 else min v (n:Int))=(((if v<0 then(v+(n:Int)).toNat else min v.toNat n):Nat):Int);by_cases L:v<0
 .simp only[if_pos L];omega
 .simp only[if_neg L];omega
def CT(lo hi:Option Int)(n:Nat):Builtin.Slice.sliceAdjust lo hi 1 (n:Int)=(((gL n 0 lo:Nat):Int),((gL n n hi:Nat):Int)):=by
 have L:¬((1:Int)<0):=by omega
 unfold Builtin.Slice.sliceAdjust;simp only[L,if_false];refine Prod.ext ?_ ?_
 .cases lo with
  |none=>rfl
  |some v=>exact zy v n 0
 .cases hi with
  |none=>rfl
  |some v=>exact zy v n n
def CU(i j:Nat):Builtin.Slice.slicePlaces (i:Int) (j:Int) 1=j - i:=by
 unfold Builtin.Slice.slicePlaces;have L:(1:Int)>0:=by omega
 simp only[L,if_true,Int.ediv_one];split<;>omega
def wM{Q:Option Int->Shared->Prop}(p:IsPart v o)(h:Q o s):wpAny (model prog w) A (Builtin.Slice.slicePartIndex v) Q E s:=by
 cases p with
 |none=>exact slicePart_none h
 |int i t=>exact slicePart_int h
def mE{s:Shared}{lo:Option Int}{n:Nat}{Q:Int×Int×Nat->Shared->Prop}(hs:s.heap.IsSliceOf r g q .none)(pl:IsPart g lo)(pu:IsPart q hi)
  (h:Q (((gL n 0 lo:Nat):Int),1,gL n n hi - gL n 0 lo) s):wpAny (model prog w) A (Builtin.Slice.sliceApplied (.ref r) (pure (n:Int))) Q E s:=by
 obtain⟨os,L,I,b⟩:=id hs;unfold Builtin.Slice.sliceApplied Builtin.Slice.sliceFields;refine wpAny_bind (wpAny_bind (wpAny_field L b (x:=g) rfl (wpAny_bind (wpAny_field L b (x:=q) rfl (wpAny_bind (wpAny_field L b (x:=.none) rfl (wpAny_pure ?_)))))));refine wpAny_bind (slicePart_none ?_);show wpAny _ _ (if((1:Int)==0)=true then _ else _) _ _ s;rw[if_neg (by decide)];refine wpAny_bind (wM pl (wpAny_bind (wM pu (wpAny_bind (wpAny_pure ?_)))));show wpAny _ _ (match Builtin.Slice.sliceAdjust lo hi 1 (n:Int)with|(lo,hi)=>pure (lo,(1:Int),Builtin.Slice.slicePlaces lo hi 1)) _ _ s;rw[CT lo hi n];show wpAny _ _ (pure (((gL n 0 lo:Nat):Int),(1:Int),Builtin.Slice.slicePlaces ((gL n 0 lo:Nat):Int) ((gL n n hi:Nat):Int) 1)) _ _ s;rw[CU];exact wpAny_pure h
def Hm(xs:Array Value)(i k:Nat):((List.range k).filterMap λ(m:Nat)=>xs[((i:Int)+(m:Int)*1).toNat]?).toArray=((xs.toList.drop i).take k).toArray:=by
 have e:(λ(m:Nat)=>xs[((i:Int)+(m:Int)*1).toNat]?)=λm=>xs[i+m]? :=by
  funext m;have:((i:Int)+(m:Int)*1).toNat=i+m:=by omega
  rw[this]
 rw[e];have:=pick_run xs i k;rw[List.filterMap_map]at this;have L:((λx=>xs[x]?)∘λx=>i+x)=λm=>xs[i+m]? :=rfl
 rw[L]at this;rw[this]
theorem sX{s:Shared}{lo:Option Int}{Q:Value->Shared->Prop}(g:IsTup s.heap t b)(hs:s.heap.IsSliceOf r I M .none)(pl:IsPart I lo)(pu:IsPart M hi)
  (hw:¬(gL b.size 0 lo=0/\gL b.size b.size hi=b.size))
  (h:Q (.ref s.heap.objs.size) {s with heap:=s.heap.push {cls:=.type "tuple",data:=.seq ((b.toList.drop (gL b.size 0 lo)).take (gL b.size b.size hi - gL b.size 0 lo)).toArray}})
  (hsz:b.size<=sizeLine):wpAny (model prog w) A (getItem (.ref t) (.ref r)) Q E s:=by
 have L:sizeOk (.seq ((b.toList.drop (gL b.size 0 lo)).take (gL b.size b.size hi - gL b.size 0 lo)).toArray):=by
  show((b.toList.drop (gL b.size 0 lo)).take (gL b.size b.size hi - gL b.size 0 lo)).toArray.size<=sizeLine;rw[List.size_toArray,List.length_take,List.length_drop,Array.length_toList];omega
 have hj:gL b.size b.size hi<=b.size:=N1 _ _ (Nat.le_refl _) hi;obtain⟨os,S,UX,RN⟩:=id hs;have Vr:s.TypeIs (.ref r) "slice":=⟨os,S,UX⟩;unfold getItem
 try with_reducible refine wpAny_holding ?_
 first|refine wpAny_bind (wpAny_pure ?_)|skip
 refine wpAny_bind (wpAny_sequenceKey g.typeIs (by decide) ?_);refine wpAny_bind (wpAny_callSpecial?_slot (name:=Str.ofString "__getitem__") g.typeIs PyProof.Rows.slot_tuple_getitem
  (wpAny_call_entry PyProof.Rows.slot_tuple_getitem g.typeIs entry_tuple_getitem ?_ (args_tuple_getitem _ _)))
 show wpAny _ _ (Builtin.Tuple.tupleItemsOf (.ref t)>>=_) _ _ s;refine wpAny_bind (tupleItemsOf_ g ?_);refine wpAny_bind (wpAny_typeOf Vr ?_);rw[if_pos (by decide)];refine wpAny_bind (mE hs pl pu ?_);have Hn:¬((((gL b.size 0 lo:Nat):Int)==0&&(1:Int)==1&&(gL b.size b.size hi - gL b.size 0 lo)==b.size)=true):=by
  intro q;rw[Bool.and_eq_true,Bool.and_eq_true]at q;have q1:((gL b.size 0 lo:Nat):Int)=0:=eq_of_beq q.1.1;have q2:gL b.size b.size hi - gL b.size 0 lo=b.size:=eq_of_beq q.2;exact hw ⟨by omega,by omega⟩
 show wpAny _ _ (if(((gL b.size 0 lo:Nat):Int)==0&&(1:Int)==1&&(gL b.size b.size hi - gL b.size 0 lo)==b.size)=true then _ else _) _ _ s;rw[if_neg Hn,Hm]
 first
  |exact wpAny_bind (m:=Builtin.Tuple.tupleExact _) (wpAny_newObj_type (wpAny_pure ⟨_,rfl,wpAny_pure h⟩) L)
  |exact wpAny_bind (m:=Builtin.Tuple.tupleExact _) (wpAny_newObj_type (wpAny_bind (wpAny_pure (wpAny_pure ⟨_,rfl,wpAny_pure h⟩))) L)
  |exact wpAny_bind (wpAny_bind (m:=Builtin.Tuple.tupleExact _) (wpAny_newObj_type (wpAny_pure (wpAny_pure ⟨_,rfl,wpAny_pure h⟩)) L))
  |exact wpAny_bind (wpAny_bind (m:=Builtin.Tuple.tupleExact _) (wpAny_newObj_type (wpAny_pure ⟨_,rfl,wpAny_pure h⟩) L))
end HT
namespace X9
open PySem PySem.W PySem.Calls PyProof.Rows
def vF:∀(ns:List Int) (vs:List Value),WellAll P h vs (ns.map WData.int)->IntsAre vs ns:=by
 intro ns
 induction ns with
 |nil=>
  intro vs w;rw[List.map_nil]at w;cases w;exact .nil
 |cons n ns L=>
  intro vs w;rw[List.map_cons]at w;cases w with
  |cons a b=>
   cases a;exact .cons _ _ (L _ b)
theorem F1{l:OpenLaw}(M:l.most=some n)
  (g:l.row.toRowW.claim.pre args=true) (S:WellAll P h vals args):
  ∃a vs ns,vals=[Value.ref a]/\args=[WData.list (ns.map WData.int)]/\h.get? a=some {cls:=.type "list",data:=.seq vs.toArray}/\IntsAre vs ns/\ns.length<=n:=by
 have Zl:WShape.hasAll [] args [.list .int]=true:=(pre_splitW g).1;have I:l.pre.holds [] {args:=args}=true:=(pre_splitW g).2;obtain⟨d,r,rfl,h1,h2⟩:=hasAllW_cons Zl;obtain rfl:=hasAllW_nil h2;obtain⟨xs,rfl,h3⟩:=hasW_list h1;obtain⟨ns,rfl⟩:=items_int h3;have c6:ns.length<=n:=by
  unfold OpenLaw.pre at I;have L:(WTm.not (.lt (.lit (.int (n:Int))) (.len (.arg 0)))).holds [] {args:=[.list (ns.map .int)]}=true:=by
   have L:=(holds_andW I).1;rw[M]at L;exact L
  have b:=condW_of L (w_not (w_lt w_lit (w_len_list (w_arg rfl))));rw[List.length_map]at b;refine Nat.le_of_not_lt λq=>?_
  have q':(n:Int)<((ns.length:Nat):Int):=by omega
  first
   |(rw[decide_eq_true q']at b;exact absurd b (by decide))
   |(simp at b;omega)
 cases S with
 |cons w1 w2=>
  cases w2;cases w1 with
  |list ho zz=>exact⟨_,_,ns,rfl,rfl,ho,vF ns _ zz,c6⟩
theorem F2(l:OpenLaw)(args:List WData):l.row.toRowW.claim.post args (.bool true) args=true:=
 postW_of (r:=l.row.toRowW) (X:=(true==true))
  (show WShape.has [] (.bool true) .bool=true by first|rfl|decide|simp[WShape.has,WShape.arms,WShape.armsAll])
  (show(WTm.eq .res (.lit (.bool true))).value [] {args:=args,res:=some (.bool true),after:=args}=some (.bool (true==true))from w_eq_bool (w_res rfl) w_lit) rfl
def AK{l:OpenLaw}{S:World->Heap->Prop}{d:DefRec}
  (hn:l.most=some n) (RO:d.params.defaults=[])
  (call:∀(w:World) (I b:Shared) (mg M:Str->Option Value) (fa:Addr) (o:Obj) (pm cd doc:Value) (a:Addr) (vs:List Value) (ns:List Int),
   Ground q loose [] XP w I mg M b.heap->S w b.heap->
   b.heap.get? fa=some o->o.data=.func (docDef d.name d.params d.body d.scope pm cd doc)->b.heap.CodeRec cd d.name->mg d.name=some (.ref fa)->
   b.heap.get? a=some {cls:=.type "list",data:=.seq vs.toArray}->IntsAre vs ns->ns.length<=n->b.gens=#[]->
   codeAny (model l.prog w) callerA (.call (.ref fa) ⟨[.ref a],[]⟩) (λr g=>r=.ok (.ret (.bool true))/\OldK b.heap g.heap/\g.os=b.os/\AllBare g.gens) b):
  WalkO q loose XP S l.row.toRowW d [] (λf vs=>PySem.call f vs):=by
 intro w I b mg M G ρ fa o pm cd doc dV kV ho hd F3 L RP hg args vals as KG Zm hrd Vs hlo;obtain rfl:dV=.none:=Dflts.none L RO;obtain rfl:kV=.none:=Dflts.noKw L;obtain⟨a,vs,ns,rfl,rfl,N3,hints,c6⟩:=F1 hn KG Vs;refine enter_call (codeAny_mono (call w I b mg M fa o pm cd doc a vs ns G ρ ho (fd_plain hd) F3 RP N3 hints c6 hg) λr g hq=>?_);obtain⟨rfl,h2,h3,h4⟩:=hq;exact⟨.inl ⟨.bool true,.bool true,[],rfl,λ_=>rfl,.bool true,F2 l _,λ_=>⟨List.Pairwise.nil,λ_ hm=>(nomatch hm)⟩⟩,h2,h3,h4⟩
end X9
namespace PySem.SeqAt
open PySem PySem.Spec PySem.Calls PyProof.Rows PySem.MeetsSeq
def F4{s:Shared}{β:Type}(f:Nat->β->Sem (ForInStep β))(I:List Nat->β->Shared->Prop)(Q:β->Shared->Prop)
  (turn:∀x q b s,I (x::q) b s->wpAny M A (f x b) (λr S=>match r with|.yield g=>I q g S|.done g=>Q g S) E s)
  (fin:∀b s,I [] b s->Q b s) (n:Nat) (b:β) (h:I (List.range' 0 n) b s):wpAny M A (forIn [:n] b f) Q E s:=by
 rw[Std.Legacy.Range.forIn_eq_forIn_range'];simp only[Std.Legacy.Range.size,Nat.sub_zero,Nat.add_sub_cancel,Nat.div_one];exact wpAny_forIn_list f I Q turn fin _ b h
theorem yg(l:Addr)(q:Array Value)(n:Nat)(dd:Option Addr)(S:Array (Option Value))(x:Value)(e:Value->Bool)(j:Nat)(hj:j<q.size)(hit:e q[j]=true)(Hn:∀m (hm:m<q.size),m<j->e q[m]=false):
  Meets (Builtin.«tuple.index» ⟨[.ref l,x],[]⟩)
   (λA R s=>s.heap.get? l=some {cls:=.type "tuple",dict:=dd,data:=.seq q n,slots:=S}/\(∀y,y∈q->EqAt A.in1 s y x (e y))/\R (.ok (.ret (.int j s.toks))) {s with toks:=s.toks+1}):=
 .of_wp λprog w A R s h=>by
  obtain⟨hp,g,d,tk,os⟩:=s;obtain⟨hl,he,h⟩:=h
  wp_walk using wpAny_loadPart' hl,F4 _ (λr (b:Option _×Unit) I=>b.1=none/\I=⟨hp,g,d,tk,os⟩/\∃i,r=List.range' i (q.size - i)/\i<=j) _
  case turn=>
   rintro y r b I ⟨hb,rfl,i,L,hi⟩
   have M:i<q.size:=Nat.lt_of_le_of_lt hi hj;obtain⟨rfl,RQ⟩:y=i/\r=List.range' (i+1) (q.size - (i+1)):=by
    have e:q.size - i=(q.size - (i+1))+1:=by omega
    rw[e,List.range'_succ]at L;injection L with h1 h2
    exact⟨h1,h2⟩
   rw[Array.getElem?_eq_getElem M];refine wpAny_bind (he _ (Array.getElem_mem M) prog w _ _ ?_);by_cases z:y=j
   .subst z;rw[hit]
    wp_walk
    exact⟨_,rfl,h⟩
   .rw[Hn y M (by omega)]
    wp_walk
    exact⟨rfl,rfl,y+1,RQ,by omega⟩
  case fin=>
   rintro b I ⟨hb,rfl,i,L,hi⟩
   have e:q.size - i=(q.size - (i+1))+1:=by omega
   rw[e,List.range'_succ]at L;exact nomatch L
  case h=>exact⟨rfl,rfl,0,by rw[Nat.min_self,Nat.sub_zero],Nat.zero_le _⟩
end PySem.SeqAt
namespace HT
open PySem PyProof.Rows
theorem qN{s:Shared}{lo:Option Int}{Q:Value->Shared->Prop}(g:IsTup s.heap t b)(hs:s.heap.IsSliceOf q r I .none)(pl:IsPart r lo)(pu:IsPart I hi)
  (hw:gL b.size 0 lo=0/\gL b.size b.size hi=b.size) (h:Q (.ref t) s):wpAny (model prog w) A (getItem (.ref t) (.ref q)) Q E s:=by
 obtain⟨os,L,M,RN⟩:=id hs;have S:s.TypeIs (.ref q) "slice":=⟨os,L,M⟩;unfold getItem
 try with_reducible refine wpAny_holding ?_
 first|refine wpAny_bind (wpAny_pure ?_)|skip
 refine wpAny_bind (wpAny_sequenceKey g.typeIs (by decide) ?_);refine wpAny_bind (wpAny_callSpecial?_slot (name:=Str.ofString "__getitem__") g.typeIs PyProof.Rows.slot_tuple_getitem
  (wpAny_call_entry PyProof.Rows.slot_tuple_getitem g.typeIs entry_tuple_getitem ?_ (args_tuple_getitem _ _)))
 show wpAny _ _ (Builtin.Tuple.tupleItemsOf (.ref t)>>=_) _ _ s;refine wpAny_bind (tupleItemsOf_ g ?_);refine wpAny_bind (wpAny_typeOf S ?_);rw[if_pos (by decide)];refine wpAny_bind (mE hs pl pu ?_);have Vt:((((gL b.size 0 lo:Nat):Int)==0&&(1:Int)==1&&(gL b.size b.size hi - gL b.size 0 lo)==b.size)=true):=by
  rw[hw.1,hw.2];simp
 show wpAny _ _ (if(((gL b.size 0 lo:Nat):Int)==0&&(1:Int)==1&&(gL b.size b.size hi - gL b.size 0 lo)==b.size)=true then _ else _) _ _ s;rw[if_pos Vt];refine wpAny_bind (m:=Builtin.Tuple.tupleIsExact (.ref t)) ?_
 show wpAny _ _ (typeOf (.ref t)>>=_) _ _ s;refine wpAny_bind (wpAny_typeOf g.typeIs (wpAny_pure ?_));rw[if_pos (by decide)];exact wpAny_bind (wpAny_rule (wpAny_pure ⟨_,rfl,wpAny_pure h⟩))
end HT
namespace L2
open PySem.W (Frag)
open PySem PySem.Spec PyProof.Rows
variable {aa:Nat}{ac:Unit->Shared->Prop}{ae:Value->Shared->Prop}{af:List Expr}{ag:Expr}{ah:Pos}{ai:List Value}{aj:FuncData}
variable {K:Frag}{α:Type}{U:List (Addr×Obj)}{st:Stmt}{sY:Addr->Option Nat}{base h':Heap}{s:Shared}{c7:Expr}
def fe{p:Prop}(h:False):p:=h.elim
abbrev Db(x:Str):Prop:=(x==("__debug__":Str))=false
abbrev yh(pos b9:Pos)(o:Expr)(m:Str)(es:List Expr)(env:Env)(pl:Sem Bool):Sem Value:=do
 let ov<-eval o env
 standAt b9.atName
 let(f,first)<-holding [ov] (getMethod ov m pl)
 callWith pos f first (backTo pos (starEach es env)) (backToKw pos (keywordEach [] env))
abbrev Key:=Sum Int Str
noncomputable def mF:Key->Value->Bool
 |.inl k,v=>Value.isInt k v
 |.inr x,v=>Value.isStrOf x v
def Vu(w:World):Key->Int
 |.inl k=>hashInt k
 |.inr x=>hashStr w x
theorem dE:∀{k:Key} {v:Value},mF k v=true->(∃i t,k=Sum.inl i/\v=Value.int i t)\/(∃x t,k=Sum.inr x/\v=Value.str x t)
 |.inl i,v,h=>by
  obtain⟨t,e⟩:=Value.isInt_shape (k:=i) (v:=v) h;exact .inl ⟨i,t,rfl,e⟩
 |.inr x,v,h=>by
  obtain⟨t,e⟩:=Value.isStrOf_shape (x:=x) (v:=v) h;exact .inr ⟨x,t,rfl,e⟩
theorem F5(i:Int)(t:Tok):mF (.inl i) (.int i t)=true:=by simp[mF,Value.isInt]
theorem F6(x:Str)(t:Tok):mF (.inr x) (.str x t)=true:=by simp[mF,Value.isStrOf]
def N4(a b:Int):decide ((Sum.inl a:Key)=Sum.inl b)=(a==b):=by
 by_cases e:a=b
 .subst e;simp
 .have h:¬(Sum.inl a:Key)=Sum.inl b:=λq=>e (Sum.inl.inj q);rw[fV h];exact(gB.mpr e).symm
def N5(a b:Str):decide ((Sum.inr a:Key)=Sum.inr b)=decide (a=b):=by
 by_cases e:a=b
 .subst e;simp
 .have h:¬(Sum.inr a:Key)=Sum.inr b:=λq=>e (Sum.inr.inj q);rw[fV h,fV e]
def N6(a:Int)(b:Str):decide ((Sum.inl a:Key)=Sum.inr b)=false:=fV (λq=>nomatch q)
def N7(a:Str)(b:Int):decide ((Sum.inr a:Key)=Sum.inl b)=false:=fV (λq=>nomatch q)
def bQ(prog:Program)(w:World):PySem.KeyKind prog w Key where
 is:=mF
 hash:=Vu w
 inj:=λv a b q hb=>by
  rcases dE q with⟨i,t,rfl,rfl⟩|⟨x,t,rfl,rfl⟩
  .rcases dE hb with⟨j,u,rfl,e⟩|⟨y,u,rfl,e⟩
   .injection e with L _;rw[L]
   .exact nomatch e
  .rcases dE hb with⟨j,u,rfl,e⟩|⟨y,u,rfl,e⟩
   .exact nomatch e
   .injection e with L _;rw[L]
 byValue:=λk v h=>by
  rcases dE h with⟨i,t,rfl,rfl⟩|⟨x,t,rfl,rfl⟩<;>rfl
 pyHash:=λg h=>by
  rcases dE g with⟨i,t,rfl,rfl⟩|⟨x,t,rfl,rfl⟩
  .exact wpAny_pyHash_int h
  .exact wpAny_pyHash_str h
 eqBool:=λr g h=>by
  rcases dE r with⟨i,t,rfl,rfl⟩|⟨x,t,rfl,rfl⟩
  .rcases dE g with⟨j,u,rfl,rfl⟩|⟨y,u,rfl,rfl⟩
   .rw[N4]at h;exact wpAny_eqBool_int h
   .rw[N6]at h;exact SeqAt.EqAt.int_str i t y u _ _ _ _ h
  .rcases dE g with⟨j,u,rfl,rfl⟩|⟨y,u,rfl,rfl⟩
   .rw[N7]at h;exact SeqAt.EqAt.str_int x t j u _ _ _ _ h
   .rw[N5]at h;exact wpAny_eqBool_str h
 «strs»:=λk x t v h=>by
  rcases dE h with⟨i,u,rfl,e⟩|⟨y,u,rfl,e⟩
  .exact nomatch e
  .injection e with L _
   subst L;cases v<;>rfl
def AL(prog:Program)(w:World)(i:Int)(t:Tok):(bQ prog w).is (.inl i) (.int i t)=true:=F5 i t
def AM(prog:Program)(w:World)(x:Str)(t:Tok):(bQ prog w).is (.inr x) (.str x t)=true:=F6 x t
set_option genInjectivity true in
inductive V where
 |bL|bl (b:Bool)|int (i:Int)|str (x:Str)|M8 (b:Array UInt8)|qi (b:UInt64)|ref (a:Addr)|ty (n:String)
 deriving DecidableEq
def RelV:V->Value->Prop
 |.bL,u=>u=Value.none
 |.bl b,u=>u=Value.bool b
 |.int i,u=>∃t,u=Value.int i t
 |.str x,u=>∃t,u=Value.str x t
 |.M8 b,u=>∃t,u=Value.bytes b t
 |.qi b,u=>∃t,u=Value.float b t
 |.ref a,u=>u=Value.ref a
 |.ty n,u=>u=Value.type n
abbrev Vals:List V->List Value->Prop:=Paired RelV
theorem Vals.length (r:Vals xs us):xs.length=us.length:=Paired.length r
theorem Vals.get:∀{xs:List V} {us:List Value} {i:Nat} {x:V},Vals xs us->xs[i]?=some x->∃u,us[i]?=some u/\RelV x u
 |_,_,_,_,.nil,e=>by simp at e
 |_,_,0,_,.cons r _,e=>by simp at e;subst e;exact⟨_,rfl,r⟩
 |_,_,i+1,x,.cons _ t,e=>by
  obtain⟨u,h1,h2⟩:=Vals.get (i:=i) (x:=x) t (by simpa using e);exact⟨u,by simpa using h1,h2⟩
theorem Vals.append:∀{xs ys:List V} {us ws:List Value},Vals xs us->Vals ys ws->Vals (xs++ys) (us++ws)
 |_,_,_,_,.nil,s=>s
 |_,_,_,_,.cons r t,s=>.cons r (Vals.append t s)
theorem Vals.take:∀{xs:List V} {us:List Value} (n:Nat),Vals xs us->Vals (xs.take n) (us.take n)
 |_,_,0,_=>.nil
 |_,_,_+1,.nil=>.nil
 |_,_,n+1,.cons r t=>.cons r (Vals.take n t)
theorem Vals.drop:∀{xs:List V} {us:List Value} (n:Nat),Vals xs us->Vals (xs.drop n) (us.drop n)
 |_,_,0,r=>r
 |_,_,_+1,.nil=>.nil
 |_,_,n+1,.cons _ t=>Vals.drop n t
def lN:Option V->Option Value->Prop
 |some v,some u=>RelV v u
 |none,none=>True
 |_,_=>False
def KV{b:Type}:List (b×V)->List (b×Value)->Prop:=Paired λ(p:b×V) (q:b×Value)=>p.1=q.1/\RelV p.2 q.2
noncomputable def kV:Key->V
 |.inl i=>.int i
 |.inr x=>.str x
inductive HO where
 |lst (xs:List V)
 |tup (xs:List V)
 |dK (kvs:List (Key×V))|dT (kvs:List (List Key×V))
 |set (S:Int->Bool) (n:Nat)
 |ins (C dx:Addr) (fs:List (Str×V))
 |own (x:Addr)
 |xd (fs:List (Str×V))
 |met (f x:Addr)
 |KH (lo hi:Int)
 |kQ (o:Obj) (u:HO)
 |M9 (ps:Array Value)
 |ext (φ:Heap->Prop)
abbrev Hp:=Addr->Option HO
def upd(H:Hp)(a:Addr)(o:HO):Hp:=λb=>if b=a then some o else H b
def bA:upd H a o a=some o:=by unfold upd;rw[ay rfl]
def aN{a b:Addr}(h:b≠a):upd H a o b=H b:=by unfold upd;rw[aE h]
theorem RR{H:Hp}(h:H a=some o)(h':H b=some u)(d:o≠u):a≠b:=by
 intro e;subst e;rw[h]at h';exact d (Option.some.inj h')
def cB{H:Hp}(h:H a=some o)(h':H b=none):a≠b:=by
 intro e;subst e;rw[h]at h';cases h'
section
variable (P:Program)(w:World)
def pj(h:Heap)(a:Addr)(b:Array Value):Prop:=∃o,h.get? a=some o/\o.cls=.type "tuple"/\∃n,o.data=.seq b n/\o.dict=none
def pj.tup (x:pj h a a9):IsTup h a a9:=let⟨o,h1,h2,n,L,_⟩:=x;⟨o,h1,h2,n,L⟩
def pj.new (h:Heap)(a9:Array Value):pj (h.push {cls:=.type "tuple",data:=.seq a9}) h.objs.size a9:=⟨_,cQ _ rfl,rfl,_,rfl,rfl⟩
def cN(H:Hp)(h:Heap)(a:Addr):HO->Prop
 |.lst xs=>xs.length<=sizeLine/\∃(bM:List Value) (n:Nat),Vals xs bM/\h.get? a=some {cls:=.type "list",data:=.seq bM.toArray n}
 |.tup xs=>xs.length<=sizeLine/\∃bM:List Value,Vals xs bM/\pj h a bM.toArray
 |.dK kvs=>kvs.length<=sizeLine/\(a==sysModules)=false/\∃vs,KV kvs vs/\h.DictOf (bQ P w) a vs
 |.dT kvs=>kvs.length<=sizeLine/\(a==sysModules)=false/\∃xs:List (List Key×Addr×Value),
   Paired (λ(p:List Key×V) (q:List Key×Addr×Value)=>p.1=q.1/\H q.2.1=some (.tup (p.1.map kV))/\RelV p.2 q.2.2) kvs xs/\
   ∃o es ep,h.get? a=some o/\o.ExactDict/\o.data=.dict es ep/\es.toList=xs.map (entryOfKey (tupleKind (bQ P w)))/\(xs.map (·.1)).Nodup
 |.set S n=>h.SetOf (intKind P w) a S n
 |.ins C dx fs=>H dx=some (.own a)/\fs.length<=1000/\dx≠a/\h.get? a=some (PySem.W.instObj C dx)/\
   ∃mA,h.Ns1 dx mA/\(∀f,lN (fs.lookup f) (mA f))/\PySem.Within mA (fs.map (·.1))
 |.own _=>∃o,h.get? a=some o
 |.xd fs=>∃mA,h.Ns1 a mA/\∀f,lN (fs.lookup f) (mA f)
 |.KH lo hi=>∃t u v,h.get? a=some {cls:=.type "range",data:=.fields #[.int lo t,.int hi u,.int 1 v]}
 |.kQ o u=>h.get? a=some o/\cN H h a u
 |.M9 ps=>h.get? a=some {cls:=.none,data:=.fields ps}
 |.met f x=>h.get? a=some (PySem.W.methodObj (.ref f) (.ref x))
 |.ext φ=>φ h/\(∃o,h.get? a=some o)/\∀h1 L:Heap,φ h1->(∀o,h1.get? a=some o->L.get? a=some o)->φ L
def ri(H:Hp)(h:Heap):Prop:=∀a o,H a=some o->cN P w H h a o
end
theorem cN.lt (x:cN P w H h a o):a<h.objs.size:=by
 cases o with
 |lst xs=>obtain⟨_,_,_,_,e⟩:=x;exact bD e
 |tup xs=>obtain⟨_,_,_,p⟩:=x;exact p.tup.lt
 |dK kvs=>obtain⟨_,_,_,_,o,_,_,e,_⟩:=x;exact bD e
 |dT kvs=>obtain⟨_,_,_,_,o,_,_,e,_⟩:=x;exact bD e
 |set S n=>obtain⟨o,_,_,_,e,_⟩:=x;exact bD e
 |ins C dx fs=>obtain⟨_,_,_,e,_⟩:=x;exact bD e
 |own y=>obtain⟨_,e⟩:=x;exact bD e
 |xd fs=>obtain⟨_,⟨_,_,_,e,_⟩,_⟩:=x;exact bD e
 |KH lo hi=>obtain⟨_,_,_,e⟩:=x;exact bD e
 |kQ L u=>obtain⟨e,_⟩:=x;exact bD e
 |M9 ps=>exact bD (show h.get? a=some _ from x)
 |met f y=>exact bD (show h.get? a=some _ from x)
 |ext b=>obtain⟨_,⟨_,e⟩,_⟩:=x;exact bD e
theorem Paired.N8 {β:Type}{F G:α->β->Prop}:∀{g:List α} {q:List β},Paired F g q->(∀a b,F a b->G a b)->Paired G g q
 |_,_,.nil,_=>.nil
 |_,_,.cons r t,f=>.cons (f _ _ r) (Paired.N8 t f)
theorem cN.sZ {H':Hp}(x:cN P w H h a o)(k:∀b u,(b=a\/H b=some (.own a))->h.get? b=some u->h'.get? b=some u)
  (g:∀b,H b=some (.own a)->H' b=some (.own a)) (I:∀b xs,H b=some (.tup xs)->H' b=some (.tup xs)):cN P w H' h' a o:=by
 induction o with
 |lst xs=>obtain⟨z,bM,n,r,e⟩:=x;exact⟨z,bM,n,r,k _ _ (.inl rfl) e⟩
 |tup xs=>obtain⟨z,bM,r,ob,e,c⟩:=x;exact⟨z,bM,r,ob,k _ _ (.inl rfl) e,c⟩
 |dK kvs=>obtain⟨z,y,vs,r,ob,es,ep,e,c⟩:=x;exact⟨z,y,vs,r,ob,es,ep,k _ _ (.inl rfl) e,c⟩
 |dT kvs=>
  obtain⟨z,y,xs,r,ob,es,ep,e,c⟩:=x;exact⟨z,y,xs,Paired.N8 r λp q z=>⟨z.1,I _ _ z.2.1,z.2.2⟩,ob,es,ep,k _ _ (.inl rfl) e,c⟩
 |set S n=>obtain⟨ob,es,ep,t,e,c⟩:=x;exact⟨ob,es,ep,t,k _ _ (.inl rfl) e,c⟩
 |ins C dx fs=>
  obtain⟨d,z,ne,e,mA,⟨L,es,ep,M,c⟩,r⟩:=x;exact⟨g _ d,z,ne,k _ _ (.inl rfl) e,mA,⟨L,es,ep,k _ _ (.inr d) M,c⟩,r⟩
 |own y=>obtain⟨ob,e⟩:=x;exact⟨ob,k _ _ (.inl rfl) e⟩
 |xd fs=>obtain⟨mA,⟨L,es,ep,e,c⟩,r⟩:=x;exact⟨mA,⟨L,es,ep,k _ _ (.inl rfl) e,c⟩,r⟩
 |KH lo hi=>obtain⟨t,u,v,e⟩:=x;exact⟨t,u,v,k _ _ (.inl rfl) e⟩
 |kQ ob u ih=>obtain⟨e,q⟩:=x;exact⟨k _ _ (.inl rfl) e,ih q⟩
 |M9 ps=>
  have e:h.get? a=some {cls:=.none,data:=.fields ps}:=x;show h'.get? a=some {cls:=.none,data:=.fields ps};exact k a _ (.inl rfl) e
 |met f y=>
  have e:h.get? a=some (PySem.W.methodObj (.ref f) (.ref y)):=x;show h'.get? a=some (PySem.W.methodObj (.ref f) (.ref y));exact k a _ (.inl rfl) e
 |ext φ=>obtain⟨p,⟨o,e⟩,st⟩:=x;exact⟨st _ _ p λo q=>k _ _ (.inl rfl) q,⟨o,k _ _ (.inl rfl) e⟩,st⟩
theorem ri.lt (x:ri P w H h)(e:H a=some o):a<h.objs.size:=(x a o e).lt
def ri.fresh {a:Addr}(x:ri P w H h)(e:h.objs.size<=a):H a=none:=by
 cases q:H a with
 |none=>rfl
 |some u=>exact absurd (dH (x.lt q) e) (fE _)
def ri.kept (x:ri P w H h)(k:∀b u,h.get? b=some u->h'.get? b=some u):ri P w H h':=λa o e=>
 (x a o e).sZ (λb u _ q=>k b u q) (λ_ q=>q) λ_ _ q=>q
def ri.laid {h':Heap}{a:Addr}(x:ri P w H h)(k:∀b u,h.get? b=some u->h'.get? b=some u)(g:h.objs.size<=a)(new:cN P w (upd H a o) h' a o):ri P w (upd H a o) h':=λb u e=>by
 have L:=x.fresh g;by_cases hb:b=a
 .subst hb;rw[bA]at e;cases e;exact new
 .rw[aN hb]at e;exact(x b u e).sZ (λc v _ q=>k c v q) (λc q=>by rwa[aN (cB q L)]) λc xs q=>by rwa[aN (cB q L)]
def Rd(H:Hp)(a:Addr)(u:HO):Prop:=H a=some u\/∃o,H a=some (.kQ o u)
def Rd.ok (r:Rd H a u)(x:ri P w H h):cN P w H h a u:=by
 rcases r with r|⟨o,r⟩
 .exact x a u r
 .obtain⟨_,q⟩:=x a _ r;exact q
def RU:Option HO->Prop
 |some (.lst _)=>True
 |some (.dK _)=>True
 |some (.dT _)=>True
 |some (.set _ _)=>True
 |some (.ins _ _ _)=>True
 |some (.ext _)=>True
 |_=>False
def ri.write {e:Addr}(ok:ri P w H h)(g:RU (H x))(he:e=x\/H e=some (.own x))(k:∀b u,b≠e->h.get? b=some u->h'.get? b=some u)(Rc:∃u,h'.get? e=some u)
  (new:cN P w (upd H x M) h' x M):ri P w (upd H x M) h':=λb u q=>by
 have S:∀c y,H c=some (.own y)->c≠x:=λc y r z=>by subst z;rw[r]at g;exact g
 have Vv:∀c xs,H c=some (.tup xs)->c≠x:=λc xs r z=>by subst z;rw[r]at g;exact g
 by_cases hb:b=x
 .subst hb;rw[bA]at q;cases q;exact new
 .rw[aN hb]at q;by_cases L:b=e
  .have q':H b=some (.own x):=by
    rcases he with z|z
    .exact absurd (L.trans z) hb
    .rwa[L]
   rw[q]at q';cases q';obtain⟨v,hv⟩:=Rc;exact⟨v,by rwa[L]⟩
  .refine(ok b u q).sZ (λc v I r=>k c v ?_ r) (λc r=>by rwa[aN (S c b r)]) λc xs r=>by rwa[aN (Vv c xs r)]
   rcases I with rfl|I
   .exact L
   .rintro rfl
    rcases he with z|z
    .exact S c b I z
    .rw[I]at z;cases z;exact hb rfl
structure Un(fs ex:List Addr)(H H':Hp)(h h':Heap):Prop where
 keep:∀b o,h.get? b=some o->H b=none->b∉fs->b∉ex->h'.get? b=some o
 slot:∀b o,h.get? b=some o->H b=none->b∈fs->b∉ex->∃sl,h'.get? b=some {o with slots:=sl}
 free:∀b o,h.get? b=some o->H b=none->b∉ex->H' b=none
 there:∀b o,h.get? b=some o->b∉ex->∃o',h'.get? b=some o'
 oM:∀b xs,H b=some (.tup xs)->H' b=some (.tup xs)
 mG:∀b o u,H b=some (.kQ o u)->H' b=some (.kQ o u)
 pq:∀b ps,H b=some (.M9 ps)->∃more,H' b=some (.M9 (ps++more))
def Un.any (u:Un fs ex H H1 h h1){b:Addr}(q:h.get? b=some ob)(n:H b=none)(g:b∉ex):∃r,h1.get? b=some {ob with slots:=r}:=by
 by_cases hb:b∈fs
 .exact u.slot b ob q n hb g
 .exact⟨ob.slots,u.keep b ob q n hb g⟩
def Un.trans (a:Un fs ex H H1 h h1)(b:Un fs ex H1 H2 h1 h2):Un fs ex H H2 h h2 where
 keep:=λc L q n I g=>b.keep c L (a.keep c L q n I g) (a.free c L q n g) I g
 slot:=λc L q n I g=>by
  obtain⟨sl,r⟩:=a.slot c L q n I g;obtain⟨RW,M⟩:=b.slot c _ r (a.free c L q n g) I g;exact⟨RW,M⟩
 free:=λc L q n g=>by
  obtain⟨S,r⟩:=a.there c L q g;exact b.free c S r (a.free c L q n g) g
 there:=λc L q g=>by
  obtain⟨S,r⟩:=a.there c L q g;exact b.there c S r g
 oM:=λc xs q=>b.oM c xs (a.oM c xs q)
 mG:=λc L xs q=>b.mG c L xs (a.mG c L xs q)
 pq:=λc ps q=>by
  obtain⟨m1,r⟩:=a.pq c ps q;obtain⟨m2,M⟩:=b.pq c _ r;exact⟨m1++m2,by rw[M,Array.append_assoc]⟩
def Un.kept {h:Heap}(k:∀b u,h.get? b=some u->h'.get? b=some u):Un fs ex H H h h':=
 ⟨λb L q _ _ _=>k b L q,λb L q _ _ _=>⟨L.slots,k b L q⟩,λ_ _ _ n _=>n,λb L q _=>⟨L,k b L q⟩,λ_ _ q=>q,λ_ _ _ q=>q,λ_ ps q=>⟨#[],by rw[q];simp⟩⟩
def Un.refl:Un fs ex H H h h:=Un.kept λ_ _ q=>q
def Un.laid {H:Hp}{h h':Heap}{a:Addr}(k:∀b u,h.get? b=some u->h'.get? b=some u)(r:h.objs.size<=a)(g:H a=none):Un fs ex H (upd H a o) h h' where
 keep:=λb u q _ _ _=>k b u q
 slot:=λb u q _ _ _=>⟨u.slots,k b u q⟩
 free:=λb u q n _=>by rwa[aN (cY (dH (bD q) r))]
 there:=λb u q _=>⟨u,k b u q⟩
 oM:=λb xs q=>by rwa[aN (cB q g)]
 mG:=λb u xs q=>by rwa[aN (cB q g)]
 pq:=λb ps q=>⟨#[],by rw[aN (cB q g),q];simp⟩
def Un.write {H:Hp}{h:Heap}{e:Addr}(g:RU (H x))(he:e=x\/H e=some (.own x))(k:∀b u,b≠e->h.get? b=some u->h'.get? b=some u)(M:∃u,h'.get? e=some u):Un fs ex H (upd H x o) h h':=by
 have L:∀b,H b=none->b≠x:=λb n z=>by subst z;rw[n]at g;exact g
 have hb:∀b,H b=none->b≠e:=λb n z=>by
  subst z;rcases he with r|r
  .exact L b n r
  .rw[n]at r;cases r
 have hm:∀b u,H b=some u->¬RU (some u)->b≠x:=λb u q nm z=>by subst z;rw[q]at g;exact nm g
 refine⟨λb u q n _ _=>k b u (hb b n) q,λb u q n _ _=>⟨u.slots,k b u (hb b n) q⟩,λb u q n _=>by rwa[aN (L b n)],λb u q _=>?_,
  λb xs q=>by rwa[aN (hm b _ q λz=>z)],λb u xs q=>by rwa[aN (hm b _ q λz=>z)],λb ps q=>⟨#[],by rw[aN (hm b _ q λz=>z),q];simp⟩⟩
 by_cases I:b=e
 .subst I;exact M
 .exact⟨u,k b u I q⟩
noncomputable def UY(h:Heap)(H:Hp):List Addr:=(List.range h.objs.size).filter λa=>(H a).isSome
def zA(h:Heap)(H:Hp):Heap:=PySem.W.hideAll h (UY h H)
def F7(h:Heap)(H:Hp):(zA h H).objs.size=h.objs.size:=PySem.W.hideAll_size _ _
def Ho{H:Hp}{b:Addr}(e:h'.get? b=some o)(n:H b=none):(zA h' H).get? b=some o:=
 qa _ e λhm=>by
  have q:(H b).isSome=true:=(eR.mp hm).2;rw[n]at q;simp at q
def KI{b:Addr}(e:(zA h H).get? b=some o):h.get? b=some o/\H b=none:=by
 have L:h.get? b=some o:=qg (UY h H) e;refine⟨L,?_⟩;cases q:H b with
 |none=>rfl
 |some x=>
  have hm:b∈UY h H:=eR.mpr ⟨o9.mpr (bD L),by simp[q]⟩;have z:(zA h H).get? b=none:=kX (UY h H) hm;rw[z]at e;cases e
structure Mod(K:Frag)(mg:Str->Option Value)(base:Heap):Prop where
 N_:K.In base
 glob:base.Ns mainGlobals mg
 blt:∃mb,base.Ns builtinsNs mb/\∀x:Str,x≠"__name__"->mb x=bootBuiltins x
 nolimit:base.NoLimit
structure Cx where
 prog:Program
 w:World
 K:Frag
 mg:Str->Option Value
 base:Heap
 A:Around
 N:List Str
 g_:Shared
 AN:Hp
 env:Env
 outer:List Env
 stack:List Env
 ex:List Addr
 fn:Str->Bool
 calm:Bool
 pn:List (Addr×Obj)
 xe:Value->Shared->Prop
abbrev CV(X:Cx)(x:Str):Prop:=X.fn x=true\/X.env.scope.names.lookup x=some .local
noncomputable def jB(l:List Env):List Addr:=l.filterMap (·.frame)
abbrev Cx.fs (X:Cx):List Addr:=jB X.outer
def Vx(sc:Scope)(x:Str):Prop:=sc.names.lookup x=some .local\/sc.names.lookup x=some .cell\/sc.names.lookup x=some .free
def Loc(sc:Scope)(x:Str):Prop:=sc.names.lookup x=some .local\/sc.names.lookup x=some .cell
def Look(env:Env)(h:Heap)(m:Str->Option Value)(x:Str)(u:Value):Prop:=
 (env.kindOf x=some .local/\m x=some u)\/((env.kindOf x=some .cell\/env.kindOf x=some .free)/\∃c,env.cells.lookup x=some c/\h.IsCell c (some u))
structure Cx.Ok (X:Cx):Prop where
 mod:Mod X.K X.mg X.base
 kind:X.env.scope.kind=.function
 glob:X.env.globals=mainGlobals
 blt:X.env.builtins=builtinsNs
 above:X.g_.heap.objs.size<=X.env.locals
 inj:∀x y c,X.env.cells.lookup x=some c->X.env.cells.lookup y=some c->x=y
 has:∀x,(X.env.kindOf x=some .cell\/X.env.kindOf x=some .free)->∃c,X.env.cells.lookup x=some c
 M_:∀x c,X.fn x=true->X.env.cells.lookup x=some c->X.g_.heap.objs.size<=c
 hd:X.calm=true->X.A.handled=none
 frames:X.A.frames=some X.stack
 Kv:X.stack=X.outer\/(X.stack=X.env::X.outer/\X.env.frame=some X.env.locals)
 Rf:∀b∈X.ex,b≠X.env.locals/\∀x c,X.env.cells.lookup x=some c->c≠b
 bs:∀b o,X.base.get? b=some o->X.g_.heap.get? b=some o/\X.AN b=none
 F8:X.base.objs.size<=X.g_.heap.objs.size
 AO:∀b o,X.base.get? b=some o->b∉X.ex
 AQ:∀b∈X.ex,b∉X.fs
 qO:X.g_.heap.FunFrames X.base X.outer
 Hq:∀b∈X.fs,X.AN b=none
structure Inv(X:Cx)(U:List (Addr×Obj))(Z:List (Option V))(H:Hp)(s:Shared):Prop where
 ok:X.Ok
 os:s.os=X.g_.os
 bare:AllBare s.gens
 base:Un X.fs X.ex X.AN H X.g_.heap s.heap
 loc:∃m,s.heap.Ns X.env.locals m/\∀(i:Nat) (x:Str) (v:V),X.N[i]?=some x->Z[i]?=some (some v)->Vx X.env.scope x->∃u,RelV v u/\Look X.env s.heap m x u
 cell:∀x c,X.env.cells.lookup x=some c->∃v,s.heap.IsCell c v
 free:H X.env.locals=none
 gv:∀x c,X.env.cells.lookup x=some c->H c=none
 pin:∀p∈X.pn++U,s.heap.get? p.1=some p.2/\H p.1=none/\p.1≠X.env.locals/\p.1∉X.fs/\∀v,p.2.data≠ .cell v
 cL:ri X.prog X.w H s.heap
 len:Z.length=X.N.length
def Cx.Ok.Vy {X:Cx}(ok:X.Ok){b:Addr}(e:X.base.get? b=some o):b∉X.fs:=λhb=>by
 have:=(ok.qO.mem hb).1;rw[e]at this;cases this
theorem Inv.bs (I:Inv X U Z H s):∀b o,X.base.get? b=some o->s.heap.get? b=some o/\H b=none:=λb o e=>
 ⟨I.base.keep b o (I.ok.bs b o e).1 (I.ok.bs b o e).2 (I.ok.Vy e) (I.ok.AO b o e),I.base.free b o (I.ok.bs b o e).1 (I.ok.bs b o e).2 (I.ok.AO b o e)⟩
def Inv.bk (I:Inv X U Z H s):∀b o,X.base.get? b=some o->s.heap.get? b=some o:=λb o e=>(I.bs b o e).1
theorem Inv.mod (I:Inv X U Z H s):Mod X.K X.mg X.base:=I.ok.mod
def Inv.nt (I:Inv X U Z H s):X.K.In s.heap:=I.ok.mod.N_.keeps I.bk
def Inv.fr (I:Inv X U Z H s):∃m,Fr X.base X.env.locals s.heap m:=
 let⟨m,hn,_⟩:=I.loc
 ⟨m,hn,I.bk,bI I.ok.F8 I.ok.above⟩
theorem Inv.lt (I:Inv X U Z H s):X.env.locals<s.heap.objs.size:=let⟨_,hn,_⟩:=I.loc;hn.lt
def Inv.sz (I:Inv X U Z H s):X.g_.heap.objs.size<=s.heap.objs.size:=bI I.ok.above (cG I.lt)
def Inv.RX (I:Inv X U Z H s){a:Addr}(h:s.heap.objs.size<=a):a∉X.fs:=λhb=>by
 obtain⟨_,o,L,_⟩:=I.ok.qO.mem hb;exact absurd (dH (bD L) (bI I.sz h)) (fE _)
def Inv.KJ (I:Inv X U Z H s):∀x c,X.env.cells.lookup x=some c->c≠X.env.locals:=λx c e z=>by
 obtain⟨v,o,L,hd⟩:=I.cell x c e;obtain⟨m,⟨q,es,ep,b,g,_⟩,_⟩:=I.loc;rw[z,b]at L;cases L;rw[g]at hd;cases hd
theorem Inv.qO (I:Inv X U Z H s):s.heap.FunFrames X.base X.outer:=by
 have all:∀(l:List Env),(∀b∈jB l,b∈X.fs)->X.g_.heap.FunFrames X.base l->s.heap.FunFrames X.base l:=by
  intro l
  induction l with
  |nil=>intro _ _;trivial
  |cons env r q=>
   intro hs M;obtain⟨S,⟨L,o,hf,hn,ho,hd⟩,hr⟩:=M;have g:L∈X.fs:=hs L (by unfold jB;rw[oX,hf];exact cJ);obtain⟨sl,e⟩:=I.base.slot L o ho (I.ok.Hq L g) g λz=>I.ok.AQ L z g;exact⟨S,⟨L,_,hf,hn,e,hd⟩,q (λb hb=>hs b (by unfold jB;rw[oX,hf];exact cw _ hb)) hr⟩
 exact all X.outer (λ_ hb=>hb) I.ok.qO
theorem Inv.stack (I:Inv X U Z H s):s.heap.FunFrames X.base X.stack:=by
 rcases I.ok.Kv with e|⟨e,hf⟩
 .rw[e];exact I.qO
 .rw[e];obtain⟨m,hn,_⟩:=I.loc;refine .cons (by rw[I.ok.kind];decide) hf hn ?_ I.qO
  exact Heap.get?_none_of_le (bI I.ok.F8 I.ok.above)
def Inv.wN {X:Cx}(I:Inv X U Z H s):∀b∈jB X.stack,b∈X.env.locals::X.fs:=λb hb=>by
 rcases I.ok.Kv with e|⟨e,hf⟩
 .rw[e]at hb;exact cw _ hb
 .rw[e]at hb;unfold jB at hb;rw[oX,hf]at hb;exact hb
def Inv.vO {X:Cx}(I:Inv X U Z H s):∀b∈jB X.stack,H b=none:=λb hb=>by
 rcases a_.mp (I.wN b hb)with e|hb
 .rw[e];exact I.free
 .obtain⟨_,o,L,_⟩:=I.ok.qO.mem hb;exact I.base.free b o L (I.ok.Hq b hb) λz=>I.ok.AQ b z hb
def Inv.step {X:Cx}{H':Hp}{t':Nat}{d':Drawn}{ch:List Addr}(I:Inv X U Z H s)
  (S:∀b∈ch,(b∈X.ex\/X.g_.heap.objs.size<=b)/\b≠X.env.locals/\(∀x c,X.env.cells.lookup x=some c->c≠b)/\∀p∈X.pn++U,p.1≠b)
  (keep:∀b o,b≠X.env.locals->b∉X.fs->b∉ch->s.heap.get? b=some o->H b=none->h'.get? b=some o)
  (slot:∀b o,b≠X.env.locals->b∈X.fs->b∉ch->s.heap.get? b=some o->H b=none->∃sl,h'.get? b=some {o with slots:=sl}) (free:∀b o,b∉ch->s.heap.get? b=some o->H b=none->H' b=none)
  (there:∀b o,b∉ch->s.heap.get? b=some o->∃o',h'.get? b=some o')
  (oM:∀b xs,H b=some (.tup xs)->H' b=some (.tup xs)) (mG:∀b o u,H b=some (.kQ o u)->H' b=some (.kQ o u)) (pq:∀b ps,H b=some (.M9 ps)->∃more,H' b=some (.M9 (ps++more)))
  (ns:∀m,s.heap.Ns X.env.locals m->h'.Ns X.env.locals m) (cL:ri X.prog X.w H' h') (hg:AllBare g'):
  Inv X U Z H' {s with heap:=h',gens:=g',drawn:=d',toks:=t'}:=by
 have X_:∀b o,X.g_.heap.get? b=some o->b≠X.env.locals:=λb o e=>cY (dH (bD e) I.ok.above);have Oa:∀b o,X.g_.heap.get? b=some o->b∉X.ex->b∉ch:=λb o e L hb=>by
  rcases(S b hb).1 with z|z
  .exact L z
  .exact absurd (dH (bD e) z) (fE _)
 have cellK:∀x c,X.env.cells.lookup x=some c->∀v,s.heap.IsCell c v->h'.IsCell c v:=λx c e v ⟨o,M,hd⟩=>by
  have M':c∉ch:=λz=>(S c z).2.2.1 x c e rfl;by_cases hc:c∈X.fs
  .obtain⟨sl,q⟩:=slot c o (I.KJ x c e) hc M' M (I.gv x c e);exact⟨_,q,hd⟩
  .exact⟨o,keep c o (I.KJ x c e) hc M' M (I.gv x c e),hd⟩
 refine⟨I.ok,I.os,hg,⟨λb o e n hb L=>?_,λb o e n hb L=>?_,λb o e n L=>?_,λb o e L=>?_,λb xs e=>oM b xs (I.base.oM b xs e),λb o xs e=>mG b o xs (I.base.mG b o xs e),λb ps e=>?_⟩,?_,λx c e=>?_,?_,λx c e=>?_,λp hp=>?_,cL,I.len⟩
 .exact keep b o (X_ b o e) hb (Oa b o e L) (I.base.keep b o e n hb L) (I.base.free b o e n L)
 .obtain⟨sl,g⟩:=I.base.slot b o e n hb L;obtain⟨RW,e2⟩:=slot b _ (X_ b o e) hb (Oa b o e L) g (I.base.free b o e n L);exact⟨RW,e2⟩
 .obtain⟨o',g⟩:=I.base.there b o e L;exact free b o' (Oa b o e L) g (I.base.free b o e n L)
 .obtain⟨o',g⟩:=I.base.there b o e L;exact there b o' (Oa b o e L) g
 .obtain⟨m1,g⟩:=I.base.pq b ps e;obtain⟨m2,e2⟩:=pq b _ g;exact⟨m1++m2,by rw[e2,Array.append_assoc]⟩
 .obtain⟨m,hn,hl⟩:=I.loc;refine⟨m,ns m hn,λi x v g e2 e3=>?_⟩;obtain⟨u,r,l⟩:=hl i x v g e2 e3;refine⟨u,r,?_⟩;rcases l with l|⟨k,c,e,z⟩
  .exact .inl l
  .exact .inr ⟨k,c,e,cellK x c e _ z⟩
 .obtain⟨v,z⟩:=I.cell x c e;exact⟨v,cellK x c e v z⟩
 .obtain⟨m,⟨o,_,_,M,_⟩,_⟩:=I.loc;exact free _ o (λz=>(S _ z).2.1 rfl) M I.free
 .obtain⟨v,o,M,hd⟩:=I.cell x c e;exact free c o (λz=>(S c z).2.2.1 x c e rfl) M (I.gv x c e)
 .obtain⟨e,n,ne,nf,d⟩:=I.pin p hp;have M':p.1∉ch:=λz=>(S p.1 z).2.2.2 p hp rfl;exact⟨keep p.1 p.2 ne nf M' e n,free p.1 p.2 M' e n,ne,nf,d⟩
def Inv.un {t':Nat}(I:Inv X U Z H s)(u:Un X.fs [] H H' s.heap h')(q:ri X.prog X.w H' h'):Inv X U Z H' {s with heap:=h',toks:=t'}:=by
 obtain⟨m,⟨o,es,ep,L,r⟩,_⟩:=id I.loc;obtain⟨sl,M⟩:=u.any L I.free (by simp);exact I.step (g':=s.gens) (d':=s.drawn) (ch:=[]) (λ_ z=>nomatch z) (λb o _ hb _ e n=>u.keep b o e n hb (by simp)) (λb o _ hb _ e n=>u.slot b o e n hb (by simp)) (λb o _ e n=>u.free b o e n (by simp)) (λb o _ e=>u.there b o e (by simp)) u.oM u.mG u.pq (λm' hm=>by
  obtain⟨o',S,Ob,g,r'⟩:=hm;rw[L]at g;cases g;exact⟨_,S,Ob,M,r'⟩) q I.bare
def Inv.call {X:Cx}{t':Nat}{d':Drawn}{ch:List Addr}(I:Inv X U Z H s)(u:Un (jB X.stack) ch H H' s.heap h')(cL:ri X.prog X.w H' h')(hg:AllBare g')
  (q:∀b∈ch,(b∈X.ex\/X.g_.heap.objs.size<=b)/\b≠X.env.locals/\(∀x c,X.env.cells.lookup x=some c->c≠b)/\∀p∈X.pn++U,p.1≠b):
  Inv X U Z H' {s with heap:=h',gens:=g',drawn:=d',toks:=t'}:=by
 obtain⟨m,⟨o,es,ep,M,r⟩,_⟩:=id I.loc;obtain⟨sl,g⟩:=u.any M I.free λz=>(q _ z).2.1 rfl;exact I.step (ch:=ch) q (λb o g hb L e n=>u.keep b o e n (λz=>(a_.mp (I.wN b z)).elim g hb) L) (λb o _ _ L e n=>u.any e n L) (λb o L e n=>u.free b o e n L) (λb o L e=>u.there b o e L) u.oM u.mG u.pq (λm' hm=>by
  obtain⟨o',RY,Ob,S,r'⟩:=hm;rw[M]at S;cases S;exact⟨_,RY,Ob,g,r'⟩) cL hg
def Inv.turned {X:Cx}{t':Nat}{it:Addr}(I:Inv X U Z H s)(k:∀b o,b≠it->s.heap.get? b=some o->h'.get? b=some o)(hn:H it=none)(g:it≠X.env.locals)
  (S:it∈X.ex\/X.g_.heap.objs.size<=it) (h2:∀x c,X.env.cells.lookup x=some c->c≠it) (h3:∀p∈X.pn++U,p.1≠it):Inv X U Z H {s with heap:=h',toks:=t'}:=by
 have M:∀b u,H b=some u->b≠it:=λb u e z=>by rw[z,hn]at e;cases e
 refine I.step (g':=s.gens) (d':=s.drawn) (ch:=[it]) (λb hb=>?_) (λb o _ _ L e _=>k b o (λz=>L (by simp[z])) e) (λb o _ _ L e _=>⟨o.slots,k b o (λz=>L (by simp[z])) e⟩) (λ_ _ _ _ n=>n)
  (λb o L e=>⟨o,k b o (λz=>L (by simp[z])) e⟩) (λ_ _ e=>e) (λ_ _ _ e=>e) (λb ps e=>⟨#[],by rw[e];simp⟩) (λm hm=>?_) (λb u e=>?_) I.bare
 .have e:b=it:=by simpa using hb
  subst e;exact⟨S,g,h2,h3⟩
 .obtain⟨o,es,ep,ho,r⟩:=hm;exact⟨o,es,ep,k _ o (Ne.symm g) ho,r⟩
 .refine(I.cL b u e).sZ (λc v L q=>k c v ?_ q) (λ_ q=>q) λ_ _ q=>q;rcases L with z|z
  .rw[z];exact M b u e
  .exact M c _ z
def Inv.tok (I:Inv X U Z H s)(t:Nat):Inv X U Z H {s with toks:=t}:=I.un (h':=s.heap) (t':=t) Un.refl I.cL
theorem Inv.kept {t':Nat}(I:Inv X U Z H s)(k:∀b u,s.heap.get? b=some u->h'.get? b=some u):Inv X U Z H {s with heap:=h',toks:=t'}:=I.un (Un.kept k) (I.cL.kept k)
theorem Inv.laid {h':Heap}{a:Addr}{t':Nat}(I:Inv X U Z H s)(k:∀b u,s.heap.get? b=some u->h'.get? b=some u)(g:s.heap.objs.size<=a)(new:cN X.prog X.w (upd H a o) h' a o):
  Inv X U Z (upd H a o) {s with heap:=h',toks:=t'}:=I.un (Un.laid k g (I.cL.fresh g)) (I.cL.laid k g new)
theorem Inv.write {e:Addr}{t':Nat}(I:Inv X U Z H s)(g:RU (H x))(he:e=x\/H e=some (.own x))(k:∀b u,b≠e->s.heap.get? b=some u->h'.get? b=some u)(q:∃u,h'.get? e=some u)
  (new:cN X.prog X.w (upd H x o) h' x o):Inv X U Z (upd H x o) {s with heap:=h',toks:=t'}:=I.un (Un.write g he k q) (I.cL.write g he k q new)
def Inv.jQ {yA:List (Addr×Obj)}(I:Inv X U Z H s)(h:∀p∈yA,s.heap.get? p.1=some p.2/\H p.1=none/\p.1≠X.env.locals/\p.1∉X.fs/\∀v,p.2.data≠ .cell v):Inv X yA Z H s:=
 ⟨I.ok,I.os,I.bare,I.base,I.loc,I.cell,I.free,I.gv,λp L=>(cF.mp L).elim (λz=>I.pin p (gA _ z)) (h p),I.cL,I.len⟩
def wO{N:List Str}(g:N.Nodup){j:Nat}(a:N[aa]?=some x)(b:N[j]?=some x):aa=j:=by
 obtain⟨r,L⟩:=gy.mp a;obtain⟨I,q⟩:=gy.mp b;exact(List.getElem_inj g).mp (L.trans q.symm)
theorem yB{i:Nat}(I:Inv X U Z H s)(hN:X.N.Nodup)(hi:X.N[i]?=some x)(S:Loc X.env.scope x)(r:RelV v u)
  (h:∀s',Inv X U (Z.set i (some v)) H s'->(∃a,Heap.SameBut a s.heap s'.heap/\(a=X.env.locals\/X.env.cells.lookup x=some a))->ac () s') (hf:CV X x:=by first|exact .inl rfl|exact .inr rfl|assumption):wpAny M A (storeName X.env x u) ac E s:=by
 obtain⟨m,hn,hl⟩:=id I.loc;have zB:(X.env.scope.kind== .class||(X.env.scope.kind== .module&&X.env.locals !=X.env.globals))=false:=by rw[I.ok.kind];rfl
 have RZ:i<Z.length:=by rw[I.len];exact(gy.mp hi).1
 have KJ:=I.KJ;have tracked:∀{a:Addr} {h':Heap},(∃o,s.heap.get? a=some o/\H a=none)->Heap.SameBut a s.heap h'->ri X.prog X.w H h':=λ{a h'} ha hs b ob e=>by
  obtain⟨_,_,Ew⟩:=ha;refine(I.cL b ob e).sZ (λc w' g q=>(hs.2 c ?_).trans q) (λ_ q=>q) λ_ _ q=>q
  rintro rfl
  rcases g with rfl|g
  .rw[Ew]at e;cases e
  .rw[Ew]at g;cases g
 rcases S with hk|hk
 .refine wpAny_storeName_local hk hn (λh' Rg hs=>?_) zB;obtain⟨oL,_,_,Rh,_⟩:=id hn;refine h _ ⟨I.ok,I.os,I.bare,⟨λb o e n hb S=>?_,λb o e n hb S=>?_,I.base.free,λb o e S=>?_,I.base.oM,I.base.mG,I.base.pq⟩,⟨_,Rg,λj y v' L e2 e3=>?_⟩,λy c e=>?_,I.free,I.gv,λp hp=>?_,tracked ⟨oL,Rh,I.free⟩ hs,by simpa using I.len⟩ ⟨_,hs,.inl rfl⟩
  .exact(hs.2 b (cY (dH (bD e) I.ok.above))).trans (I.base.keep b o e n hb S)
  .obtain⟨sl,L⟩:=I.base.slot b o e n hb S;exact⟨sl,(hs.2 b (cY (dH (bD e) I.ok.above))).trans L⟩
  .obtain⟨o',L⟩:=I.base.there b o e S;exact⟨o',(hs.2 b (cY (dH (bD e) I.ok.above))).trans L⟩
  .by_cases hj:j=i
   .subst hj;rw[hi]at L;cases L;rw[kW RZ]at e2;cases e2;exact⟨u,r,.inl ⟨hk,by simp⟩⟩
   .rw[kY (Ne.symm hj)]at e2;obtain⟨u',r',q⟩:=hl j y v' L e2 e3;refine⟨u',r',?_⟩;rcases q with⟨k,e⟩|⟨k,c,e,z⟩
    .refine .inl ⟨k,?_⟩;have:y≠x:=λe=>hj (wO hN L (e▸hi));simp[this,e]
    .exact .inr ⟨k,c,e,z.sameBut hs (KJ y c e)⟩
  .obtain⟨w',z⟩:=I.cell y c e;exact⟨w',z.sameBut hs (KJ y c e)⟩
  .obtain⟨e,n,ne,nf,d⟩:=I.pin p hp;exact⟨(hs.2 p.1 ne).trans e,n,ne,nf,d⟩
 .have KO:X.fn x=true:=by
   rcases hf with z|z
   .exact z
   .rw[z]at hk;cases hk
  obtain⟨c,g⟩:=I.ok.has x (.inl hk);obtain⟨w',z⟩:=I.cell x c g;refine wpAny_storeName_cell I.ok.kind hk g z (λh' R0 hs=>?_);obtain⟨oc,Oc,Zn⟩:=id z;refine h {s with heap:=h'} ⟨I.ok,I.os,I.bare,⟨λb o e n hb S=>?_,λb o e n hb S=>?_,I.base.free,λb o e S=>?_,I.base.oM,I.base.mG,I.base.pq⟩,⟨m,hn.sameBut hs (Ne.symm (KJ x c g)),λj y v' L e2 e3=>?_⟩,λy c' e=>?_,I.free,I.gv,λp hp=>?_,tracked ⟨oc,Oc,I.gv x c g⟩ hs,by simpa using I.len⟩ ⟨c,hs,.inr g⟩
  .exact(hs.2 b (cY (dH (bD e) (I.ok.M_ x c KO g)))).trans (I.base.keep b o e n hb S)
  .obtain⟨sl,L⟩:=I.base.slot b o e n hb S;exact⟨sl,(hs.2 b (cY (dH (bD e) (I.ok.M_ x c KO g)))).trans L⟩
  .obtain⟨o',L⟩:=I.base.there b o e S;exact⟨o',(hs.2 b (cY (dH (bD e) (I.ok.M_ x c KO g)))).trans L⟩
  .by_cases hj:j=i
   .subst hj;rw[hi]at L;cases L;rw[kW RZ]at e2;cases e2;exact⟨u,r,.inr ⟨.inl hk,c,g,R0⟩⟩
   .rw[kY (Ne.symm hj)]at e2;obtain⟨u',r',q⟩:=hl j y v' L e2 e3;refine⟨u',r',?_⟩;rcases q with q|⟨k,c',e,z'⟩
    .exact .inl q
    .refine .inr ⟨k,c',e,z'.sameBut hs ?_⟩
     rintro rfl
     exact hj (wO hN L (I.ok.inj _ _ _ e g▸hi))
  .by_cases Ya:c'=c
   .subst Ya;exact⟨_,R0⟩
   .obtain⟨w2,z2⟩:=I.cell y c' e;exact⟨w2,z2.sameBut hs Ya⟩
  .obtain⟨e,n,ne,nf,d⟩:=I.pin p hp;refine⟨(hs.2 p.1 ?_).trans e,n,ne,nf,d⟩;intro q;rw[q,Oc]at e;have q':oc=p.2:=Option.some.inj e;exact d w' (by rwa[<-q'])
def wQ(I:Inv X U Z H s)(g:X.N.Nodup)(hi:X.N[aa]?=some x)(q:Loc X.env.scope x)(r:RelV v u)
  (h:∀b,Inv X U (Z.set aa (some v)) H b->ac () b) (hf:CV X x:=by first|exact .inl rfl|exact .inr rfl|assumption):wpAny M A (storeName X.env x u) ac E s:=
 yB I g hi q r (λb L _=>h b L) hf
def Inv.R3 {X:Cx}{s':Shared}{ch:List Addr}(I:Inv X U Z H s)(g:s'.os=s.os)(u:Un (jB X.stack) ch H H' s.heap s'.heap)(q:ri X.prog X.w H' s'.heap)(r:AllBare s'.gens)
  (M:∀b∈ch,(b∈X.ex\/X.g_.heap.objs.size<=b)/\b≠X.env.locals/\(∀x c,X.env.cells.lookup x=some c->c≠b)/\∀p∈X.pn++U,p.1≠b):Inv X U Z H' s':=by
 obtain⟨h',g',d',t',o'⟩:=s';have e:o'=s.os:=g;subst e;exact I.call (g':=g') (t':=t') (d':=d') u q r M
abbrev XK:=Value->Option Addr->Hp->Prop
abbrev St:=List (Option V)
abbrev VK:=V->Hp->Prop
abbrev TE:=St->Hp->VK->Prop
abbrev TT:=St->Hp->(Bool->Hp->Prop)->Prop
abbrev TA:=St->Hp->(List V->Hp->Prop)->Prop
structure Ends where
 nx:St->Hp->Prop
 rt:VK
 bk:St->Hp->Prop:=λ_ _=>False
 ct:St->Hp->Prop:=λ_ _=>False
abbrev TS:=Ends->St->Hp->Prop
def EP(X:Cx)(U:List (Addr×Obj))(Z:St)(Q:VK)(u:Value)(b:Shared):Prop:=∃v H',Inv X U Z H' b/\RelV v u/\Q v H'
def TP(X:Cx)(U:List (Addr×Obj))(Z:St)(Q:Bool->Hp->Prop)(b:Bool)(g:Shared):Prop:=∃H',Inv X U Z H' g/\Q b H'
def AP(X:Cx)(U:List (Addr×Obj))(Z:St)(Q:List V->Hp->Prop)(us:List Value)(b:Shared):Prop:=∃vs H',Inv X U Z H' b/\Vals vs us/\Q vs H'
def SP(X:Cx)(U:List (Addr×Obj))(D:Ends)(f:Flow)(b:Shared):Prop:=
 match f with
 |.next=>∃L H',Inv X U L H' b/\D.nx L H'
 |.brk=>∃L H',Inv X U L H' b/\D.bk L H'
 |.cont=>∃L H',Inv X U L H' b/\D.ct L H'
 |.ret u=>∃v L H',Inv X U L H' b/\RelV v u/\D.rt v H'
def PE(X:Cx)(e:Expr)(t:TE):Prop:=
 ∀(U:List (Addr×Obj)) (s:Shared) (Z:St) (H:Hp) (Q:VK),Inv X U Z H s->t Z H Q->wpAny (model X.prog X.w) X.A (eval e X.env) (EP X U Z Q) X.xe s
def PT(X:Cx)(e:Expr)(t:TT):Prop:=
 ∀(U:List (Addr×Obj)) (s:Shared) (Z:St) (H:Hp) (Q:Bool->Hp->Prop),Inv X U Z H s->t Z H Q->wpAny (model X.prog X.w) X.A (isTrue e X.env (eval e X.env)) (TP X U Z Q) X.xe s
def PW(X:Cx)(e:Expr)(t:TT):Prop:=
 ∀(whole:Sem Value) (U:List (Addr×Obj)) (s:Shared) (Z:St) (H:Hp) (Q:Bool->Hp->Prop),Inv X U Z H s->t Z H Q->wpAny (model X.prog X.w) X.A (isTrue e X.env whole) (TP X U Z Q) X.xe s
def PW.pt (h:PW X e t):PT X e t:=h _
def PA(X:Cx)(es:List Expr)(t:TA):Prop:=
 ∀(pos:Pos) (U:List (Addr×Obj)) (s:Shared) (Z:St) (H:Hp) (Q:List V->Hp->Prop),Inv X U Z H s->t Z H Q->wpAny (model X.prog X.w) X.A (spliced (backTo pos (starEach es X.env))) (AP X U Z Q) X.xe s
def PS(X:Cx)(st:Stmt)(t:TS):Prop:=
 ∀(U:List (Addr×Obj)) (s:Shared) (Z:St) (H:Hp) (D:Ends),Inv X U Z H s->t D Z H->wpAny (model X.prog X.w) X.A (exec st X.env) (SP X U D) X.xe s
def yb(X:Cx)(st:List Stmt)(t:TS):Prop:=
 ∀(U:List (Addr×Obj)) (s:Shared) (Z:St) (H:Hp) (D:Ends),Inv X U Z H s->t D Z H->wpAny (model X.prog X.w) X.A (execs st X.env) (SP X U D) X.xe s
def ej{t:Sem α}{Q b:α->Shared->Prop}(h:wpAny M A t Q E s)(g:∀a s,Q a s->b a s):wpAny M A t b E s:=d8 h g λ_ _ x=>x
def Vz(i:Nat):TE:=λZ H Q=>∃v,Z[i]?=some (some v)/\Q v H
def tC(v:V):TE:=λ_ H Q=>Q v H
def Od{X:Cx}(q:X.N[aa]?=some x)(M:Vx X.env.scope x)(hd:Db x:=by decide) (S:(x==("__classdict__":Str))=false:=by decide):PE X (.Name x pos) (Vz aa):=by
 intro U s Z H Q I h;obtain⟨v,e,h⟩:=h;obtain⟨m,hn,hl⟩:=I.loc;obtain⟨u,r,l⟩:=hl aa x v q e M;have fin:EP X U Z Q u s:=⟨v,H,I,r,h⟩;rcases l with⟨L,hm⟩|⟨L,c,b,g⟩
 .exact wpAny_Name (wpAny_loadName_local I.ok.kind L hn hm fin) hd
 .rcases L with L|L
  .exact wpAny_Name (wpAny_loadName_cell I.ok.kind L b g fin) hd
  .exact wpAny_Name (wpAny_loadName_free I.ok.kind L b g fin S) hd
def Oe{i j pos}:PE X (.Constant (.int i) j pos) (tC (.int i)):=λ_ _ _ H _ I h=>wpAny_Constant_int ⟨.int i,H,I.tok _,⟨_,rfl⟩,h⟩
def R4{b j pos}:PE X (.Constant (.bool b) j pos) (tC (.bl b)):=λ_ _ _ H _ I h=>Constant_bool ⟨.bl b,H,I,rfl,h⟩
def Of{j pos}:PE X (.Constant .none j pos) (tC .bL):=λ_ _ _ H _ I h=>Constant_none ⟨.bL,H,I,rfl,h⟩
def Og{x j pos}:PE X (.Constant (.str x) j pos) (tC (.str x)):=λ_ _ _ H _ I h=>Calls.Constant_str ⟨.str x,H,I.tok _,⟨_,rfl⟩,h⟩
def Gl(X:Cx)(x:Str):Prop:=X.env.kindOf x=some .globalImplicit
def qj(I:Inv X U Z H s)(b:Gl X x)(hm:X.mg x=some u)(h:ae u s)
  (hd:Db x:=by decide):wpAny (model X.prog X.w) X.A (eval (.Name x pos) X.env) ae E s:=
 wc I.ok.kind b (Calls.loadGlobal_global (by rw[I.ok.glob];exact I.mod.glob.keeps I.bk) hm h) hd
def wR(I:Inv X U Z H s)(b:Gl X x)(hm:X.mg x=none)(g:bootBuiltins x=some u)(h:ae u s)
  (q:x≠"__name__":=by decide) (hd:Db x:=by decide):wpAny (model X.prog X.w) X.A (eval (.Name x pos) X.env) ae E s:=by
 obtain⟨L,h1,h2⟩:=I.mod.blt;exact wc I.ok.kind b (Calls.loadGlobal_builtin (by rw[I.ok.glob];exact I.mod.glob.keeps I.bk) hm (by rw[I.ok.blt];exact h1.keeps I.bk) ((h2 x q).trans g) h) hd
def zC(b:Gl X x)(hm:X.mg x=some u)(r:RelV v u)(hd:Db x:=by decide):PE X (.Name x pos) (tC v):=
 λ_ _ _ H _ I h=>qj I b hm ⟨v,H,I,r,h⟩ hd
def Ex(b:Gl X x)(hm:X.mg x=none)(g:bootBuiltins x=some u)(r:RelV v u)(q:x≠"__name__":=by decide) (hd:Db x:=by decide):PE X (.Name x pos) (tC v):=
 λ_ _ _ H _ I h=>wR I b hm g ⟨v,H,I,r,h⟩ q hd
def VA(t u:TT):TT:=λZ H Q=>t Z H λc H1=>if c=true then u Z H1 Q else Q false H1
def Zo(t u:TT):TT:=λZ H Q=>t Z H λc H1=>if c=true then Q true H1 else u Z H1 Q
def VB(t:TT):TT:=λZ H Q=>t Z H λc H1=>Q (!c) H1
def pw_and1(b:PT X a tA):PW X (.BoolOp .And [a] pos) tA:=by
 intro L U s Z H Q I h;refine isTrue_and (ej (b U s Z H Q I h) λc s1 e=>?_);cases c with
 |true=>exact isTrue_and_nil e
 |false=>exact e
def pw_or1(b:PT X a tA):PW X (.BoolOp .Or [a] pos) tA:=by
 intro L U s Z H Q I h;refine isTrue_or (ej (b U s Z H Q I h) λc s1 e=>?_);cases c with
 |false=>exact isTrue_or_nil e
 |true=>exact e
def pw_and(g:PT X c7 q)(hb:PW X (.BoolOp .And (ag::af) pos) r):PW X (.BoolOp .And (c7::ag::af) pos) (VA q r):=by
 intro M U s Z H Q I h;refine isTrue_and (ej (g U s Z H _ I h) λc s1 ⟨H1,L,b⟩=>?_);cases c with
 |true=>exact hb M U s1 Z H1 Q L b
 |false=>exact⟨H1,L,b⟩
def pw_or(g:PT X c7 q)(hb:PW X (.BoolOp .Or (ag::af) pos) r):PW X (.BoolOp .Or (c7::ag::af) pos) (Zo q r):=by
 intro M U s Z H Q I h;refine isTrue_or (ej (g U s Z H _ I h) λc s1 ⟨H1,L,b⟩=>?_);cases c with
 |true=>exact⟨H1,L,b⟩
 |false=>exact hb M U s1 Z H1 Q L b
def Hr(b:PT X a g):PT X (.UnaryOp .Not a pos) (VB g):=by
 intro U s Z H Q I h;exact isTrue_not (b U s Z H (λc H1=>Q (!c) H1) I h)
def Oh{op}(h:PE X a t):PE X (.BoolOp op [a] pos) t:=λU s Z H Q I hw=>BoolOp_one (h U s Z H Q I hw)
def Zp(t:TT)(b g:TE):TE:=λZ H Q=>t Z H λc H1=>if c=true then b Z H1 Q else g Z H1 Q
def Hs(q:PT X c r)(M:PE X a S)(hb:PE X b tb):PE X (.IfExp c a b pos) (Zp r S tb):=by
 intro U s Z H Q I h;refine wpAny_IfExp (ej (q U s Z H _ I h) λd s1 ⟨H1,L,g⟩=>?_);cases d with
 |true=>exact M U s1 Z H1 Q L g
 |false=>exact hb U s1 Z H1 Q L g
def lj(K:Frag)(H:Hp)(a:Addr)(xs:List V):Prop:=
 Rd H a (.lst xs)\/
  ∃(o:Obj) (bM:Array Value) (n:Nat),K.lookup a=some o/\o.cls=.type "list"/\o.dict=none/\o.data=.seq bM n/\bM.size<=sizeLine/\Vals xs bM.toList
def mf(K:Frag)(H:Hp)(a:Addr)(xs:List V):Prop:=
 Rd H a (.tup xs)\/
  ∃(o:Obj) (bM:Array Value) (n:Nat),K.lookup a=some o/\o.cls=.type "tuple"/\o.dict=none/\o.data=.seq bM n/\bM.size<=sizeLine/\Vals xs bM.toList
noncomputable def VD:Value->Option V
 |.none=>some .bL
 |.bool b=>some (.bl b)
 |.int i _=>some (.int i)
 |.str x _=>some (.str x)
 |.bytes b _=>some (.M8 b)
 |.float b _=>some (.qi b)
 |.ref a=>some (.ref a)
 |.type n=>some (.ty n)
 |_=>none
def RelV.abs (r:RelV x u):VD u=some x:=by
 cases x with
 |bL=>cases r;rfl
 |bl _=>cases r;rfl
 |int _=>obtain⟨t,rfl⟩:=r;rfl
 |str _=>obtain⟨t,rfl⟩:=r;rfl
 |M8 _=>obtain⟨t,rfl⟩:=r;rfl
 |qi _=>obtain⟨t,rfl⟩:=r;rfl
 |_=>cases r;rfl
theorem RelV.inj (r:RelV x u)(q:RelV y u):x=y:=Option.some.inj (r.abs.symm.trans q.abs)
theorem Vals.inj:∀{xs ys:List V} {us:List Value},Vals xs us->Vals ys us->xs=ys
 |_,_,_,.nil,.nil=>rfl
 |_,_,_,.cons r t,.cons L t'=>by rw[r.inj L,Vals.inj t t']
def lj.of {H:Hp}(h:H a=some (.lst xs)):lj K H a xs:=.inl (.inl h)
def mf.of {H:Hp}(h:H a=some (.tup xs)):mf K H a xs:=.inl (.inl h)
def Inv.list (I:Inv X U Z H s)(h:lj X.K H a xs):∃bM:List Value,Vals xs bM/\PlainL s.heap a bM.toArray/\xs.length<=sizeLine:=by
 rcases h with h|⟨o,bM,n,L,b,hd,hs,g,r⟩
 .obtain⟨z,bM,n,r,e⟩:=h.ok I.cL;exact⟨bM,r,⟨_,n,e,rfl,rfl,rfl⟩,z⟩
 .refine⟨bM.toList,r,⟨o,n,I.nt a o L,b,hd,by simpa using hs⟩,?_⟩;have e:=r.length;simp only[qd]at e;omega
def Inv.tuple (I:Inv X U Z H s)(h:mf X.K H a xs):∃bM:List Value,Vals xs bM/\IsTup s.heap a bM.toArray/\xs.length<=sizeLine:=by
 rcases h with h|⟨o,bM,n,L,b,_,hs,g,r⟩
 .obtain⟨z,bM,r,p⟩:=h.ok I.cL;exact⟨bM,r,p.tup,z⟩
 .refine⟨bM.toList,r,⟨o,I.nt a o L,b,n,by simpa using hs⟩,?_⟩;have e:=r.length;simp only[qd]at e;omega
def Inv.Ht (I:Inv X U Z H s)(h:lj X.K H a xs)(h':lj X.K H a ys):xs=ys:=by
 obtain⟨bM,r,⟨o,n,e,_,_,d⟩,_⟩:=I.list h;obtain⟨s_,b,⟨q,M,L,_,_,d'⟩,_⟩:=I.list h';rw[e]at L;cases L;rw[d]at d';injection d' with g _
 have:bM=s_:=by simpa using cR Array.toList g
 subst this;exact r.inj b
def Inv.yC (I:Inv X U Z H s)(h:mf X.K H a xs)(h':mf X.K H a ys):xs=ys:=by
 obtain⟨bM,r,⟨o,e,_,n,d⟩,_⟩:=I.tuple h;obtain⟨s_,b,⟨q,L,_,M,d'⟩,_⟩:=I.tuple h';rw[e]at L;cases L;rw[d]at d';injection d' with g _
 have:bM=s_:=by simpa using cR Array.toList g
 subst this;exact r.inj b
noncomputable abbrev Cx.yi (X:Cx)(E:Value->Shared->Prop):Cx:={X with xe:=E}
abbrev Cx.Hd (X:Cx):Cx:=X.yi λ_ _=>False
theorem Cx.Ok.yi {X:Cx}(ok:X.Ok)(E:Value->Shared->Prop):(X.yi E).Ok:=
 ⟨ok.mod,ok.kind,ok.glob,ok.blt,ok.above,ok.inj,ok.has,ok.M_,ok.hd,ok.frames,ok.Kv,ok.Rf,ok.bs,ok.F8,ok.AO,ok.AQ,ok.qO,ok.Hq⟩
def Cx.Ok.pv {X:Cx}(ok:(X.yi E).Ok):X.Ok:=
 ⟨ok.mod,ok.kind,ok.glob,ok.blt,ok.above,ok.inj,ok.has,ok.M_,ok.hd,ok.frames,ok.Kv,ok.Rf,ok.bs,ok.F8,ok.AO,ok.AQ,ok.qO,ok.Hq⟩
theorem Inv.yi (I:Inv X U Z H s)(E:Value->Shared->Prop):Inv (X.yi E) U Z H s:=⟨I.ok.yi E,I.os,I.bare,I.base,I.loc,I.cell,I.free,I.gv,I.pin,I.cL,I.len⟩
theorem Inv.pv {X:Cx}(I:Inv (X.yi E) U Z H s):Inv X U Z H s:=⟨I.ok.pv,I.os,I.bare,I.base,I.loc,I.cell,I.free,I.gv,I.pin,I.cL,I.len⟩
theorem SP.pv {X:Cx}(h:SP (X.yi E) U D f s'):SP X U D f s':=by
 cases f with
 |next=>obtain⟨dy,H',I,q⟩:=h;exact⟨dy,H',I.pv,q⟩
 |brk=>obtain⟨dy,H',I,q⟩:=h;exact⟨dy,H',I.pv,q⟩
 |cont=>obtain⟨dy,H',I,q⟩:=h;exact⟨dy,H',I.pv,q⟩
 |ret u=>obtain⟨v,dy,H',I,r,q⟩:=h;exact⟨v,dy,H',I.pv,r,q⟩
theorem yb.Hd {X:Cx}{st:List Stmt}(h:yb X.Hd st t):yb X st t:=λU s Z H D I hw=>
 d8 (h U s Z H D (I.yi _) hw) (λ_ _ q=>q.pv) λ_ _ z=>False.elim z
def R5:TS:=λD Z H=>D.nx Z H
def VE(t u:TS):TS:=λD Z H=>t {D with nx:=u D} Z H
def Ey:yb X [] R5:=λ_ _ Z H _ I h=>sQ ⟨Z,H,I,h⟩
def AR(b:PS X st t)(g:yb X r u):yb X (st::r) (VE t u):=by
 intro U s Z H D I h;refine wpAny_execs_cons (ej (b U s Z H {D with nx:=u D} I h) λf s1 q=>?_);cases f with
 |next=>
  obtain⟨L,H',M,q⟩:=q;exact g U s1 L H' D M q
 |_=>exact q
def Ez(b:PS X st t):yb X [st] t:=by
 intro U s Z H D I h;refine wpAny_execs_cons (ej (b U s Z H D I h) λf s1 q=>?_);cases f with
 |next=>exact sQ q
 |_=>exact q
def Inv.quiet (I:Inv X U Z H s):interactive X.env=false:=by simp[interactive,I.ok.kind]
def R6(b:TE):TS:=λD Z H=>b Z H λ_ H1=>D.nx Z H1
def KQ(he:PE X e b)(hs:swapsWith e none ah.line X.env=pure false:=by rfl):PS X (.Expr e ah) (R6 b):=by
 intro U s Z H D I h;exact wpAny_Expr_any (ej (he U s Z H _ I h) λv s1 ⟨x,H1,L,r1,g⟩=>⟨Z,H1,L,g⟩) I.quiet hs
def VF(b:TE):TS:=λD Z H=>b Z H D.rt
def Hv(he:PE X e b):PS X (.Return (some e) pos) (VF b):=by
 intro U s Z H D I h;exact wpAny_Return_some (ej (he U s Z H _ I h) λv s1 ⟨x,H1,L,r1,g⟩=>⟨x,Z,H1,L,r1,g⟩)
def R7:TS:=λD _ H=>D.rt .bL H
def KR:PS X (.Return none pos) R7:=λ_ _ Z H _ I h=>wpAny_Return_none ⟨.bL,Z,H,I,rfl,h⟩
def VG(c:TT)(t u:TS):TS:=λD Z H=>c Z H λb H1=>if b=true then t D Z H1 else u D Z H1
def Nb(q:PT X c r)(M:yb X a t)(hb:yb X b u):PS X (.If c a b pos) (VG r t u):=by
 intro U s Z H D I h;refine wpAny_If (ej (q U s Z H _ I h) λd s1 ⟨H1,L,g⟩=>?_);cases d with
 |true=>exact M U s1 Z H1 D L g
 |false=>exact hb U s1 Z H1 D L g
abbrev TG:=V->St->Hp->(St->Hp->Prop)->Prop
abbrev R8:=List V->St->Hp->(St->Hp->Prop)->Prop
def PG(X:Cx)(target:Expr)(t:TG):Prop:=
 ∀(U:List (Addr×Obj)) (s:Shared) (Z:St) (H:Hp) (v:V) (u:Value) (Q:St->Hp->Prop),Inv X U Z H s->RelV v u->t v Z H Q->
  wpAny (model X.prog X.w) X.A (assign target X.env u) (λ_ b=>∃L H',Inv X U L H' b/\Q L H') X.xe s
def R9(X:Cx)(ts:List Expr)(t:R8):Prop:=
 ∀(U:List (Addr×Obj)) (s:Shared) (Z:St) (H:Hp) (vs:List V) (us:List Value) (Q:St->Hp->Prop),Inv X U Z H s->Vals vs us->t vs Z H Q->
  wpAny (model X.prog X.w) X.A (assignInOrder ((assignEach ts X.env).map (·.2)) us) (λ_ b=>∃L H',Inv X U L H' b/\Q L H') X.xe s
def Nc(i:Nat):TG:=λv Z H Q=>Q (Z.set i (some v)) H
def EA{X:Cx}(b:X.N.Nodup)(hi:X.N[aa]?=some x)(g:Loc X.env.scope x)(hf:CV X x:=by first|exact .inl rfl|exact .inr rfl|assumption):PG X (.Name x pos) (Nc aa):=by
 intro U s Z H v u Q I r h;exact wpAny_assign_Name (wQ I b hi g r (λq L=>⟨_,H,L,h⟩) hf)
def VH:R8:=λvs Z H Q=>vs=[]/\Q Z H
def R_(t:TG)(u:R8):R8:=λvs Z H Q=>∃v r,vs=v::r/\t v Z H λL H'=>u r L H' Q
def KU:R9 X [] VH:=by
 intro U s Z H vs us Q I r h;obtain⟨e,h⟩:=h;subst e;cases r;exact assignInOrder_nil ⟨Z,H,I,h⟩
def Hw(b:PG X ag t)(g:R9 X es u)
  (hs:(assignEach (ag::es) X.env).map (·.2)=assign ag X.env::(assignEach es X.env).map (·.2):=by rfl):R9 X (ag::es) (R_ t u):=by
 intro U s Z H vs us Q I r h;obtain⟨v,vr,L,h⟩:=h;subst L;cases r with
 |cons r q=>
  rw[hs];refine assignInOrder_cons (ej (b U s Z H _ _ _ I r h) λ_ s1 ⟨M,H1,S,q1⟩=>?_);exact g U s1 M H1 _ _ Q S q q1
def VI(K:Frag)(n:Nat)(t:R8):TG:=λv Z H Q=>∃a xs,v=.ref a/\mf K H a xs/\xs.length=n/\t xs Z H Q
def Oi{X:Cx}{n:Nat}(g:X.calm=true)(h:R9 X es t)
  (q:(assignEach es X.env).length=n:=by rfl) (cU:(assignEach es X.env).findIdx? (·.1)=none:=by rfl):PG X (.Tuple es k pos) (VI X.K n t):=by
 intro U s Z H v u Q I r hw;obtain⟨a,xs,L,M,S,hw⟩:=hw;subst L;cases r;obtain⟨bM,rv,ht,hz⟩:=I.tuple M;refine assign_Tuple_tuple (I.ok.hd g) ht (by simp[q,<-S,rv.length]) cU λh' hx=>?_
 have I1:Inv X U Z H {s with heap:=h'}:=I.kept (t':=s.toks) λb o e=>hx b o (cY (bD e)) e;exact h U _ Z H xs _ Q I1 (by simpa using rv) hw
def R'(b:TE)(g:TG):TS:=λD Z H=>b Z H λx H1=>g x Z H1 D.nx
def Hx(he:PE X e b)(r:PG X tg g)(hs:swapsWithSole [tg] e ah.line X.env=pure false:=by rfl) (hw:swappedStores [tg] e X.env=pure none:=by rfl)
  (M:(assignEach [tg] X.env).map (·.2)=[assign tg X.env]:=by rfl):PS X (.Assign [tg] e ah) (R' b g):=by
 intro U s Z H D I h;refine wpAny_Assign_stores (ej (he U s Z H _ I h) λv s1 ⟨x,H1,L,r1,S⟩=>?_) hs hw;rw[M];exact ej (r U s1 Z H1 x v _ L r1 S) λ_ s2 q=>q
def Hy{X:Cx}(b:X.N.Nodup)(hi:X.N[aa]?=some x)(g:Loc X.env.scope x)(he:PE X e q)(hs:swapsWith e (some (.Name x pos')) ah.line X.env=pure false:=by rfl) (hf:CV X x:=by first|exact .inl rfl|exact .inr rfl|assumption):
  PS X (.Assign [.Name x pos'] e ah) (R' q (Nc aa)):=by
 intro U s Z H D I h;refine wpAny_Assign_Name (ej (he U s Z H _ I h) λv s1 ⟨y,H1,L,r1,r⟩=>?_) hs;exact wQ L b hi g r1 (λs2 M=>⟨_,H1,M,r⟩) hf
structure It where
 go:Nat->Hp->Prop
 Hz:Nat->Hp->V->Hp->Prop
 stop:Nat->Hp->Prop
def pw(X:Cx)(U:List (Addr×Obj))(H:Hp)(b:Addr):Prop:=
 H b=none/\b≠X.env.locals/\b∉X.fs/\(b∈X.ex\/X.g_.heap.objs.size<=b)/\(∀x c,X.env.cells.lookup x=some c->c≠b)/\∀p∈X.pn++U,p.1≠b
def Inv.CW {H':Hp}{b:Addr}(I:Inv X U Z H s)(hb:s.heap.objs.size<=b)(g:H' b=none):pw X U H' b:=by
 refine⟨g,jh (dH I.lt hb),I.RX hb,.inr (bI I.sz hb),λx c e z=>?_,λp L z=>?_⟩
 .obtain⟨v,q⟩:=I.cell x c e;exact absurd (dH q.lt (by rwa[z])) (fE _)
 .exact absurd (dH (bD (I.pin p L).1) (by rwa[z])) (fE _)
structure Turn(P:Program)(w:World)(K:Frag)(tg:Expr)(J:It)(fp:List Addr)(it:Addr)(tn:Nat->Heap->Prop):Prop where
 mem:it∈fp
 obj:∀i h,tn i h->∀b∈fp,∃o,h.get? b=some o/\∀v,o.data≠ .cell v
 keep:∀i h h',tn i h->(∀b∈fp,∀o,h.get? b=some o->h'.get? b=some o)->tn i h'
 item:∀(X:Cx),X.prog=P->X.w=w->X.K=K->X.calm=true->∀(i:Nat) (U:List (Addr×Obj)) (s:Shared) (Z:St) (H:Hp) (E:Value->Shared->Prop),Inv X U Z H s->(∀b∈fp,pw X U H b)->tn i s.heap->J.go i H->
  wpAny (model P w) X.A (pyNext (.ref it)) (λr s1=>∃u,r=some u/\
   wpAny (model P w) X.A (letOwnedTupleGo tg (.ref it) u) (λ_ s2=>∃x H',Inv X U Z H' s2/\RelV x u/\J.Hz i H x H'/\tn (i+1) s2.heap/\∀b∈fp,H' b=none) E s1) E s
 done:∀(X:Cx),X.prog=P->X.w=w->X.K=K->X.calm=true->∀(i:Nat) (U:List (Addr×Obj)) (s:Shared) (Z:St) (H:Hp) (E:Value->Shared->Prop),Inv X U Z H s->(∀b∈fp,pw X U H b)->tn i s.heap->J.stop i H->
  wpAny (model P w) X.A (pyNext (.ref it)) (λr s1=>r=none/\Inv X U Z H s1) E s
 self:∀(A:Around) (i:Nat) (s:Shared) (Q:Value->Shared->Prop) (E:Value->Shared->Prop),tn i s.heap->Q (.ref it) s->wpAny (model P w) A (pyIter (.ref it)) Q E s
abbrev TI:=St->Hp->(It->Hp->Prop)->Prop
def U0(X:Cx)(U:List (Addr×Obj))(Z:St)(tg:Expr)(R:It->Hp->Prop)(g:Value)(s2:Shared):Prop:=
 ∃(it:Addr) (fp:List Addr) (tn:Nat->Heap->Prop) (J:It) (H':Hp),g=.ref it/\Inv X U Z H' s2/\Turn X.prog X.w X.K tg J fp it tn/\tn 0 s2.heap/\(∀b∈fp,pw X U H' b)/\R J H'
def PI(X:Cx)(tg c7:Expr)(b:TI):Prop:=
 ∀(U:List (Addr×Obj)) (s:Shared) (Z:St) (H:Hp) (R:It->Hp->Prop),Inv X U Z H s->b Z H R->
  wpAny (model X.prog X.w) X.A (eval c7 X.env) (λv s1=>wpAny (model X.prog X.w) X.A (pyIter v) (U0 X U Z tg R) X.xe s1) X.xe s
def yD{s:Shared}{it:Addr}(g:s.heap.get? it=some o)(q:o.cls=.type n)(hd:o.data=.fields vs)
  (r:["enumerate","zip","dict_itemiterator","dict_reverseitemiterator","odict_iterator","itertools.zip_longest","itertools.pairwise"].contains n=false) (b:ac () s):wpAny M A (letOwnedTupleGo tg (.ref it) u) ac E s:=by
 unfold letOwnedTupleGo;cases tg<;>first
  |exact bo b
  |(cases u<;>first
    |exact bo b
    |(refine aM (wpAny_load g ?_)
      rw[q,hd];show wpAny M A (if(["enumerate","zip","dict_itemiterator","dict_reverseitemiterator","odict_iterator","itertools.zip_longest","itertools.pairwise"].contains n&&vs[0]?==some (rawInt _))=true then _ else _) ac E s;rw[aE (by intro h;rw[r,mz]at h;cases h)];exact bo b))
def Yb(K:Frag)(a:Addr):It:=
 ⟨λi H=>∃xs x,lj K H a xs/\xs[i]?=some x,λi H x H'=>H'=H/\∀xs,lj K H a xs->xs[i]?=some x,λi H=>∃xs,lj K H a xs/\xs.length<=i⟩
def Yc(K:Frag)(a:Addr):It:=
 ⟨λi H=>∃xs x,mf K H a xs/\xs[i]?=some x,λi H x H'=>H'=H/\∀xs,mf K H a xs->xs[i]?=some x,λi H=>∃xs,mf K H a xs/\xs.length<=i⟩
def U2(lo:Int)(n:Nat):It:=⟨λi _=>i<n,λi H x H'=>H'=H/\x=.int (lo+i),λi _=>n<=i⟩
theorem F9(a it:Addr):Turn P w K tg (Yb K a) [it] it (λi h=>h.IsListIter it a i) where
 mem:=by simp
 obj:=λi h st b hb=>by
  have e:b=it:=by simpa using hb
  subst e;obtain⟨o,e,c,d⟩:=st;exact⟨o,e,λv z=>by rw[d]at z;cases z⟩
 keep:=λi h h' st k=>st.at λo e=>k it (by simp) o e
 item:=by
  intro X g hw q hc i U s Z H E I hf st r;subst g hw q;obtain⟨xs,x,L,hx⟩:=r;obtain⟨bM,rv,p,hz⟩:=I.list L;obtain⟨u,hu,ru⟩:=rv.get hx;obtain⟨f0,f1,f2,M,f4,S⟩:=hf it (by simp);refine wpAny_pyNext_list_item st p.isList (x:=u) (by simpa using hu) λh' zD sb=>?_
  have I1:Inv X U Z H {s with heap:=h'}:=I.turned (t':=s.toks) (λb o hb e=>(sb.2 b hb).trans e) f0 f1 M f4 S;obtain⟨o,e,c,d⟩:=id zD;exact⟨u,rfl,yD (s:={s with heap:=h'}) e c d (by decide) ⟨x,H,I1,ru,⟨rfl,λys hy=>by rwa[I.Ht hy L]⟩,zD,λb hb=>(hf b hb).1⟩⟩
 done:=by
  intro X g hw q hc i U s Z H E I hf st r;subst g hw q;obtain⟨xs,L,hx⟩:=r;obtain⟨bM,rv,p,hz⟩:=I.list L;obtain⟨f0,f1,f2,M,f4,S⟩:=hf it (by simp);have hl:=rv.length;exact wpAny_pyNext_list_end (I.ok.hd hc) st p.isList (by simp;omega) λh' eb=>⟨rfl,I.turned (t':=s.toks) (λb o hb e=>eb b o hb e) f0 f1 M f4 S⟩
 self:=λ_ _ _ _ _ st h=>wpAny_pyIter_listiter st h
theorem CY(a it:Addr):Turn P w K tg (Yc K a) [it] it (λi h=>h.IsTupleIter it a i) where
 mem:=by simp
 obj:=λi h st b hb=>by
  have e:b=it:=by simpa using hb
  subst e;obtain⟨o,e,c,d⟩:=st;exact⟨o,e,λv z=>by rw[d]at z;cases z⟩
 keep:=λi h h' st k=>st.at λo e=>k it (by simp) o e
 item:=by
  intro X g hw q hc i U s Z H E I hf st r;subst g hw q;obtain⟨xs,x,L,hx⟩:=r;obtain⟨bM,rv,p,hz⟩:=I.tuple L;obtain⟨u,hu,ru⟩:=rv.get hx;obtain⟨f0,f1,f2,M,f4,S⟩:=hf it (by simp);refine wpAny_pyNext_tuple_item st (show s.heap.IsTuple a bM.toArray from p) (x:=u) (by simpa using hu) λh' zD sb=>?_
  have I1:Inv X U Z H {s with heap:=h'}:=I.turned (t':=s.toks) (λb o hb e=>(sb.2 b hb).trans e) f0 f1 M f4 S;obtain⟨o,e,c,d⟩:=id zD;exact⟨u,rfl,yD (s:={s with heap:=h'}) e c d (by decide) ⟨x,H,I1,ru,⟨rfl,λys hy=>by rwa[I.yC hy L]⟩,zD,λb hb=>(hf b hb).1⟩⟩
 done:=by
  intro X g hw q hc i U s Z H E I hf st r;subst g hw q;obtain⟨xs,L,hx⟩:=r;obtain⟨bM,rv,p,hz⟩:=I.tuple L;obtain⟨f0,f1,f2,M,f4,S⟩:=hf it (by simp);have hl:=rv.length;exact wpAny_pyNext_tuple_end (I.ok.hd hc) st (show s.heap.IsTuple a bM.toArray from p) (by simp;omega) λh' eb=>⟨rfl,I.turned (t':=s.toks) (λb o hb e=>eb b o hb e) f0 f1 M f4 S⟩
 self:=λ_ _ _ _ _ st h=>wpAny_pyIter_tupleiter st h
theorem C0(it:Addr)(lo:Int)(n:Nat):Turn P w K tg (U2 lo n) [it] it (λi h=>IsRangeIter h it (lo+(i:Nat)*1) ((n:Int) - (i:Nat)) 1) where
 mem:=by simp
 obj:=λi h st b hb=>by
  have e:b=it:=by simpa using hb
  subst e;exact⟨_,st,λv z=>by
   have z':Data.fields _=Data.cell v:=z;cases z'⟩
 keep:=λi h h' st k=>k it (by simp) _ st
 item:=by
  intro X L hw g q i U s Z H E I hf st r;subst L hw g;obtain⟨f0,f1,f2,M,f4,S⟩:=hf it (by simp);have W:=Walks.range (prog:=X.prog) (w:=X.w) (I.ok.hd q) it lo 1 n;refine W.item i s _ _ r st λv h' tk hv zD kk=>?_
  obtain⟨t,rfl⟩:=hv;have I1:Inv X U Z H {s with heap:=h',toks:=tk}:=I.turned (λb o hb e=>kk b o (by simpa using hb) e) f0 f1 M f4 S;refine⟨_,rfl,yD (s:={s with heap:=h',toks:=tk}) (n:="range_iterator") zD rfl rfl (by decide) ⟨.int (lo+i),H,I1,⟨t,?_⟩,⟨rfl,rfl⟩,zD,λb hb=>(hf b hb).1⟩⟩;rw[Int.mul_one]
 done:=by
  intro X L hw g q i U s Z H E I hf st r;subst L hw g;obtain⟨f0,f1,f2,M,f4,S⟩:=hf it (by simp);exact wpAny_pyNext_range_end (I.ok.hd q) st (by have:n<=i:=r;omega) λh' eb=>⟨rfl,I.turned (t':=s.toks) (λb o hb e=>eb b o hb e) f0 f1 M f4 S⟩
 self:=λ_ _ _ _ _ st h=>wpAny_pyIter_rangeiter st h
theorem HC{R:It->Hp->Prop}{lo hi:Int}(I:Inv X U Z H s)(g:-(2 ^62)<=lo)(r:lo<2 ^62)(M:-(2 ^62)<=hi)(S:hi<2 ^62)
  (q:R (U2 lo (hi - lo).toNat) H):wpAny (model X.prog X.w) X.A (pyIter (.ref s.heap.objs.size)) (U0 X U Z tg R) E {s with heap:=s.heap.push {cls:=.type "range",data:=.fields #[.int lo t,.int hi u,.int 1 v]},toks:=aa}:=by
 refine wpAny_pyIter_range (IsRange.new ..) (small_one g r M S) ?_
 have L:Inv X U Z H {s with heap:=s.heap.push {cls:=.type "range",data:=.fields #[.int lo t,.int hi u,.int 1 v]},toks:=aa}:=I.kept λb o e=>cu _ e;refine⟨(s.heap.push {cls:=.type "range",data:=.fields #[.int lo t,.int hi u,.int 1 v]}).objs.size,[(s.heap.push {cls:=.type "range",data:=.fields #[.int lo t,.int hi u,.int 1 v]}).objs.size],_,_,H,rfl,
  L.kept (t':=aa) λb o e=>cu _ e,C0 _ lo (hi - lo).toNat,?_,λb hb=>?_,q⟩
 .have e1:lo+((0:Nat):Int)*1=lo:=by simp
  have e2:(((hi - lo).toNat:Nat):Int) - ((0:Nat):Int)=Builtin.Range.rangeSize lo hi 1:=by rw[rangeSize_one];split<;>omega
  show IsRangeIter _ _ (lo+((0:Nat):Int)*1) ((((hi - lo).toNat:Nat):Int) - ((0:Nat):Int)) 1;rw[e1,e2];exact cQ _ rfl
 .have e:b=(s.heap.push {cls:=.type "range",data:=.fields #[.int lo t,.int hi u,.int 1 v]}).objs.size:=by simpa using hb
  subst e;exact L.CW (aZ _) (L.cL.fresh (aZ _))
def Sa(b:TA):TI:=λZ H R=>b Z H λvs H1=>∃j:Int,vs=[.int j]/\-(2 ^62)<=j/\j<2 ^62/\R (U2 0 j.toNat) H1
def F_(b:Gl X "range")(hm:X.mg "range"=none)(g:PA X [ag] M)(hs:starEach [ag] X.env=[(false,eval ag X.env)]:=by rfl):PI X tg (.Call (.Name "range" p) [ag] [] pos) (Sa M):=by
 intro U s Z H R I h;refine Call_ (wR I b hm boot_range (AI (ej (g pos U s Z H _ I h) λus s1 ⟨vs,H1,S,r1,L⟩=>?_) hs rfl));obtain⟨j,e,L,q2,q⟩:=L;subst e;cases r1 with
 |cons r rr=>
  cases rr;obtain⟨t,rfl⟩:=r;exact call_range_1 (HC S (by omega) (by omega) L q2 (by simpa using q))
def VJ(q:TI)(g:TG)(r:TS):TS:=λD Z H=>q Z H λJ H1=>∃W:Nat->Nat->St->Hp->Prop,(∃m,W 0 m Z H1)/\∀i m Z H,W i m Z H->
 (J.stop i H/\D.nx Z H)\/(J.go i H/\∃N:St->Hp->Prop,(∀L H',N L H'->∃b,b<m/\W (i+1) b L H')/\∀x H',J.Hz i H x H'->g x Z H' λI H2=>r {D with nx:=N,ct:=N,bk:=D.nx} I H2)
def wU(fp:List Addr)(h:Heap):List (Addr×Obj):=fp.filterMap λb=>(h.get? b).map λo=>(b,o)
def nu{fp:List Addr}{h:Heap}{b:Addr}(hb:b∈fp)(e:h.get? b=some o):(b,o)∈wU fp h:=nj.mpr ⟨b,hb,by rw[e];rfl⟩
theorem F'{p:Addr×Obj}(g:p∈wU fp h):p.1∈fp/\h.get? p.1=some p.2:=by
 obtain⟨b,hb,e⟩:=nj.mp g;cases q:h.get? b with
 |none=>rw[q]at e;cases e
 |some o=>
  rw[q]at e;have L:(b,o)=p:=Option.some.inj e;subst L;exact⟨hb,q⟩
def Inv.pinned {fp:List Addr}(I:Inv X U Z H s)(hf:∀b∈fp,pw X U H b)(g:∀b∈fp,∃o,s.heap.get? b=some o/\∀v,o.data≠ .cell v):Inv X (U++wU fp s.heap) Z H s:=
 I.jQ λp q=>(cF.mp q).elim (λz=>I.pin p (dm _ z)) λz=>by
   obtain⟨hb,e⟩:=F' z;obtain⟨f0,f1,f2,_⟩:=hf p.1 hb;obtain⟨o,L,d⟩:=g p.1 hb;rw[e]at L;cases L;exact⟨e,f0,f1,f2,d⟩
def Inv.tm {pl:List (Addr×Obj)}(I:Inv X (U++pl) Z H s):Inv X U Z H s:=I.jQ λp L=>I.pin p (dm _ (gA _ L))
def Oj{X:Cx}(hp:PassesOwn (model X.prog X.w) X.A X.env X.xe)(hc:X.calm=true)(hi:PI X tg c7 wi)(hg:PG X tg g)(hb:yb X body tb)
  (hs:∀x,foldedSetIterable c7 X.env x=pure x:=by intro _;rfl):PS X (.For tg c7 body [] pos) (VJ wi g tb):=by
 intro U s Z H D I h;refine wpAny_For (ej (hi U s Z H _ I h) λv s1 h1=>ej h1 λU1 s2 h2=>?_) hs;obtain⟨it,fp,tn,J,H2,e,I2,T,KW,f2,W,⟨m0,w0⟩,turn⟩:=h2;subst e;have C1:∀{H':Hp},(∀b∈fp,H' b=none)->∀b∈fp,pw X U H' b:=λhn b hb=>⟨hn b hb,(f2 b hb).2⟩;refine codeAny_forLoop_any (λn s'=>∃i dy H',Inv X U dy H' s'/\tn i s'.heap/\(∀b∈fp,H' b=none)/\W i n dy H') ?_ m0 ⟨0,Z,H2,I2,KW,λb hb=>(f2 b hb).1,w0⟩
 rintro n s3 ⟨i,Ol,H3,I3,Yd,Ye,w3⟩
 rcases turn i n Ol H3 w3 with⟨stop,qn⟩|⟨go,N,hN,step⟩
 .refine o_ hp (ej (T.done X rfl rfl rfl hc i U s3 Ol H3 X.xe I3 (C1 Ye) Yd stop) λr s4 ⟨hr,I4⟩=>?_);subst hr;exact sQ ⟨Ol,H3,I4,qn⟩
 .refine o_ hp (ej (T.item X rfl rfl rfl hc i U s3 Ol H3 X.xe I3 (C1 Ye) Yd go) λr s4 ⟨u,hr,h4⟩=>?_);subst hr;refine o_ hp (ej h4 λ_ s5 ⟨x,H5,I5,r5,y5,Ri,U3⟩=>?_);have Zq:=I5.pinned (C1 U3) (T.obj _ _ Ri);refine o_ hp (ej (hg _ s5 Ol H5 x u _ Zq r5 (step x H5 y5)) λ_ s6 ⟨VL,H6,I6,q6⟩=>?_);refine o_ hp (ej (hb _ s6 VL H6 _ I6 q6) λf s7 S=>?_);have again:∀{L:St} {q:Hp},Inv X (U++wU fp s5.heap) L q s7->N L q->∃m,m<n/\∃i dy H',Inv X U dy H' s7/\tn i s7.heap/\(∀b∈fp,H' b=none)/\W i m dy H':=λ{L q} M n7=>by
   obtain⟨m',hm,w7⟩:=hN L q n7;refine⟨m',hm,i+1,L,q,M.tm,T.keep _ _ _ Ri λb hb o e=>(M.pin (b,o) (dm _ (dm _ (nu hb e)))).1,λb hb=>?_,w7⟩;obtain⟨o,e,d⟩:=T.obj _ _ Ri b hb;exact(M.pin (b,o) (dm _ (dm _ (nu hb e)))).2.1
  cases f with
  |next=>obtain⟨L,q,M,n7⟩:=S;exact again M n7
  |cont=>obtain⟨L,q,M,n7⟩:=S;exact again M n7
  |brk=>obtain⟨L,q,M,S⟩:=S;exact⟨L,q,M.tm,S⟩
  |ret v=>obtain⟨x7,L,q,M,r7,S⟩:=S;exact⟨x7,L,q,M.tm,r7,S⟩
abbrev R2:=V->V->Hp->VK->Prop
def sr(X:Cx)(f:Value->Value->Sem Value)(r:R2):Prop:=
 ∀(U:List (Addr×Obj)) (s:Shared) (Z:St) (H:Hp) (x y:V) (v u:Value) (Q:VK),Inv X U Z H s->RelV x v->RelV y u->r x y H Q->
  wpAny (model X.prog X.w) X.A (f v u) (EP X U Z Q) X.xe s
def VM(X:Cx)(f:Value->Sem Value)(r:V->Hp->VK->Prop):Prop:=
 ∀(U:List (Addr×Obj)) (s:Shared) (Z:St) (H:Hp) (x:V) (v:Value) (Q:VK),Inv X U Z H s->RelV x v->r x H Q->
  wpAny (model X.prog X.w) X.A (f v) (EP X U Z Q) X.xe s
def gY(X:Cx)(f:Value)(r:List V->Hp->VK->Prop):Prop:=
 ∀(U:List (Addr×Obj)) (s:Shared) (Z:St) (H:Hp) (xs:List V) (us:List Value) (Q:VK),Inv X U Z H s->Vals xs us->r xs H Q->
  wpAny (model X.prog X.w) X.A (call f us) (EP X U Z Q) X.xe s
def VN(X:Cx)(r:V->Hp->(Bool->Hp->Prop)->Prop):Prop:=
 ∀(U:List (Addr×Obj)) (s:Shared) (Z:St) (H:Hp) (x:V) (v:Value) (Q:Bool->Hp->Prop),Inv X U Z H s->RelV x v->r x H Q->
  wpAny (model X.prog X.w) X.A (truthy v) (TP X U Z Q) X.xe s
def Om(r:R2)(b g:TE):TE:=λZ H Q=>b Z H λx H1=>g Z H1 λy H2=>r x y H2 Q
def Zr(r:V->Hp->VK->Prop)(b:TE):TE:=λZ H Q=>b Z H λx H1=>r x H1 Q
def rI(C:Int->Int->Prop)(g:Int->Int->V):R2:=λx y H Q=>∃i j,x=.int i/\y=.int j/\C i j/\Q (g i j) H
def Nd(g:Int->Int->V):R2:=λx y H Q=>∃i j,x=.int i/\y=.int j/\Q (g i j) H
def rU(g:Int->V):V->Hp->VK->Prop:=λx H Q=>∃i,x=.int i/\Q (g i) H
def Oo(g:PE X a q)(hb:PE X b r){R:V->V->Hp->Prop}(I:Inv X U Z H s)
  (h:q Z H λx H1=>r Z H1 λy H2=>R x y H2) {f:Value->Value->Sem Value}
  (hf:∀v u s2 x y H2,Inv X U Z H2 s2->RelV x v->RelV y u->R x y H2->wpAny (model X.prog X.w) X.A (f v u) Q X.xe s2):
  wpAny (model X.prog X.w) X.A (eval a X.env) (λv M=>wpAny (model X.prog X.w) X.A (eval b X.env) (λu S=>wpAny (model X.prog X.w) X.A (f v u) Q X.xe S) X.xe M) X.xe s:=by
 refine ej (g U s Z H _ I h) λv s1 ⟨x,H1,L,r1,q1⟩=>?_
 refine ej (hb U s1 Z H1 _ L q1) λu s2 ⟨y,H2,I2,r2,q2⟩=>?_
 exact hf v u s2 x y H2 I2 r1 r2 q2
def Sd(g:sr X (binaryOp op) r)(M:PE X a S)(hb:PE X b tb):PE X (.BinOp a op b pos) (Om r S tb):=by
 intro U s Z H Q I h;exact wpAny_BinOp (Oo M hb I h λv u s2 x y H2 L rx ry q=>g U s2 Z H2 x y v u Q L rx ry q)
def Se(b:VM X (unaryOp op) r)(g:PE X a q):PE X (.UnaryOp op a pos) (Zr r q):=by
 intro U s Z H Q I h;exact UnaryOp_ (ej (g U s Z H _ I h) λv s1 ⟨x,H1,L,r1,M⟩=>b U s1 Z H1 x v Q L r1 M)
def Yf{X:Cx}{f:Value->Value->Sem Value}{C:Int->Int->Prop}{g:Int->Int->Int}
  (rule:∀(i j:Int) (t u:Tok) (s:Shared) (Q:Value->Shared->Prop) (E:Value->Shared->Prop),C i j->Q (.int (g i j) s.toks) {s with toks:=s.toks+1}->wpAny (model X.prog X.w) X.A (f (.int i t) (.int j u)) Q E s):
  sr X f (rI C λi j=>.int (g i j)):=by
 intro U s Z H x y v u Q I L b h;obtain⟨i,j,rfl,rfl,r,q⟩:=h;obtain⟨t,rfl⟩:=L;obtain⟨t',rfl⟩:=b;exact rule i j t t' s _ _ r ⟨.int (g i j),H,I.tok _,⟨_,rfl⟩,q⟩
def Sf{X:Cx}{f:Value->Value->Sem Value}{g:Int->Int->Int}
  (rule:∀(i j:Int) (t u:Tok) (s:Shared) (Q:Value->Shared->Prop) (E:Value->Shared->Prop),Q (.int (g i j) s.toks) {s with toks:=s.toks+1}->wpAny (model X.prog X.w) X.A (f (.int i t) (.int j u)) Q E s):
  sr X f (Nd λi j=>.int (g i j)):=by
 intro U s Z H x y v u Q I L b h;obtain⟨i,j,rfl,rfl,q⟩:=h;obtain⟨t,rfl⟩:=L;obtain⟨t',rfl⟩:=b;exact rule i j t t' s _ _ ⟨.int (g i j),H,I.tok _,⟨_,rfl⟩,q⟩
def KY{X:Cx}{f:Value->Value->Sem Value}{g:Int->Int->Bool}
  (rule:∀(i j:Int) (t u:Tok) (s:Shared) (Q:Value->Shared->Prop) (E:Value->Shared->Prop),Q (.bool (g i j)) s->wpAny (model X.prog X.w) X.A (f (.int i t) (.int j u)) Q E s):
  sr X f (Nd λi j=>.bl (g i j)):=by
 intro U s Z H x y v u Q I L b h;obtain⟨i,j,rfl,rfl,q⟩:=h;obtain⟨t,rfl⟩:=L;obtain⟨t',rfl⟩:=b;exact rule i j t t' s _ _ ⟨.bl (g i j),H,I,rfl,q⟩
def HE(i j:Int):Prop:=(-(2 ^64)<i/\i<2 ^64)\/(-(2 ^64)<j/\j<2 ^64)
def HE.ok (h:HE i j):IntMulOk i j:=by
 rcases h with⟨L,h2⟩|⟨L,h2⟩
 .exact .of_left (intBits_le_64 L h2)
 .exact .of_right (intBits_le_64 L h2)
def Oq:sr X (binaryOp .Add) (Nd λi j=>.int (i+j)):=Sf λ_ _ _ _ _ _ _ q=>add_int q
def Ot:sr X (binaryOp .Sub) (Nd λi j=>.int (i - j)):=Sf λ_ _ _ _ _ _ _ q=>sub_int q
def Ou:sr X (binaryOp .Mult) (rI HE λi j=>.int (i*j)):=Yf λ_ _ _ _ _ _ _ L q=>mul_int q L.ok
def Ov:sr X (binaryOp .Mod) (rI (λ_ j=>0<j) λi j=>.int (i % j)):=Yf λi j _ _ _ _ _ L q=>by
 have b:(0:Int)<j:=L;exact mod_int' (by omega) (by rwa[Int.fmod_eq_emod_of_nonneg i (by omega)])
def Zs{X:Cx}{f:Value->Sem Value}{g:Int->Int}
  (rule:∀(i:Int) (t:Tok) (s:Shared) (Q:Value->Shared->Prop) (E:Value->Shared->Prop),Q (.int (g i) s.toks) {s with toks:=s.toks+1}->wpAny (model X.prog X.w) X.A (f (.int i t)) Q E s):
  VM X f (rU λi=>.int (g i)):=by
 intro U s Z H x v Q I L h;obtain⟨i,rfl,q⟩:=h;obtain⟨t,rfl⟩:=L;exact rule i t s _ _ ⟨.int (g i),H,I.tok _,⟨_,rfl⟩,q⟩
def Ow:VM X (unaryOp .USub) (rU λi=>.int (-i)):=Zs λ_ _ _ _ _ q=>neg_int q
def pA{Q:VK}{b:Bool}(I:Inv X U Z H s)(q:Q (.bl k) H)(e:k=b):EP X U Z Q (.bool b) s:=by
 subst e;exact⟨.bl k,H,I,rfl,q⟩
def Sg:sr X (compareOp .Lt) (Nd λi j=>.bl (decide (i<j))):=KY λ_ _ _ _ _ _ _ q=>lt_int q
def Si:sr X (compareOp .LtE) (Nd λi j=>.bl (decide (i<=j))):=KY λ_ _ _ _ _ _ _ q=>le_int q
def Sj:sr X (compareOp .Gt) (Nd λi j=>.bl (decide (j<i))):=KY λ_ _ _ _ _ _ _ q=>gt_int q
def Sk:sr X (compareOp .GtE) (Nd λi j=>.bl (decide (j<=i))):=KY λ_ _ _ _ _ _ _ q=>ge_int q
def Ga:sr X (compareOp .Lt) (λx y H Q=>∃i j,x=.str i/\y=.str j/\Q (.bl (decide (i.cps.toList<j.cps.toList))) H):=by
 intro U s Z H x y v u Q I L b h;obtain⟨i,j,rfl,rfl,q⟩:=h;obtain⟨t,rfl⟩:=L;obtain⟨t',rfl⟩:=b;exact lt_str (pA I q rfl)
def Gb:sr X (compareOp .In) (λx y H Q=>∃i j,x=.str i/\y=.str j/\Q (.bl (!(Builtin.Str.occurrences j i 0 j.length 1).isEmpty)) H):=by
 intro U s Z H x y v u Q I L b h;obtain⟨i,j,rfl,rfl,q⟩:=h;obtain⟨t,rfl⟩:=L;obtain⟨t',rfl⟩:=b;exact in_str (pA I q rfl)
def Ox:sr X (compareOp .Is) (λx y H Q=>y=.bL/\Q (.bl (decide (x=.bL))) H):=by
 intro U s Z H x y v u Q I L b h;obtain⟨rfl,q⟩:=h;cases b;refine is_none_gen (pA I q ?_);cases x<;>first
  |(cases L;rfl)
  |(obtain⟨t,rfl⟩:=L;rfl)
def KZ:sr X (compareOp .IsNot) (λx y H Q=>y=.bL/\Q (.bl (!decide (x=.bL))) H):=by
 intro U s Z H x y v u Q I L b h;obtain⟨rfl,q⟩:=h;cases b;refine isnot_none_gen (pA I q ?_);cases x<;>first
  |(cases L;rfl)
  |(obtain⟨t,rfl⟩:=L;rfl)
def zE:sr X (compareOp .NotIn) (λx y H Q=>∃i j,x=.str i/\y=.str j/\Q (.bl (!(!(Builtin.Str.occurrences j i 0 j.length 1).isEmpty))) H):=by
 intro U s Z H x y v u Q I L b h;obtain⟨i,j,rfl,rfl,q⟩:=h;obtain⟨t,rfl⟩:=L;obtain⟨t',rfl⟩:=b;exact notIn_str (pA I q rfl)
def HF(b:Expr){op:CmpOp}(h:op≠ .In:=by decide) (g:op≠ .NotIn:=by decide):behindInMarks op b=false:=by
 have L:(op==CmpOp.In)=false:=by cases op<;>first|rfl|exact absurd rfl h
 have q:(op==CmpOp.NotIn)=false:=by cases op<;>first|rfl|exact absurd rfl g
 cases b<;>simp[behindInMarks,L,q]
def K0(g:sr X (compareOp op) r)(M:PE X a S)(hb:PE X b tb)(hm:behindInMarks op b=false):PE X (.Compare a [op] [b] pos) (Om r S tb):=by
 intro U s Z H Q I h;exact wpAny_Compare1 (Oo M hb I h λv u s2 x y H2 L rx ry q=>g U s2 Z H2 x y v u Q L rx ry q) hm
def Sl(t:TE):TT:=λZ H Q=>t Z H λx H'=>∃k,x=.bl k/\Q k H'
def K1(g:sr X (compareOp op) r)(q:PE X a M)(hb:PE X b S)(hm:behindInMarks op b=false):PT X (.Compare a [op] [b] pos) (Sl (Om r M S)):=by
 intro U s Z H Q I h;refine wpAny_isTrue_Compare1 (ej (q U s Z H _ I h) λv s1 ⟨x,H1,L,r1,q1⟩=>ej (hb U s1 Z H1 _ L q1) λu s2 ⟨y,H2,I2,r2,q2⟩=>
  ej (g U s2 Z H2 x y v u _ I2 r1 r2 q2) λc s3 ⟨z,H3,I3,r3,k,e,q3⟩=>?_) hm
 subst e;cases r3;exact mr ⟨H3,I3,q3⟩
def K2(K:Frag)(x:V)(H:Hp)(k:Bool):Prop:=
 match x with
 |.bL=>k=false
 |.bl b=>k=b
 |.int i=>k=(i !=0)
 |.str y=>y.length<=sizeLine/\k=((y.length:Int) !=0)
 |.M8 y=>y.size<=sizeLine/\k=((y.size:Int) !=0)
 |.ref p=>(∃xs,lj K H p xs/\k=!xs.isEmpty)\/(∃xs,mf K H p xs/\k=!xs.isEmpty)\/∃kvs,Rd H p (.dK kvs)/\k=!kvs.isEmpty
 |_=>False
def C5{kvs:List (α×V)}{vs:List (α×Value)}(r:KV kvs vs):(!vs.isEmpty)=!kvs.isEmpty:=by
 cases r<;>rfl
def wV(r:Vals xs bM):(!bM.toArray.isEmpty)=!xs.isEmpty:=by
 cases r<;>simp
def wW:(sizeLine:Nat)<2 ^63:=by rw[eW];decide
def C6:VN X (λx H Q=>∃k,K2 X.K x H k/\Q k H):=by
 intro U s Z H x v Q I g h;obtain⟨k,e,q⟩:=h;have hl:=wW;have hs:sizeLine=16777216:=eW;cases x with
 |bL=>
  cases g;have L:k=false:=e;subst L;exact truthy_none ⟨H,I,q⟩
 |bl b=>
  cases g;have L:k=b:=e;subst L;exact mr ⟨H,I,q⟩
 |int i=>
  obtain⟨t,rfl⟩:=g;have L:k=(i !=0):=e;subst L;exact PySem.P.truthy_int ⟨H,I,q⟩
 |str y=>
  obtain⟨t,rfl⟩:=g;obtain⟨hy,L⟩:y.length<=sizeLine/\k=((y.length:Int) !=0):=e;subst L;exact PySem.P.truthy_str (by omega) ⟨H,I.tok _,q⟩
 |M8 y=>
  obtain⟨t,rfl⟩:=g;obtain⟨hy,L⟩:y.size<=sizeLine/\k=((y.size:Int) !=0):=e;subst L;exact PySem.W.truthy_bytes (by omega) ⟨H,I.tok _,q⟩
 |ref p=>
  cases g;have L:(∃xs,lj X.K H p xs/\k=!xs.isEmpty)\/(∃xs,mf X.K H p xs/\k=!xs.isEmpty)\/∃kvs,Rd H p (.dK kvs)/\k=!kvs.isEmpty:=e;rcases L with⟨xs,M,L⟩|⟨xs,M,L⟩|⟨kvs,M,L⟩
  .subst L;obtain⟨bM,r,pl,S⟩:=I.list M;have c6:=r.length;exact wpAny_truthy_list pl.isList (by simp only[cE];omega) ⟨H,I.tok _,by rwa[wV r]⟩
  .subst L;obtain⟨bM,r,pl,S⟩:=I.tuple M;have c6:=r.length;exact truthy_tuple pl (by simp only[cE];omega) ⟨H,I.tok _,by rwa[wV r]⟩
  .subst L;obtain⟨S,hS,vs,r,m⟩:kvs.length<=sizeLine/\(p==sysModules)=false/\∃vs,KV kvs vs/\s.heap.DictOf (bQ X.prog X.w) p vs:=M.ok I.cL;have c6:kvs.length=vs.length:=Paired.length r;exact wpAny_truthy_dict hS m (by omega) ⟨H,I.tok _,by rwa[C5 r]⟩
 |_=>exact fe e
def AS(b:PE X a g)(he:∀whole,isTrue a X.env whole=(do let v<-whole;standAt a.pos;holding [v] (truthy v))):
  PT X a (λZ H Q=>g Z H λx H'=>∃k,K2 X.K x H' k/\Q k H'):=by
 intro U s Z H Q I h;exact isTrue_plain (ej (b U s Z H _ I h) λv s1 ⟨x,H1,L,r1,q⟩=>C6 U s1 Z H1 x v Q L r1 q) (he _)
def C7:sr X (binaryOp .Add) (λx y H Q=>∃i j,x=.str i/\y=.str j/\i.length+j.length<=sizeLine/\Q (.str (i++j)) H):=by
 intro U s Z H x y v u Q I L b h;obtain⟨i,j,rfl,rfl,g,q⟩:=h;obtain⟨t,rfl⟩:=L;obtain⟨t',rfl⟩:=b;exact add_str (λt' r=>⟨.str (i++j),H,I.tok _,⟨_,rfl⟩,q⟩) g
def vals1{x:V}(r:Vals [x] us):∃u,us=[u]/\RelV x u:=by
 cases r with
 |cons r1 L=>cases L;exact⟨_,rfl,r1⟩
def vals2{x y:V}(r:Vals [x,y] us):∃u w',us=[u,w']/\RelV x u/\RelV y w':=by
 cases r with
 |cons r1 L=>
  cases L with
  |cons b g=>cases g;exact⟨_,_,rfl,r1,b⟩
def Gd{X:Cx}(b:X.calm=true):gY X (.builtin "max") (λxs H Q=>∃i j,xs=[.int i,.int j]/\Q (.int (if j>i then j else i)) H):=by
 intro U s Z H xs us Q I r h;obtain⟨i,j,rfl,q⟩:=h;obtain⟨u,g,rfl,⟨t,rfl⟩,⟨t',rfl⟩⟩:=vals2 r;refine max_two_ints (I.ok.hd b) λh' M k=>⟨_,H,I.kept k,?_,q⟩;by_cases L:j>i
 .rw[ay L,ay L];exact⟨_,rfl⟩
 .rw[aE L,aE L];exact⟨_,rfl⟩
def yE:gY X (.type "int") (λxs H Q=>(∃i,xs=[.int i]/\Q (.int i) H)\/∃k,xs=[.bl k]/\Q (.int (if k then 1 else 0)) H):=by
 intro U s Z H xs us Q I r h;rcases h with⟨i,rfl,q⟩|⟨k,rfl,q⟩
 .obtain⟨u,rfl,t,rfl⟩:=vals1 r;exact call_int_int ⟨.int i,H,I,⟨_,rfl⟩,q⟩
 .obtain⟨u,rfl,r1⟩:=vals1 r;cases r1;exact call_int_bool ⟨.int (if k then 1 else 0),H,I.tok _,⟨_,rfl⟩,q⟩
def VO(K:Frag)(x:V)(H:Hp)(n:Nat):Prop:=
 match x with
 |.str y=>y.length<=sizeLine/\n=y.length
 |.M8 y=>y.size<=sizeLine/\n=y.size
 |.ref p=>(∃xs,lj K H p xs/\n=xs.length)\/∃xs,mf K H p xs/\n=xs.length
 |_=>False
def tq:gY X (.builtin "len") (λxs H Q=>∃x n,xs=[x]/\VO X.K x H n/\Q (.int n) H):=by
 intro U s Z H xs us Q I r h;obtain⟨x,n,rfl,e,q⟩:=h;obtain⟨u,rfl,b⟩:=vals1 r;have hl:=wW;have hs:sizeLine=16777216:=eW;cases x with
 |str y=>
  obtain⟨t,rfl⟩:=b;obtain⟨hy,L⟩:y.length<=sizeLine/\n=y.length:=e;subst L;exact len_str (by omega) ⟨.int _,H,I.tok _,⟨_,rfl⟩,q⟩
 |M8 y=>
  obtain⟨t,rfl⟩:=b;obtain⟨hy,L⟩:y.size<=sizeLine/\n=y.size:=e;subst L;exact PySem.W.len_bytes (by omega) ⟨.int _,H,I.tok _,⟨_,rfl⟩,q⟩
 |ref p=>
  cases b;have L:(∃xs,lj X.K H p xs/\n=xs.length)\/∃xs,mf X.K H p xs/\n=xs.length:=e;rcases L with⟨xs,g,L⟩|⟨xs,g,L⟩
  .subst L;obtain⟨bM,M,pl,hz⟩:=I.list g;have S:=M.length;exact Calls.call_len_list pl.isList (by simp only[cE];omega) ⟨.int xs.length,H,I.tok _,⟨_,by simp only[cE];rw[S]⟩,q⟩
  .subst L;obtain⟨bM,M,pl,hz⟩:=I.tuple g;have S:=M.length;exact len_tuple pl (by simp only[cE];omega) ⟨.int xs.length,H,I.tok _,⟨_,by simp only[cE];rw[S]⟩,q⟩
 |_=>exact fe e
structure C8(h:Heap)(x dx C:Addr)(mA:Str->Option Value):Prop where
 obj:h.get? x=some (PySem.W.instObj C dx)
 ns:h.Ns1 dx mA
 ne:dx≠x
theorem Ge(n:h'.Ns1 dx mA):∃b,h'.get? dx=some b/\∀name,PySem.W.lookIn name b=some (mA name):=by
 obtain⟨o,es,ep,L,hd,g,_,hm⟩:=n;refine⟨o,L,λname=>?_⟩;have e:=hm name;unfold nsFind findBy at e;rw[<-Array.find?_toList]at e;unfold PySem.W.lookIn;rw[hd];dsimp only;split
 .rename_i y q;rw[q]at e;exact cR some e
 .rename_i q;rw[q]at e;have a:es.toList.any (·.refKey)=false:=by
   rw[List.any_eq_false];intro y r;obtain⟨z,t,I⟩:=g y (Array.mem_toList_iff.mp r);simp[DictEntry.refKey,I]
  have M:¬es.toList.any (·.refKey)=true:=by rw[a];exact i7
  rw[aE M];exact cR some e
def C8.look (I:C8 h x dx C mA):∃b,PySem.W.InstAt h x (PySem.W.instObj C dx) C (some b)/\∀name,PySem.W.lookIn name b=some (mA name):=
 let⟨b,L,g⟩:=Ge I.ns
 ⟨b,⟨I.obj,rfl,rfl,L⟩,g⟩
def get_map(X:K.In s.heap)(I:C8 s.heap x dx C mA)(b:PySem.W.plainGet K C name=true)(g:PySem.W.hasDictIn K C=true)
  (q:PySem.W.findIn K (.ref C) name=some none) (r:mA name=some v) (M:PySem.W.handedIn v=true) (h:ae v {s with toks:=s.toks+1}):
  wpAny (model prog w) A (getAttr (.ref x) name expr) ae E s:=by
 obtain⟨S,J,L⟩:=I.look;exact PySem.W.get_value X J (oY b).1 (PySem.W.findObj_own g q rfl (by rw[L,r])) M h
def HG{Q:Value×List Value->Shared->Prop}(X:K.In s.heap)(I:C8 s.heap x dx C mA)(b:PySem.W.plainGet K C name=true)
  (hf:PySem.W.findIn K (.ref C) name=some (some (.ref f))) (g:PySem.W.isFn K (.ref f)=true) (q:mA name=none) (h:Q (.ref f,[.ref x]) s):
  wpAny (model prog w) A (getMethod (.ref x) name pl) Q E s:=by
 obtain⟨L,J,r⟩:=I.look;exact PySem.W.method_fn X J (oY b).1 (oY b).2 hf (fG.mp g) (by show(PySem.W.lookIn name L).map (·.isSome)=some false;rw[r,q];rfl) h
def K3(X:K.In s.heap)(I:C8 s.heap x dx C mA)
  (hs:PySem.W.findIn K (.ref C) "__setattr__"=some (some (.builtin "object.__setattr__"))) (q:PySem.W.plainOver K C=true) (M:PySem.W.takerIn K C name=some none) (S:PySem.W.hasDictIn K C=true)
  (hw:PySem.Within mA ns) (hsz:ns.length<=sizeLine)
  (h:∀h',C8 h' x dx C (λy=>if y=name then some v else mA y)->Heap.SameBut dx s.heap h'->ac () {s with heap:=h',toks:=s.toks+2}):
  wpAny (model prog w) A (setAttr (.ref x) name v) ac E s:=by
 obtain⟨od,J,hl⟩:=I.look;refine PySem.W.set_plain X J hs (PySem.W.osa_open (s:={s with toks:=s.toks+1}) (r:=none) X J q M λb=>?_);obtain⟨cd,hc,KN⟩:=PySem.W.any_some S;have hx:s.heap.get? x=some ⟨.ref C,some dx,.plain,#[]⟩:=I.obj;refine aM (bo (aM (aM (wpAny_loadPart hx (aM (PySem.W.Looks.here (s:={s with toks:=s.toks+1}) (PySem.W.looks_clsIn X hc) ?_))))));rw[KN];refine bo (a:=some dx) (aM (bo (aM ?_)));refine wpAny_nsSet1 (s:={s with toks:=s.toks+1}) I.ns λh' L g=>?_
 obtain⟨oD,esD,epD,Zt,Zu,Zv⟩:=L.count (PySem.Within.cons name v hw);refine aM (wpAny_lookBehind Zt (by rw[Zu];exact pastItsLine_dict (bI Zv (by rw[dq];omega))) ?_);exact bo (h _ ⟨(g.2 _ (Ne.symm I.ne)).trans I.obj,L,I.ne⟩ g)
def HH{A:Around}{kw:List (Str×Value)}(X:K.In s.heap)(hm:PySem.W.makesIn K C=true)
  (hi:PySem.W.findIn K (.ref C) "__init__"=some (some (.ref f))) (hf:PySem.W.typeIn K (.ref f)=some (.type "function"))
  (h:codeAny (model prog w) (A.under (.builtin "type.__call__" ⟨.ref C::ai,kw⟩)) (.call (.ref f) ⟨.ref (s.heap.objs.size+1)::ai,kw⟩) (PySem.W.InitBack (s.heap.objs.size+1) R)
   {s with heap:=(s.heap.push PySem.W.emptyDict).push (PySem.W.instObj C s.heap.objs.size)}):
  codeAny (model prog w) A (.call (.ref C) ⟨ai,kw⟩) R s:=by
 obtain⟨L,g,d,t,os⟩:=s;exact PySem.W.make_core (PySem.W.makes_of X hm) (sR X hi) (λself=>PySem.W.bind_fn X self hf) (.inl rfl) h
noncomputable def mH(f:Str)(v:V):List (Str×V)->List (Str×V)
 |[]=>[(f,v)]
 |(g,x)::r=>if g=f then(g,v)::r else(g,x)::mH f v r
theorem va(f g:Str)(v:V):∀fs:List (Str×V),(mH f v fs).lookup g=if g=f then some v else fs.lookup g
 |[]=>by
  show List.lookup g [(f,v)]=_;by_cases h:g=f
  .have hb:(g==f)=true:=fG.mpr h;simp only[List.lookup,hb,ay h]
  .have hb:(g==f)=false:=gB.mpr h;simp only[List.lookup,hb,aE h]
 |(k,x)::r=>by
  have b:=va f g v r;rw[show mH f v ((k,x)::r)=(if k=f then(k,v)::r else(k,x)::mH f v r)from rfl];by_cases L:k=f
  .rw[ay L];by_cases h:g=k
   .have hb:(g==k)=true:=fG.mpr h;simp only[List.lookup,hb,ay (h.trans L)]
   .have hb:(g==k)=false:=gB.mpr h;simp only[List.lookup,hb,aE (λe:g=f=>h (e.trans L.symm))]
  .rw[aE L];by_cases h:g=k
   .have hb:(g==k)=true:=fG.mpr h;simp only[List.lookup,hb,aE (λe:g=f=>L (h.symm.trans e))]
   .have hb:(g==k)=false:=gB.mpr h;simp only[List.lookup,hb];exact b
theorem uG(f:Str)(v:V):∀fs:List (Str×V),f∈(mH f v fs).map (·.1)/\∀g,g∈fs.map (·.1)->g∈(mH f v fs).map (·.1)
 |[]=>⟨by simp[mH],λg h=>by simp at h⟩
 |(k,x)::r=>by
  obtain⟨b,q⟩:=uG f v r;rw[show mH f v ((k,x)::r)=(if k=f then(k,v)::r else(k,x)::mH f v r)from rfl];by_cases L:k=f
  .rw[ay L];subst L;exact⟨by simp,λg h=>by simpa using h⟩
  .rw[aE L];refine⟨?_,λg h=>?_⟩
   .rw[aX];exact cw _ b
   .rw[aX]at h⊢;rcases a_.mp h with e|e
    .exact a_.mpr (.inl e)
    .exact cw _ (q g e)
theorem vc(f:Str)(v:V):∀fs:List (Str×V),(mH f v fs).length<=fs.length+1
 |[]=>by simp[mH]
 |(k,x)::r=>by
  have b:=vc f v r;rw[show mH f v ((k,x)::r)=(if k=f then(k,v)::r else(k,x)::mH f v r)from rfl];by_cases L:k=f
  .rw[ay L,dq,dq];omega
  .rw[aE L,dq,dq];omega
def lN.some_of (r:lN (some v) o):∃u,o=some u/\RelV v u:=by
 cases o with
 |none=>exact fe r
 |some u=>exact⟨u,rfl,r⟩
def lN.none_of (r:lN none o):o=none:=by
 cases o with
 |none=>rfl
 |some u=>exact fe r
theorem Gf(r:RelV v u):PySem.W.handedIn u=true:=by
 cases v with
 |bL=>cases(show u=Value.none from r);rfl
 |bl b=>cases(show u=Value.bool b from r);rfl
 |int i=>obtain⟨t,e⟩:=(show∃t,u=Value.int i t from r);cases e;rfl
 |str x=>obtain⟨t,e⟩:=(show∃t,u=Value.str x t from r);cases e;rfl
 |M8 b=>obtain⟨t,e⟩:=(show∃t,u=Value.bytes b t from r);cases e;rfl
 |qi b=>obtain⟨t,e⟩:=(show∃t,u=Value.float b t from r);cases e;rfl
 |ref a=>cases(show u=Value.ref a from r);rfl
 |ty n=>cases(show u=Value.type n from r);rfl
def tB(b:ri P w H h)(e:H a=some (.ins C dx fs)):∃mA,C8 h a dx C mA/\(∀f,lN (fs.lookup f) (mA f))/\PySem.Within mA (fs.map (·.1))/\fs.length<=1000/\H dx=some (.own a):=by
 obtain⟨d,z,ne,ob,mA,n,r,q⟩:=(show cN P w H h a (.ins C dx fs)from b a _ e);exact⟨mA,⟨ob,n,ne⟩,r,q,z,d⟩
structure C9(K:Frag)(C:Addr):Prop where
 pg:PySem.W.plainGet K C Str.empty=true
 hd:PySem.W.hasDictIn K C=true
 po:PySem.W.plainOver K C=true
 sa:PySem.W.findIn K (.ref C) "__setattr__"=some (some (.builtin "object.__setattr__"))
def C9.get (c:C9 K C)(f:Str):PySem.W.plainGet K C f=true:=c.pg
def rj(K:Frag)(C:Addr)(f:Str):Prop:=PySem.W.findIn K (.ref C) f=some none
def rj.Sm (n:rj K C f):PySem.W.takerIn K C f=some none:=by
 unfold PySem.W.takerIn;rw[show PySem.W.findIn K (.ref C) f=some none from n]
 rfl
structure Meth(K:Frag)(C:Addr)(m:Str)(f:Addr):Prop where
 at_:PySem.W.findIn K (.ref C) m=some (some (.ref f))
 fn:PySem.W.isFn K (.ref f)=true
 kp:PySem.W.keepIn K (.ref f)=true
def C_(I:Inv X U Z H s)(e:H a=some (.ins C dx fs))(c:C9 X.K C)(n:rj X.K C f)(l:fs.lookup f=some v)
  (h:∀u g,Inv X U Z H g->RelV v u->ae u g):wpAny (model X.prog X.w) A (getAttr (.ref a) f b) ae E s:=by
 obtain⟨mA,O,r,_,_,_⟩:=tB I.cL e;obtain⟨u,q,L⟩:=lN.some_of (v:=v) (o:=mA f) (by rw[<-l];exact r f);exact get_map I.nt O (c.get f) c.hd n q (Gf L) (h u _ (I.tok _) L)
def wX{Q:Value×List Value->Shared->Prop}(I:Inv X U Z H s)(e:H a=some (.ins C dx fs))(c:C9 X.K C)(k:Meth X.K C m g)(l:fs.lookup m=none)
  (h:Q (.ref g,[.ref a]) s):wpAny (model X.prog X.w) A (getMethod (.ref a) m pl) Q E s:=by
 obtain⟨mA,O,r,_,_,_⟩:=tB I.cL e;have L:mA m=none:=lN.none_of (by rw[<-l];exact r m);exact HG I.nt O (c.get m) k.at_ k.fn L h
def C'(I:Inv X U Z H s)(e:H a=some (.ins C dx fs))(c:C9 X.K C)(n:rj X.K C f)(hl:fs.length<1000)(ry:RelV y u)
  (h:∀M,Inv X U Z (upd H a (.ins C dx (mH f y fs))) M->ac () M):wpAny (model X.prog X.w) A (setAttr (.ref a) f u) ac E s:=by
 obtain⟨mA,O,r,S,_,ho⟩:=tB I.cL e;have hz:(fs.map (·.1)).length<=sizeLine:=by rw[aY,eW];omega
 refine K3 I.nt O c.sa c.po n.Sm c.hd S hz λh' L sb=>h _ ?_
 have hd:∃o,h'.get? dx=some o:=let⟨o,_,_,e',_⟩:=L.ns;⟨o,e'⟩
 refine I.write (x:=a) (e:=dx) (by rw[e];exact True.intro) (.inr ho) (λb q hb z=>(sb.2 b hb).trans z) hd ?_
 refine⟨by rwa[aN O.ne],?_,O.ne,L.obj,_,L.ns,λg=>?_,λg hg=>?_⟩
 .have:=vc f y fs;omega
 .show lN ((mH f y fs).lookup g) (if g=f then some u else mA g);rw[va];by_cases q:g=f
  .rwa[ay q,ay q]
  .rw[aE q,aE q];exact r g
 .by_cases q:g=f
  .rw[q];exact(uG f y fs).1
  .refine(uG f y fs).2 g (S g λz=>hg ?_);show(if g=f then some u else mA g)=none;rwa[aE q]
theorem Inv.made (I:Inv X U Z H s):Inv X U Z (upd (upd H s.heap.objs.size (.own (s.heap.objs.size+1))) (s.heap.objs.size+1) (.ins C s.heap.objs.size []))
  {s with heap:=(s.heap.push PySem.W.emptyDict).push (PySem.W.instObj C s.heap.objs.size)}:=by
 have L:(s.heap.push PySem.W.emptyDict).get? s.heap.objs.size=some PySem.W.emptyDict:=cQ s.heap rfl;have g:((s.heap.push PySem.W.emptyDict).push (PySem.W.instObj C s.heap.objs.size)).get? (s.heap.objs.size+1)=some (PySem.W.instObj C s.heap.objs.size):=by
  have:=cQ (s.heap.push PySem.W.emptyDict) (o:=PySem.W.instObj C s.heap.objs.size) rfl;rwa[pd]at this
 have r:(s.heap.push PySem.W.emptyDict).Ns s.heap.objs.size (λ_=>none):=⟨PySem.W.emptyDict,#[],_,L,rfl,(λe he=>absurd he (by simp)),λ_=>rfl⟩;have M:=I.laid (a:=s.heap.objs.size) (o:=.own (s.heap.objs.size+1)) (h':=s.heap.push PySem.W.emptyDict) (t':=s.toks) (λb u q=>cu _ q) (aZ _) ⟨_,L⟩;refine M.laid (a:=s.heap.objs.size+1) (o:=.ins C s.heap.objs.size []) (t':=s.toks) (λb u q=>cu _ q) (Nat.le_of_eq (pd _ _)) ?_
 have ne:s.heap.objs.size≠s.heap.objs.size+1:=cY (sO _);refine⟨by rw[aN ne,bA],hX _,ne,g,λ_=>none,(Heap.Ns1.of_empty r).at λo q=>cu _ q,λ_=>True.intro,λy S=>absurd rfl S⟩
def EB(hb:attributeBase e f env (eval e env)=eval e env)
  (h:wpAny (model prog w) A (eval e env) (λo b=>wpAny (model prog w) A (getAttr o f true) Q E b) E s):wpAny (model prog w) A (eval (.Attribute e f pos) env) Q E s:=
 Attribute_any_ h (by rw[arm_eval_Attribute,hb])
def VP(K:Frag)(b:TE)(f:Str):TE:=λZ H Q=>b Z H λx H1=>∃a C dx fs v,x=.ref a/\H1 a=some (.ins C dx fs)/\C9 K C/\rj K C f/\fs.lookup f=some v/\Q v H1
def VQ(K:Frag)(b g:TE)(f:Str):TS:=λD Z H=>g Z H λy H1=>b Z H1 λx H2=>∃a C dx fs,x=.ref a/\H2 a=some (.ins C dx fs)/\C9 K C/\rj K C f/\fs.length<1000/\
 D.nx Z (upd H2 a (.ins C dx (mH f y fs)))
theorem HI(he:PE X e b)(hb:attributeBase e f X.env (eval e X.env)=eval e X.env):PE X (.Attribute e f pos) (VP X.K b f):=by
 intro U s Z H Q I h;refine EB hb (ej (he U s Z H _ I h) λu s1 ⟨x,H1,L,g,a,C,dx,fs,v,ex,r,c,n,l,q⟩=>?_);subst ex;obtain rfl:u=Value.ref a:=g;exact C_ L r c n l λu' s2 M S=>⟨v,H1,M,S,q⟩
theorem Oz(b:PE X o g)(r:PE X value M)(hs:swapsWith value (some (.Attribute o f pos')) ah.line X.env=pure false):PS X (.Assign [.Attribute o f pos'] value ah) (VQ X.K g M f):=by
 intro U s Z H D I h;refine plainObj_wpAny_Assign_Attribute (ej (r U s Z H _ I h) λu s1 ⟨y,H1,L,S,q⟩=>ej (b U s1 Z H1 _ L q) λov s2 ⟨x,H2,I2,rx,a,C,dx,fs,ex,ea,c,n,l,q2⟩=>?_) hs;subst ex;obtain rfl:ov=Value.ref a:=rx;exact C' I2 ea c n l S λs3 I3=>⟨Z,_,I3,q2⟩
inductive vG(K:Frag)(H:Hp):V->Value->Prop where
 |bL:vG K H .bL (.type "NoneType")
 |bl (x:Bool):vG K H (.bl x) (.type "bool")
 |int (i:Int):vG K H (.int i) (.type "int")
 |str (x:Str):vG K H (.str x) (.type "str")
 |qi (x:UInt64):vG K H (.qi x) (.type "float")
 |lst {a:Addr} {xs:List V} (e:H a=some (.lst xs)):vG K H (.ref a) (.type "list")
 |kQ {a:Addr} {o:Obj} {xs:List V} (e:H a=some (.kQ o (.lst xs))):vG K H (.ref a) (.type "list")
 |tup {a:Addr} {xs:List V} (e:H a=some (.tup xs)):vG K H (.ref a) (.type "tuple")
 |dK {a:Addr} {kvs:List (Key×V)} (e:H a=some (.dK kvs)):vG K H (.ref a) (.type "dict")
 |dT {a:Addr} {kvs:List (List Key×V)} (e:H a=some (.dT kvs)):vG K H (.ref a) (.type "dict")
 |ins {a C dx:Addr} {fs:List (Str×V)} (e:H a=some (.ins C dx fs)) (cl:C9 K C) (ha:PySem.W.findIn K (.ref C) "__class__"=some (some (.builtin "object.__class__")))
   (hn:PySem.W.specialIn K (.builtin "object.__class__") "__get__"=some (some (.builtin "getset_descriptor.__get__"))) (Yh:PySem.W.takesIn K (.builtin "object.__class__")=some true)
   (hm:PySem.W.mroIn K C (.type "object")=some true):vG K H (.ref a) (.ref C)
theorem mI(I:Inv X U Z H s)(g:RelV x u)(ty:vG X.K H x t)(e:PySem.W.kitOne X.K t c=some b)(h:∀r,ae (.bool b) {s with toks:=r}):
  wpAny (model X.prog X.w) A (call (.builtin "isinstance") [u,c]) ae E s:=by
 cases ty with
 |bL=>cases(show u=Value.none from g);exact eV PySem.W.kitx_none I.nt True.intro e (λz=>nomatch z) h
 |bl y=>cases(show u=Value.bool y from g);exact eV PySem.W.kitx_bool I.nt True.intro e (λz=>nomatch z) h
 |int i=>obtain⟨t,q⟩:=(show∃t,u=Value.int i t from g);cases q;exact eV PySem.W.kitx_int I.nt True.intro e (λz=>nomatch z) h
 |str y=>obtain⟨t,q⟩:=(show∃t,u=Value.str y t from g);cases q;exact eV PySem.W.kitx_str I.nt True.intro e (λz=>nomatch z) h
 |qi y=>obtain⟨t,q⟩:=(show∃t,u=Value.float y t from g);cases q;exact eV PySem.W.kitx_float I.nt True.intro e (λz=>nomatch z) h
 |@lst a xs L=>
  cases(show u=Value.ref a from g);obtain⟨_,_,n,_,h1⟩:=(show cN X.prog X.w H s.heap a (.lst xs)from I.cL a _ L);exact eV wx I.nt ⟨_,h1,rfl⟩ e (λz=>nomatch z) h
 |@kQ a M xs L=>
  cases(show u=Value.ref a from g);obtain⟨_,_,_,n,_,h1⟩:=(show cN X.prog X.w H s.heap a (.kQ M (.lst xs))from I.cL a _ L);exact eV wx I.nt ⟨_,h1,rfl⟩ e (λz=>nomatch z) h
 |@tup a xs L=>
  cases(show u=Value.ref a from g);obtain⟨_,_,_,p⟩:=(show cN X.prog X.w H s.heap a (.tup xs)from I.cL a _ L);obtain⟨o,h1,h2,_⟩:=p;exact eV PySem.W.kitx_tuple I.nt ⟨o,h1,h2⟩ e (λz=>nomatch z) h
 |@dK a kvs L=>
  cases(show u=Value.ref a from g);obtain⟨_,_,vs,_,p⟩:=(show cN X.prog X.w H s.heap a (.dK kvs)from I.cL a _ L);obtain⟨o,es,ep,h1,h2,_⟩:=p;exact eV sJ I.nt ⟨o,h1,h2.1⟩ e (λz=>nomatch z) h
 |@dT a kvs L=>
  cases(show u=Value.ref a from g);obtain⟨_,_,xs,_,o,es,ep,h1,h2,_⟩:=(show cN X.prog X.w H s.heap a (.dT kvs)from I.cL a _ L);exact eV sJ I.nt ⟨o,h1,h2.1⟩ e (λz=>nomatch z) h
 |@ins a C dx fs L cl S hn Yh hm=>
  cases(show u=Value.ref a from g);obtain⟨mA,O,_⟩:=tB I.cL L;obtain⟨od,J,_⟩:=O.look;exact eV (PySem.W.kitx_own (cl.get _) cl.hd S hn Yh hm) I.nt J e (λz=>nomatch z) h
structure cZ(k:Nat)(A:Around):Prop where
 hd:A.handled=none
 dp:A.depth+3*k+5<recursionLimit
 un:A.units+16*k+200<cLine
def cZ.mono {j:Nat}(r:cZ k A)(h:j<=k):cZ j A:=⟨r.hd,by have:=r.dp;omega,by have:=r.un;omega⟩
theorem cZ.deeper {k:Nat}(r:cZ (k+1) A)(env:Env):cZ k (A.deeper env):=
 ⟨r.hd,by have:=r.dp;show A.depth+1+3*k+5<_;omega,by have:=r.un;show A.units+3+16*k+200<_;omega⟩
theorem cZ.in1 {k:Nat}(r:cZ (k+1) A):cZ k A.in1:=
 ⟨r.hd,by have:=r.dp;show A.depth+3*k+5<_;omega,by have:=r.un;show A.units+1+16*k+200<_;omega⟩
def Dc{A:Around}{kw:List (Str×Value)}:(A.under (.builtin "type.__call__" ⟨.ref C::ai,kw⟩)).depth=A.depth+1:=by
 first|rfl|simp[Around.under,Code.weight,Code.isCreation,Code.isGuard,Code.isCaller,Code.frames,Code.isFrame,guardIds]
def De{A:Around}{kw:List (Str×Value)}:(A.under (.builtin "type.__call__" ⟨.ref C::ai,kw⟩)).units=A.units+1:=by
 first|rfl|simp[Around.under,Code.cUnits,Code.frames,Code.isFrame]
def cZ.make {k:Nat}(r:cZ (k+1) A)(C:Addr)(us:List Value)(kw:List (Str×Value)):cZ k (A.under (.builtin "type.__call__" ⟨.ref C::us,kw⟩)):=
 ⟨r.hd,by have:=r.dp;rw[Dc];omega,by have:=r.un;rw[De];omega⟩
theorem cZ.depth (r:cZ k A):A.depth<recursionLimit:=by have:=r.dp;omega
theorem cZ.units (r:cZ k A):A.units+64<cLine:=by have:=r.un;omega
def OA:TA:=λ_ H Q=>Q [] H
def Sn(b:TE)(g:TA):TA:=λZ H Q=>b Z H λx H1=>g Z H1 λxs H2=>Q (x::xs) H2
def wY:PA X [] OA:=λ_ _ _ _ H Q I h=>sP ⟨[],H,I,.nil,h⟩
def qm(b:PE X ag g)(q:PA X es t)(hs:starEach (ag::es) X.env=(false,eval ag X.env)::starEach es X.env:=by rfl):PA X (ag::es) (Sn g t):=by
 intro pos U s Z H Q I h;rw[hs];show wpAny _ _ (spliced ((false,eval ag X.env)::backTo pos (starEach es X.env))) _ _ s;refine ml (ej (b U s Z H _ I h) λu s1 ⟨x,H1,L,r1,r⟩=>?_);exact ej (q pos U s1 Z H1 _ L r) λus s2 ⟨xs,H2,M,r2,S⟩=>⟨x::xs,H2,M,.cons r1 r2,S⟩
def VR(t:TA):TE:=λZ H Q=>t Z H λxs H1=>xs.length<=sizeLine/\∀p,H1 p=none->Q (.ref p) (upd H1 p (.tup xs))
def VS(t:TA):TE:=λZ H Q=>t Z H λxs H1=>xs.length<=sizeLine/\∀p,H1 p=none->Q (.ref p) (upd H1 p (.lst xs))
def OB{g}(h:PA X es t):PE X (.Tuple es g pos) (VR t):=by
 intro U s Z H Q I M;refine wpAny_Tuple_spliced (ej (h pos U s Z H _ I M) λus s1 ⟨xs,H1,L,r,z,q⟩=>⟨by rwa[<-r.length],?_⟩);have hf:H1 s1.heap.objs.size=none:=L.cL.fresh (aZ _);refine⟨.ref s1.heap.objs.size,upd H1 s1.heap.objs.size (.tup xs),L.laid (t':=s1.toks) (λb u e=>cu _ e) (aZ _) ?_,rfl,q _ hf⟩;exact⟨z,us,r,⟨_,cQ _ rfl,rfl,_,rfl,rfl⟩⟩
def HJ(h:PA X es t):PE X (.List es pos) (VS t):=by
 intro U s Z H Q I g;refine wpAny_List_spliced (ej (h pos U s Z H _ I g) λus s1 ⟨xs,H1,L,r,z,q⟩=>⟨by rwa[<-r.length],?_⟩);have hf:H1 s1.heap.objs.size=none:=L.cL.fresh (aZ _);refine⟨.ref s1.heap.objs.size,upd H1 s1.heap.objs.size (.lst xs),L.laid (t':=s1.toks) (λb u e=>cu _ e) (aZ _) ?_,rfl,q _ hf⟩;exact⟨z,us,0,r,cQ _ rfl⟩
abbrev Sp:=List V->Hp->VK->XK->Prop
abbrev K4:=List Env->Hp->Shared->XK->Value->Shared->Prop
structure yk(P:Program)(w:World)(K:Frag)(mg:Str->Option Value)(base:Heap)(A:Around)(outer:List Env)(s:Shared)(H:Hp):Prop where
 frames:A.frames=some outer
 mod:Mod K mg base
 bs:∀b o,base.get? b=some o->s.heap.get? b=some o/\H b=none
 F8:base.objs.size<=s.heap.objs.size
 qO:s.heap.FunFrames base outer
 Hq:∀b∈jB outer,H b=none
 cL:ri P w H s.heap
 bare:AllBare s.gens
def CE(outer:List Env)(P:Program)(w:World)(H:Hp)(s:Shared)(Q:VK)(u:Value)(b:Shared):Prop:=
 ∃v H',b.os=s.os/\AllBare b.gens/\Un (jB outer) [] H H' s.heap b.heap/\ri P w H' b.heap/\RelV v u/\Q v H'
def CR(CX:K4)(outer:List Env)(P:Program)(w:World)(H:Hp)(s:Shared)(Q:VK)(E:XK)(r:Result)(b:Shared):Prop:=
 match r with
 |.ok (.ret u)=>CE outer P w H s Q u b
 |.ok _=>False
 |.error e=>CX outer H s E e b
structure fL(P:Program)(w:World)(K:Frag)(mg:Str->Option Value)(base:Heap)(CX:K4)(k:Nat)(f:Addr)(fd:FuncData)(ps:List Str)(sp:Sp):Prop where
 len:∀vs H Q E,sp vs H Q E->vs.length=ps.length
 run:∀(A:Around) (outer:List Env) (s:Shared) (H:Hp) (args:Args) (us:List Value) (vs:List V) (Q:VK) (E:XK),cZ k A->yk P w K mg base A outer s H->BindsTo s fd args (ps.zip us)->Vals vs us->sp vs H Q E->
  codeAny (model P w) A (.call (.ref f) args) (CR CX outer P w H s Q E) s
theorem fL.mono {k:Nat}{fd:FuncData}(F:fL P w K mg base CX j f fd ps sp)(h:j<=k):
  fL P w K mg base CX k f fd ps sp:=⟨F.len,λA outer s H args us vs Q E L=>F.run A outer s H args us vs Q E (L.mono h)⟩
def yk.make (e:yk P w K mg base A outer s H)(C:Addr)(us:List Value)(kw:List (Str×Value)):
  yk P w K mg base (A.under (.builtin "type.__call__" ⟨.ref C::us,kw⟩)) outer s H:=⟨by first|exact e.frames|(simpa[Around.under,Code.envs,Code.isFrame,pushEnvs]using e.frames),e.mod,e.bs,e.F8,e.qO,e.Hq,e.cL,e.bare⟩
theorem yk.in1 (e:yk P w K mg base A outer s H):
  yk P w K mg base A.in1 outer s H:=⟨e.frames,e.mod,e.bs,e.F8,e.qO,e.Hq,e.cL,e.bare⟩
def Inv.OC (I:Inv X U Z H s):yk X.prog X.w X.K X.mg X.base X.A X.stack s H:=
 ⟨I.ok.frames,I.ok.mod,I.bs,bI I.ok.F8 I.sz,I.stack,I.vO,I.cL,I.bare⟩
def Inv.after (I:Inv X U Z H s)(h:CE X.stack X.prog X.w H s Q u s'):EP X U Z Q u s':=by
 obtain⟨v,H',os,bare,un,cL,r,q⟩:=h;obtain⟨L,g,d,t,M⟩:=s';obtain rfl:M=s.os:=os;exact⟨v,H',I.call (h':=L) (g':=g) (d':=d) (t':=t) (ch:=[]) un cL bare (λb z=>absurd z (by simp)),r,q⟩
def Nf(sp:Sp)(b:List V)(E:XK)(t:TA):TE:=λZ H Q=>t Z H λvs H1=>sp (vs++b) H1 Q E
def Ng(C:Addr)(m:Str)(sp:Sp)(b:List V)(E:XK)(g:TE)(t:TA):TE:=λZ H Q=>g Z H λx H1=>∃a dx fs,x=.ref a/\H1 a=some (.ins C dx fs)/\fs.lookup m=none/\
 t Z H1 λvs H2=>sp (x::(vs++b)) H2 Q E
def Nh(C:Addr)(sp:Sp)(b:List V)(E:XK)(t:TA):TE:=λZ H Q=>t Z H λvs H1=>∀x dx,H1 x=none->H1 dx=none->dx≠x->
 sp (.ref x::(vs++b)) (upd (upd H1 dx (.own x)) x (.ins C dx [])) (λv H2=>v=.bL/\Q (.ref x) H2) E
def Binds(K:Frag)(fd:FuncData)(ps:List Str)(ds:List Value):Prop:=
 ∀(s:Shared) (us:List Value),K.In s.heap->(us++ds).length=ps.length->BindsTo s fd ⟨us,[]⟩ (ps.zip (us++ds))
def Binds.all {fd:FuncData}{ps:List Str}(h:∀us:List Value,us.length=ps.length->bindArgs fd ⟨us,[]⟩=pure (ps.zip us)):Binds K fd ps []:=λs us _ L=>by
 rw[hW]at L⊢;exact .of_eq (h us L)
def Passes(CX:K4)(X:Cx)(E:XK):Prop:=∀(U:List (Addr×Obj)) (Z:St) (H:Hp) (s:Shared) (e:Value) (L:Shared),Inv X U Z H s->CX X.stack H s E e L->X.xe e L
def Dg{X:Cx}(F:fL X.prog X.w X.K X.mg X.base CX k f aj ps sp)(q:cZ k X.A)(hb:Binds X.K aj ps ds)(hd:Vals b ds)(M:Passes CX X E)
  (I:Inv X U Z H s) (r:Vals vs us) (h:sp (vs++b) H Q E):wpAny (model X.prog X.w) X.A (call (.ref f) us) (EP X U Z Q) X.xe s:=by
 have g:Vals (vs++b) (us++ds):=r.append hd;have S:(us++ds).length=ps.length:=by rw[<-g.length];exact F.len _ _ _ _ h
 refine wpAny_call (pf (F.run X.A X.stack s H ⟨us,[]⟩ (us++ds) (vs++b) Q E q I.OC (hb s us I.nt S) g h) λr s' L=>?_);cases r with
 |error e=>exact M U Z H s e s' I L
 |ok fl=>
  cases fl with
  |ret u=>exact I.after L
  |_=>exact False.elim L
def EC{X:Cx}(F:fL X.prog X.w X.K X.mg X.base CX k f aj ps sp)(b:cZ k X.A)(g:Gl X x)(hm:X.mg x=some (.ref f))(M:PySem.W.keepIn X.K (.ref f)=true)(hb:Binds X.K aj ps ds)(hd:Vals S ds)(hx:Passes CX X E)
  (ha:PA X (ag::af) t) (iH:Db x:=by decide) (he:starEach (ag::af) X.env=(false,eval ag X.env)::starEach af X.env:=by rfl) (yF:(backTo pos (starEach af X.env)).any (·.1)=false:=by rfl):
  PE X (.Call (.Name x p) (ag::af) [] pos) (Nf sp S E t):=by
 intro U s Z H Q I h;refine mn (qj I g hm ?_ iH);refine wq (h₀:=X.base) I.ok.mod.N_ M (ej (ha pos U s Z H _ I h) λus s1 ⟨vs,H1,L,r,q⟩=>⟨L.nt,?_⟩) he yF;exact Dg F b hb hd hx L r q
theorem ED{e:Expr}(he:PE X o g)(c:C9 X.K C)(hm:Meth X.K C m f)(F:fL X.prog X.w X.K X.mg X.base CX k f aj ps sp)(M:cZ k X.A)(hb:Binds X.K aj ps ds)(hd:Vals S ds)(hx:Passes CX X E)(ha:PA X (e::af) t)
  (cU:starEach (e::af) X.env=(false,eval e X.env)::starEach af X.env:=by rfl) (yF:(backTo pos (starEach af X.env)).any (·.1)=false:=by rfl)
  (ht:eval (.Call (.Attribute o m b9) (e::af) [] pos) X.env=yh pos b9 o m (e::af) X.env pl:=by rfl):
  PE X (.Call (.Attribute o m b9) (e::af) [] pos) (Ng C m sp S E g t):=by
 intro U s Z H Q I h;refine PySem.W.methodCall_KW (pl:=pl) (ej (he U s Z H _ I h) λu s1 ⟨x,H1,L,rx,a,dx,fs,ex,ea,l,q⟩=>?_) ht;subst ex;obtain rfl:u=Value.ref a:=rx;refine wX L ea c hm l ?_
 refine wq (first:=[.ref a]) (h₀:=X.base) I.ok.mod.N_ hm.kp (ej (ha pos U s1 Z H1 _ L q) λus s2 ⟨vs,H2,b,r,q2⟩=>⟨b.nt,?_⟩) cU yF;exact Dg (us:=.ref a::us) (vs:=.ref a::vs) F M hb hd hx b (.cons rfl r) q2
theorem AU(he:PE X o b)(c:C9 X.K C)(hm:Meth X.K C m f)(F:fL X.prog X.w X.K X.mg X.base CX k f aj ps sp)(g:cZ k X.A)(hb:Binds X.K aj ps ds)(hd:Vals r ds)(M:Passes CX X E)
  (S:eval (.Call (.Attribute o m b9) [] [] pos) X.env=yh pos b9 o m [] X.env pl:=by rfl):
  PE X (.Call (.Attribute o m b9) [] [] pos) (Ng C m sp r E b OA):=by
 intro U s Z H Q I h;refine PySem.W.methodCall_KW (pl:=pl) (ej (he U s Z H _ I h) λu s1 ⟨x,H1,L,rx,a,dx,fs,ex,ea,l,q⟩=>?_) S;subst ex;obtain rfl:u=Value.ref a:=rx;refine wX L ea c hm l ?_
 exact PySem.W.callWith_K0 (first:=[.ref a]) L.nt hm.kp (Dg (us:=[.ref a]) (vs:=[.ref a]) F g hb hd M L (.cons rfl .nil) q)
structure Mk(K:Frag)(C f:Addr):Prop where
 makes:PySem.W.makesIn K C=true
 init:PySem.W.findIn K (.ref C) "__init__"=some (some (.ref f))
 fn:PySem.W.isFn K (.ref f)=true
 kp:PySem.W.keepIn K (.ref C)=true
theorem AV{X:Cx}{Q:VK}(M:Mk X.K C f)(F:fL X.prog X.w X.K X.mg X.base CX k f aj ps sp)(hr:cZ (k+1) X.A)(hb:Binds X.K aj ps ds)(hd:Vals g ds)
  (hx:Passes CX X E) (I:Inv X U Z H s) (r:Vals vs us)
  (h:∀x dx,H x=none->H dx=none->dx≠x->sp (.ref x::(vs++g)) (upd (upd H dx (.own x)) x (.ins C dx [])) (λv H2=>v=.bL/\Q (.ref x) H2) E):
  wpAny (model X.prog X.w) X.A (call (.ref C) us) (EP X U Z Q) X.xe s:=by
 have q:=h (s.heap.objs.size+1) s.heap.objs.size (I.cL.fresh (sW _)) (I.cL.fresh (aZ _)) (cY (sO _));have L:=Inv.made (C:=C) I;have S:Vals (V.ref (s.heap.objs.size+1)::(vs++g)) (Value.ref (s.heap.objs.size+1)::(us++ds)):=.cons rfl (r.append hd);have hl:(Value.ref (s.heap.objs.size+1)::us++ds).length=ps.length:=by
  have e:=S.length;rw[F.len _ _ _ _ q]at e;exact e.symm
 refine wpAny_call (HH (f:=f) I.nt M.makes M.init (fG.mp M.fn) (pf (F.run _ X.stack _ _ ⟨Value.ref (s.heap.objs.size+1)::us,[]⟩ (Value.ref (s.heap.objs.size+1)::(us++ds)) _ _ E (hr.make C us [])
  (L.OC.make C us []) (hb _ (Value.ref (s.heap.objs.size+1)::us) L.nt hl) S q) λr s' b=>?_))
 cases r with
 |error e=>exact hx U Z _ _ e s' L b
 |ok fl=>
  cases fl with
  |ret u=>
   obtain⟨v,H',I3,rv,ev,q3⟩:=L.after b;subst ev;exact⟨rv,⟨V.ref (s.heap.objs.size+1),H',I3,rfl,q3⟩⟩
  |_=>exact False.elim b
def K5{X:Cx}(M:Mk X.K C f)(F:fL X.prog X.w X.K X.mg X.base CX k f aj ps sp)(b:cZ (k+1) X.A)(g:Gl X x)(hm:X.mg x=some (.ref C))(hb:Binds X.K aj ps ds)(hd:Vals S ds)(hx:Passes CX X E)
  (ha:PA X (ag::af) t) (iH:Db x:=by decide) (he:starEach (ag::af) X.env=(false,eval ag X.env)::starEach af X.env:=by rfl) (yF:(backTo pos (starEach af X.env)).any (·.1)=false:=by rfl):
  PE X (.Call (.Name x p) (ag::af) [] pos) (Nh C sp S E t):=by
 intro U s Z H Q I h;refine mn (qj I g hm ?_ iH);refine wq (h₀:=X.base) I.ok.mod.N_ M.kp (ej (ha pos U s Z H _ I h) λus s1 ⟨vs,H1,L,r,q⟩=>⟨L.nt,?_⟩) he yF;exact AV M F b hb hd hx L r q
def HK{X:Cx}(M:Mk X.K C f)(F:fL X.prog X.w X.K X.mg X.base CX k f aj ps sp)(b:cZ (k+1) X.A)(g:Gl X x)(hm:X.mg x=some (.ref C))(hb:Binds X.K aj ps ds)(hd:Vals q ds)(r:Passes CX X E)
  (iH:Db x:=by decide):PE X (.Call (.Name x p) [] [] pos) (Nh C sp q E OA):=by
 intro U s Z H Q I h;refine mn (qj I g hm ?_ iH);exact PySem.W.callWith_K0 I.nt M.kp (AV (us:=[]) M F b hb hd r I .nil h)
structure gC(N P:List Str)(sc:Scope):Prop where
 kind:sc.kind=.function
 co:sc.isCoroutine=false
 gen:sc.isGenerator=false
 nd:N.Nodup
 pre:N.take P.length=P
 par:∀x∈P,sc.names.lookup x=some .local\/sc.names.lookup x=some .cell
 OD:∀y∈sc.names,y.2≠ .free
theorem yG{kindOf:Str->Option NameKind}{x:Str}:∀{binds:List (Str×Value)} {m:Str->Option Value},(∀v,(x,v)∉binds)->bindL kindOf binds m x=m x
 |[],_,_=>rfl
 |(n,v)::r,m,h=>by
  unfold bindL;rw[yG λw hw=>h w (cw _ hw)];split
  .have:x≠n:=by rintro rfl;exact h v cJ
   simp[this]
  .rfl
theorem yH{kindOf:Str->Option NameKind}{x:Str}:∀{binds:List (Str×Value)} {m:Str->Option Value},(∀v,(x,v)∉binds)->bindC kindOf binds m x=m x
 |[],_,_=>rfl
 |(n,v)::r,m,h=>by
  unfold bindC;rw[yH λw hw=>h w (cw _ hw)];split
  .rfl
  .have:x≠n:=by rintro rfl;exact h v cJ
   simp[this]
theorem yI{kindOf:Str->Option NameKind}:∀{P:List Str} {vs:List Value} {i:Nat} {m:Str->Option Value},P.Nodup->P[i]?=some x->vs[i]?=some v->kindOf x=some .local->
  bindL kindOf (P.zip vs) m x=some v
 |[],_,_,_,_,h,_,_=>by simp at h
 |_::_,[],_,_,_,_,h,_=>by simp at h
 |p::P,w::vs,0,m,nd,h1,h2,L=>by
  simp at h1 h2;subst h1;subst h2;show bindL kindOf ((p,w)::P.zip vs) m p=_;unfold bindL;rw[yG λv b=>(jK.mp nd).1 (wG b).1,ay L];simp
 |p::P,w::vs,i+1,m,nd,h1,h2,L=>by
  show bindL kindOf ((p,w)::P.zip vs) m x=_;unfold bindL;exact yI (i:=i) (jK.mp nd).2 (by simpa using h1) (by simpa using h2) L
theorem yJ{kindOf:Str->Option NameKind}:∀{P:List Str} {vs:List Value} {i:Nat} {m:Str->Option Value},P.Nodup->P[i]?=some x->vs[i]?=some v->kindOf x≠some .local->
  bindC kindOf (P.zip vs) m x=some v
 |[],_,_,_,_,h,_,_=>by simp at h
 |_::_,[],_,_,_,_,h,_=>by simp at h
 |p::P,w::vs,0,m,nd,h1,h2,L=>by
  simp at h1 h2;subst h1;subst h2;show bindC kindOf ((p,w)::P.zip vs) m p=_;unfold bindC;rw[yH λv b=>(jK.mp nd).1 (wG b).1,aE L];simp
 |p::P,w::vs,i+1,m,nd,h1,h2,L=>by
  show bindC kindOf ((p,w)::P.zip vs) m x=_;unfold bindC;exact yJ (i:=i) (jK.mp nd).2 (by simpa using h1) (by simpa using h2) L
noncomputable def start(N:List Str)(vs:List V):St:=vs.map some++List.replicate (N.length - vs.length) none
noncomputable def oN(CX:K4)(P:Program)(w:World)(K:Frag)(mg:Str->Option Value)(base:Heap)(N:List Str)(qual:Str)(scope:Scope)(f:Addr)(cd:Value)(A:Around)(outer:List Env)(s:Shared)(H:Hp)(E:XK):Cx where
 prog:=P
 w:=w
 K:=K
 mg:=mg
 base:=base
 A:=A.deeper (envOfC qual scope s.heap.objs.size f cd)
 N:=N
 g_:=s
 AN:=H
 env:=envOfC qual scope s.heap.objs.size f cd
 outer:=outer
 stack:=envOfC qual scope s.heap.objs.size f cd::outer
 ex:=[]
 calm:=true
 fn:=λ_=>true
 pn:=[]
 xe:=λe b=>wpAny (model P w) (A.deeper (envOfC qual scope s.heap.objs.size f cd)) (leaving (envOfC qual scope s.heap.objs.size f cd) e) (λ_ L=>CX outer H s E e L) (λg L=>CX outer H s E g L) b
def AW{sc:Scope}(h:sc.names.lookup x=some .cell):∃c,(cellsFrom n sc.names []).lookup x=some c:=by
 have q:=PySem.W.cellsFrom_some sc.names n [] (.inl h);exact sA.mp q
theorem Gg{A:Around}{vs:List V}
  (S:gC N ps scope) (hd:A.handled=none) (g:yk P w K mg base A outer s H) (hl:vs.length=ps.length) (r:Vals vs us)
  (x:InCallC s s.heap.objs.size (bindL (envOfC qual scope s.heap.objs.size f cd).kindOf (ps.zip us) λ_=>none) (cellsFrom (s.heap.objs.size+1) scope.names []) (bindC (envOfC qual scope s.heap.objs.size f cd).kindOf (ps.zip us) λ_=>none) s1):
  Inv (oN CX P w K mg base N qual scope f cd A outer s H E) [] (start N vs) H s1:=by
 have yF:ps.length<=N.length:=by have:=cR List.length S.pre;rw[List.length_take]at this;omega
 obtain⟨h1,tk,rfl,hk⟩:=x.done;have Sq:∀b:Addr,b∉(oN CX P w K mg base N qual scope f cd A outer s H E).ex:=λb z=>absurd (show b∈([]:List Addr)from z) (by simp);refine⟨⟨g.mod,S.kind,rfl,rfl,aZ _,λy z c h1 L=>?_,λy I=>?_,λy c _ h=>?_,λ_=>hd,Around.frames_deeper g.frames,.inr ⟨rfl,rfl⟩,λb z=>absurd z (Sq b),g.bs,g.F8,λb _ _=>Sq b,λb z=>absurd z (Sq b),g.qO,g.Hq⟩,
  rfl,g.bare,Un.kept hk,⟨_,x.toInCall.ns,λi y v h1 L h3=>?_⟩,λy c h=>⟨_,x.cell y c h⟩,g.cL.fresh (aZ _),λy c h=>?_,λp M=>absurd (show p∈([]:List (Addr×Obj))from M) (by simp),g.cL.kept hk,?_⟩
 .exact name_of_addr x.apart (kZ h1) (kZ L)
 .have I:scope.names.lookup y=some .cell\/scope.names.lookup y=some .free:=I;rcases I with I|I
  .exact AW I
  .exact absurd rfl (S.OD _ (kZ I))
 .exact cG (x.above y c (kZ h))
 .have hi:i<vs.length:=by
   unfold start at L;by_cases hi:i<vs.length
   .exact hi
   .rw[v9 (by simpa using hi)]at L;rw[sC]at L;split at L<;>cases L
  have ha:vs[i]?=some v:=by
   unfold start at L;rw[p_ (by simpa using hi),b_]at L;cases e:vs[i]? with
   |none=>rw[e]at L;cases L
   |some a=>rw[e]at L;cases L;rfl
  obtain⟨u,hu,rv⟩:=r.get ha;have M:ps[i]?=some y:=by
   rwa[<-S.pre,List.getElem?_take_of_lt (by omega)]
  have Yi:ps.Nodup:=by rw[<-S.pre];exact S.nd.sublist (List.take_sublist _ _)
  refine⟨u,rv,?_⟩;rcases S.par y (eQ M)with k|k
  .exact .inl ⟨k,yI Yi M hu k⟩
  .obtain⟨c,e⟩:=AW (n:=s.heap.objs.size+1) k;refine .inr ⟨.inl k,c,e,?_⟩;have q:=x.cell y c e;rw[yJ Yi M hu (by show scope.names.lookup y≠_;rw[k];decide)]at q;exact q
 .exact g.cL.fresh (cG (x.above y c (kZ h)))
 .unfold start;show _=N.length;rw[dI,aY,we];omega
def Ni{kV oc:Value}{od:Option Addr}
  {HL:Array (Option Value)} {sp:Sp} (lk:K.lookup f=some ⟨oc,od,.func (PySem.W.fnOf name qual params body scope dV kV doc pm an g ct),HL⟩) (F3:PySem.W.codeIn K g qual=true) (S:gC N ps scope)
  (len:∀vs H Q E,sp vs H Q E->vs.length=ps.length)
  (kr:∀(A:Around) (outer:List Env) (s:Shared) (H:Hp) (vs:List V) (Q:VK) (E:XK),cZ k (A.deeper (envOfC qual scope s.heap.objs.size f g))->sp vs H Q E->
   ∃t,yb (oN CX P w K mg base N qual scope f g A outer s H E) body t/\t {nx:=λ_ H'=>Q .bL H',rt:=Q} (start N vs) H):
  fL P w K mg base CX (k+1) f (PySem.W.fnOf name qual params body scope dV kV doc pm an g ct) ps sp:=by
 refine⟨len,λA outer s H args us vs Q E M L hb r HM=>?_⟩;have hl:=len _ _ _ _ HM;have KX:K.In s.heap:=L.mod.N_.keeps λb o e=>(L.bs b o e).1;have lim:s.heap.NoLimit:=L.mod.nolimit.keeps λb o e=>(L.bs b o e).1;have Sr:∀y∈ps.zip us,scope.names.lookup y.1=some .local\/(scope.names.lookup y.1=some .cell/\((cellsFrom (s.heap.objs.size+1) scope.names []).lookup y.1).isSome=true):=λ⟨n,v⟩ hy=>by
  rcases S.par n (wG hy).1 with q|q
  .exact .inl q
  .exact .inr ⟨q,PySem.W.cellsFrom_some _ _ _ (.inl q)⟩
 refine codeAny_call_function M.depth (KX _ _ lk) rfl S.co S.gen rfl (PySem.W.codeRec_of KX F3) (hb _ _ _ _ ?_);refine wpAny_newFunctionEnv_cells S.kind Sr λenv he s1 x=>?_
 subst he;refine⟨lim.keeps x.toInCall.keep,codeAny_func ?_⟩;obtain⟨t,ht,hq⟩:=kr A outer s H vs Q E (M.deeper _) HM;have I:Inv (oN CX P w K mg base N qual scope f g A outer s H E) [] (start N vs) H s1:=Gg S M.hd L hl r x;refine d8 (ht [] s1 (start N vs) H _ I hq) (λfl s' hs=>?_) λe s' hs=>hs;have fin:∀{dy:St} {H':Hp} {v:V} {u:Value},Inv (oN CX P w K mg base N qual scope f g A outer s H E) [] dy H' s'->RelV v u->Q v H'->CE outer P w H s Q u s':=
  λ{dy H' v u} J rv q=>⟨v,H',J.os,J.bare,J.base,J.cL,rv,q⟩
 cases fl with
 |ret u=>
  obtain⟨v,dy,H',J,rv,q⟩:=hs;exact fin J rv q
 |next=>
  obtain⟨dy,H',J,q⟩:=hs;exact fin (v:=V.bL) (u:=Value.none) J rfl q
 |brk=>
  obtain⟨_,_,_,q⟩:=hs;exact False.elim q
 |cont=>
  obtain⟨_,_,_,q⟩:=hs;exact False.elim q
def U5(r:List V->Hp->VK->Prop)(t:TA):TE:=λZ H Q=>t Z H λvs H1=>r vs H1 Q
def tD{id:String}(b:gY X (.builtin id) r)(g:Gl X x)(hm:X.mg x=none)(q:bootBuiltins x=some (.builtin id))(M:PA X (ag::af) t)(S:x≠"__name__":=by decide) (iH:Db x:=by decide)
  (he:starEach (ag::af) X.env=(false,eval ag X.env)::starEach af X.env:=by rfl) (yF:(backTo pos (starEach af X.env)).any (·.1)=false:=by rfl):PE X (.Call (.Name x p) (ag::af) [] pos) (U5 r t):=by
 intro U s Z H Q I h;refine mn (wR I g hm q ?_ S iH);exact PyProof.Rows.callWith_builtin1 (ej (M pos U s Z H _ I h) λus s1 ⟨vs,H1,L,r1,q1⟩=>b U s1 Z H1 vs us Q L r1 q1) he yF
def qq(b:gY X (.type T) r)(g:Gl X x)(hm:X.mg x=none)(q:bootBuiltins x=some (.type T))(M:PA X (ag::af) t)(S:x≠"__name__":=by decide) (iH:Db x:=by decide)
  (he:starEach (ag::af) X.env=(false,eval ag X.env)::starEach af X.env:=by rfl) (yF:(backTo pos (starEach af X.env)).any (·.1)=false:=by rfl):PE X (.Call (.Name x p) (ag::af) [] pos) (U5 r t):=by
 intro U s Z H Q I h;refine mn (wR I g hm q ?_ S iH);exact AI (ej (M pos U s Z H _ I h) λus s1 ⟨vs,H1,L,r1,q1⟩=>b U s1 Z H1 vs us Q L r1 q1) he yF
abbrev TO:=St->Hp->(Option Int->Hp->Prop)->Prop
def PO(X:Cx)(e:Option Expr)(t:TO):Prop:=
 ∀(U:List (Addr×Obj)) (s:Shared) (Z:St) (H:Hp) (Q:Option Int->Hp->Prop),Inv X U Z H s->t Z H Q->
  wpAny (model X.prog X.w) X.A (evalPart e X.env) (λu L=>∃o H',Inv X U Z H' L/\IsPart u o/\Q o H') X.xe s
def K6:TO:=λ_ H Q=>Q none H
def Ss(t:TE):TO:=λZ H Q=>t Z H λx H1=>∃i,x=.int i/\Q (some i) H1
def K7:PO X none K6:=by
 intro U s Z H Q I h;rw[evalPart_none];exact bo ⟨none,H,I,.none,h⟩
def K8(h:PE X e b):PO X (some e) (Ss b):=by
 intro U s Z H Q I hw;rw[evalPart_some];refine ej (h U s Z H _ I hw) λu s1 ⟨x,H1,L,r1,g⟩=>?_
 obtain⟨i,rfl,q⟩:=g;obtain⟨t,rfl⟩:=r1;exact⟨some i,H1,L,.int i t,q⟩
def Rj(X:Cx)(r:V->Option Int->Option Int->Hp->VK->Prop):Prop:=
 ∀(U:List (Addr×Obj)) (s:Shared) (Z:St) (H:Hp) (x:V) (v L b:Value) (lo hi:Option Int) (g:Addr) (Q:VK),Inv X U Z H s->RelV x v->s.heap.IsSliceOf g L b .none->IsPart L lo->IsPart b hi->r x lo hi H Q->
  ∃T id,typeLookup (.type T) "__getitem__"=pure (some (.builtin id))/\s.TypeIs v T/\wpAny (model X.prog X.w) X.A (getItem v (.ref g)) (EP X U Z Q) X.xe s
def Zx(r:V->Option Int->Option Int->Hp->VK->Prop)(b:TE)(g q:TO):TE:=λZ H Q=>b Z H λx H1=>g Z H1 λl H2=>q Z H2 λu L=>r x l u L Q
theorem HN{lo:Option Expr}(S:Rj X r)(he:PE X e te)(hl:PO X lo tl)(hu:PO X hi th):PE X (.Subscript e (.Slice lo hi none p2) pos) (Zx r te tl th):=by
 intro U s Z H Q I h;refine Subscript_ (ej (he U s Z H _ I h) λv s1 ⟨x,H1,I1,r1,q1⟩=>?_);refine wpAny_Slice (ej (hl U s1 Z H1 _ I1 q1) λL s2 ⟨l,H2,I2,pl,q2⟩=>ej (hu U s2 Z H2 _ I2 q2) λg s3 ⟨u,M,I3,pu,q3⟩=>?_);rw[evalPart_none];refine bo ?_
 have I4:Inv X U Z M {s3 with heap:=s3.heap.push {cls:=.type "slice",data:=.fields #[L,g,.none]}}:=I3.kept (t':=s3.toks) λb ob q=>cu _ q;obtain⟨T,id,hT,ht,hg⟩:=S U {s3 with heap:=s3.heap.push {cls:=.type "slice",data:=.fields #[L,g,.none]}} Z M x v L g l u s3.heap.objs.size Q I4 r1 (Heap.IsSliceOf.new ..) pl pu q3;show wpAny (model X.prog X.w) X.A (subscriptTail e (.Slice lo hi none p2) v (.ref s3.heap.objs.size)) (EP X U Z Q) X.xe {s3 with heap:=s3.heap.push {cls:=.type "slice",data:=.fields #[L,g,.none]}};exact tail_any (ops:=[.ref s3.heap.objs.size,v]) ht hT hg (by with_unfolding_all rfl)
def AX(xs:List V)(lo hi:Option Int):List V:=(xs.drop (HT.gL xs.length 0 lo)).take (HT.gL xs.length xs.length hi - HT.gL xs.length 0 lo)
def vd(xs:List V)(lo hi:Option Int):(AX xs lo hi).length<=xs.length:=by
 unfold AX;rw[List.length_take,List.length_drop];omega
def VT(K:Frag):V->Option Int->Option Int->Hp->VK->Prop:=λx lo hi H Q=>∃a xs,x=.ref a/\mf K H a xs/\
 ¬(HT.gL xs.length 0 lo=0/\HT.gL xs.length xs.length hi=xs.length)/\∀p,H p=none->Q (.ref p) (upd H p (.tup (AX xs lo hi)))
def OF:Rj X (VT X.K):=by
 intro U s Z H x v vl vu lo hi sl Q I M hs pl pu h;obtain⟨a,xs,rfl,S,hw,q⟩:=h;cases M;obtain⟨bM,r,g,hz⟩:=I.tuple S;have L:bM.toArray.size=xs.length:=by rw[cE];exact r.length.symm
 refine⟨"tuple",_,wa.lookup,g.typeIs,?_⟩;refine HT.sX g hs pl pu (by rwa[L]) ?_ (by rwa[L])
 rw[L];refine⟨.ref s.heap.objs.size,_,I.laid (t':=s.toks) (o:=.tup (AX xs lo hi)) (λb ob q=>cu _ q) (aZ _) ?_,rfl,q _ (I.cL.fresh (aZ _))⟩;exact⟨bI (vd xs lo hi) hz,_,(r.drop (HT.gL xs.length 0 lo)).take (HT.gL xs.length xs.length hi - HT.gL xs.length 0 lo),pj.new _ _⟩
def Su(K:Frag):R2:=λx y H Q=>∃a b xs ys,x=.ref a/\y=.ref b/\mf K H a xs/\mf K H b ys/\xs≠[]/\xs.length+ys.length<=sizeLine/\
 (ys=[]->Q (.ref a) H)/\(ys≠[]->∀p,H p=none->Q (.ref p) (upd H p (.tup (xs++ys))))
def Vals.zF (r:Vals xs us):us=[]↔xs=[]:=by
 cases r with
 |_=>simp
def K9:sr X (binaryOp .Add) (Su X.K):=by
 intro U s Z H x y v u Q I L g h;obtain⟨a,b,xs,ys,rfl,rfl,ha,hb,r,hz,M,S⟩:=h;cases L;cases g;obtain⟨bM,r1,p1,_⟩:=I.tuple ha;obtain⟨Dh,r2,p2,_⟩:=I.tuple hb;refine HT.KC p1 p2 (λz=>r (r1.zF.mp z)) (λz=>⟨.ref a,H,I,rfl,M (r2.zF.mp z)⟩) (λz=>?_) (by rwa[<-r1.length,<-r2.length]);refine⟨.ref s.heap.objs.size,_,I.laid (t':=s.toks) (o:=.tup (xs++ys)) (λb ob q=>cu _ q) (aZ _) ?_,rfl,S (λw=>z (r2.zF.mpr w)) _ (I.cL.fresh (aZ _))⟩;exact⟨by rwa[dI],_,r1.append r2,pj.new _ _⟩
noncomputable def Kx(n:Nat)(i:Int):Option Nat:=if 0<=i then(if i<n then some i.toNat else none)else if-(n:Int)<=i then some (i+n).toNat else none
def rn{α:Type}(xs:List α)(i:Int):Option α:=(Kx xs.length i).bind λj=>xs[j]?
theorem K_{n:Nat}(h:Kx n i=some j):seqIndex? i n=some j/\j<n/\-(n:Int)<=i/\i<n:=by
 unfold Kx at h;by_cases h0:0<=i
 .rw[ay h0]at h;by_cases h1:i<n
  .rw[ay h1]at h;have e:i.toNat=j:=Option.some.inj h;exact⟨by rw[seqIndex_of h0 h1,e],by omega,by omega,h1⟩
  .rw[aE h1]at h;cases h
 .rw[aE h0]at h;by_cases h1:-(n:Int)<=i
  .rw[ay h1]at h;have e:(i+n).toNat=j:=Option.some.inj h;exact⟨by rw[seqIndex_neg (by omega) h1,e],by omega,h1,by omega⟩
  .rw[aE h1]at h;cases h
def zG{xs:List α}{v:α}(h:rn xs i=some v):∃j,seqIndex? i xs.length=some j/\xs[j]?=some v/\j<xs.length/\-(xs.length:Int)<=i/\i<xs.length:=by
 unfold rn at h;cases e:Kx xs.length i with
 |none=>rw[e]at h;cases h
 |some j=>
  rw[e]at h;obtain⟨h1,h2,L,b⟩:=K_ e;exact⟨j,h1,h,h2,L,b⟩
def nv{xs:List α}{j:Nat}{v:α}(h:xs[j]?=some v):rn xs (j:Int)=some v:=by
 have L:j<xs.length:=(gy.mp h).1;have e:Kx xs.length (j:Int)=some j:=by
  unfold Kx;rw[ay (by omega),ay (by omega)];simp
 unfold rn;rwa[e]
def zH(b:Expr):Prop:=∀o i,subscripted b false o i=operate [o,i] (getItem o i)
def Sv(X:Cx)(r:R2):Prop:=
 ∀(value slice:Expr) (U:List (Addr×Obj)) (s:Shared) (Z:St) (H:Hp) (x y:V) (v u:Value) (Q:VK),Inv X U Z H s->RelV x v->RelV y u->r x y H Q->
  subscripted slice false v u=operate [v,u] (getItem v u)->wpAny (model X.prog X.w) X.A (subscriptTail value slice v u) (EP X U Z Q) X.xe s
def Nj(X:Cx)(id:String)(r:V->List V->Hp->VK->Prop):Prop:=
 ∀(U:List (Addr×Obj)) (s:Shared) (Z:St) (H:Hp) (x:V) (xs:List V) (v:Value) (us:List Value) (Q:VK),Inv X U Z H s->RelV x v->Vals xs us->r x xs H Q->
  wpAny (model X.prog X.w) X.A (call (.builtin id) (v::us)) (EP X U Z Q) X.xe s
def Nk(g:Sv X r)(M:PE X a S)(hb:PE X b tb)(hs:zH b):PE X (.Subscript a b pos) (Om r S tb):=by
 intro U s Z H Q I h;exact Subscript_ (Oo M hb I h λv u s2 x y H2 L rx ry q=>g a b U s2 Z H2 x y v u Q L rx ry q (hs _ _))
def VU(K:Frag):R2:=λx y H Q=>∃p xs i v,x=.ref p/\y=.int i/\lj K H p xs/\rn xs i=some v/\Q v H
def VW(K:Frag):R2:=λx y H Q=>∃p xs i v,x=.ref p/\y=.int i/\mf K H p xs/\rn xs i=some v/\Q v H
def VX:R2:=λx y H Q=>∃z i c,x=.str z/\y=.int i/\z.length<=sizeLine/\rn z.cps.toList i=some c/\Q (.str ⟨#[c]⟩) H
theorem EE:Sv X (VU X.K):=by
 intro value slice U s Z H x y v u Q I g M h hs;obtain⟨p,xs,i,z,rfl,rfl,S,he,q⟩:=h;cases g;obtain⟨t,rfl⟩:=M;obtain⟨bM,r,pl,hz⟩:=I.list S;obtain⟨j,h1,h2,h3,h4,h5⟩:=zG he;obtain⟨w,b,qP⟩:=r.get h2;have hl:=r.length;have hn:=wW;have fin:EP X U Z Q w s:=⟨z,H,I,qP,q⟩;by_cases h0:0<=i
 .have L:i.toNat=j:=by
   rw[seqIndex_of h0 h5]at h1;exact Option.some.inj h1
  exact item_listR pl.isList h0 (by omega) (by rw[L];simpa using b) fin hs
 .have L:(i+(bM.toArray.size:Int)).toNat=j:=by
   rw[seqIndex_neg (by omega) h4]at h1;rw[cE,<-hl];exact Option.some.inj h1
  exact subscriptTail_builtinR (x:=w) pl.isList.typeIs slot_list_getitem.lookup
   (wpAny_getItem_list_neg (Q:=λr s'=>r=w/\EP X U Z Q r s') pl.isList (by omega) (by rw[cE]<;>omega) (by omega) (by rw[L];simpa using b) ⟨rfl,fin⟩) hs
def OG:Sv X (VW X.K):=by
 intro value slice U s Z H x y v u Q I L b h hs;obtain⟨p,xs,i,z,rfl,rfl,g,he,q⟩:=h;cases L;obtain⟨t,rfl⟩:=b;obtain⟨bM,r,pl,hz⟩:=I.tuple g;obtain⟨j,h1,h2,h3,h4,h5⟩:=zG he;obtain⟨w,M,S⟩:=r.get h2;have hl:=r.length;have hn:=wW;have fin:EP X U Z Q w s:=⟨z,H,I,S,q⟩;exact subscriptTail_builtinR (x:=w) pl.typeIs wa.lookup
  (getItem_tuple (j:=j) (Q:=λr s'=>r=w/\EP X U Z Q r s') pl (by omega) (by omega) (by rwa[cE,<-hl]) (by simpa using M) ⟨rfl,fin⟩) hs
theorem OH:Sv X VX:=by
 intro value slice U s Z H x y v u Q I L b h hs;obtain⟨z,i,c,rfl,rfl,hz,he,q⟩:=h;obtain⟨t,rfl⟩:=L;obtain⟨t',rfl⟩:=b;obtain⟨j,h1,h2,h3,g,r⟩:=zG he;have M:z.cps.toList.length=z.length:=by simp[Str.length]
 rw[M]at h1 g r;have hn:=wW;exact tail_any (typeIs_str s z t) slot_str_getitem.lookup (getItem_str (c:=c) (by
  have S:decide (i< -(2 ^63:Int))=false:=fV (by omega);have e2:decide (i>=2 ^63)=false:=fV (by omega);rw[S,e2,cK]) (by rw[h1];simpa using h2) ⟨.str ⟨#[c]⟩,H,I.tok _,⟨_,rfl⟩,q⟩) hs
def Nl(v:Int)(n d:Nat):max 0 (min (if v<0 then v+n else v) (n:Int))=((HT.gL n d (some v):Nat):Int):=by
 rw[<-HT.zy];by_cases L:v<0
 .rw[ay L,ay L];omega
 .rw[aE L,aE L];omega
def zI(lo hi:Option Int)(n:Nat):(sliceBounds lo hi none n).1=((HT.gL n 0 lo:Nat):Int)/\(sliceBounds lo hi none n).2.1=((HT.gL n n hi:Nat):Int)/\(sliceBounds lo hi none n).2.2=1:=by
 refine⟨?_,?_,rfl⟩
 .cases lo with
  |none=>rfl
  |some i=>exact(Nl i n 0)
 .cases hi with
  |none=>rfl
  |some i=>exact(Nl i n n)
def yl(bM:List Value)(lo hi:Option Int):slicePick bM.toArray lo hi none=((bM.drop (HT.gL bM.length 0 lo)).take (HT.gL bM.length bM.length hi - HT.gL bM.length 0 lo)).toArray:=by
 obtain⟨L,h2,b⟩:=zI lo hi bM.toArray.size;unfold slicePick;rw[L,h2,b];simp only[sliceRange_one,pick_run,cE]<;>rfl
def VY(K:Frag):V->Option Int->Option Int->Hp->VK->Prop:=λx lo hi H Q=>∃a xs,x=.ref a/\lj K H a xs/\∀p,H p=none->Q (.ref p) (upd H p (.lst (AX xs lo hi)))
def K':Rj X (VY X.K):=by
 intro U s Z H x v vl vu lo hi sl Q I g hs pl pu h;obtain⟨a,xs,rfl,M,q⟩:=h;cases g;obtain⟨bM,r,L,S⟩:=I.list M;have c6:=r.length;refine⟨"list",_,slot_list_getitem.lookup,L.isList.typeIs,?_⟩;refine wpAny_getItem_list_slice L.isList hs pl pu .none (by simp) ?_ (by rw[cE]<;>omega)
 rw[yl,<-c6];refine⟨.ref s.heap.objs.size,_,I.laid (t':=s.toks) (o:=.lst (AX xs lo hi)) (λb ob q=>cu _ q) (aZ _) ?_,rfl,q _ (I.cL.fresh (aZ _))⟩;exact⟨bI (vd xs lo hi) S,_,0,(r.drop (HT.gL xs.length 0 lo)).take (HT.gL xs.length xs.length hi - HT.gL xs.length 0 lo),cQ _ rfl⟩
theorem tH:gY X (.type "list") (λxs H Q=>∃p ys,xs=[.ref p]/\(lj X.K H p ys\/mf X.K H p ys)/\∀l,H l=none->Q (.ref l) (upd H l (.lst ys))):=by
 intro U s Z H xs us Q I r h;obtain⟨p,ys,rfl,M,q⟩:=h;obtain⟨u,rfl,rx⟩:=vals1 r;cases rx;have fin:∀(bM:List Value),Vals ys bM->ys.length<=sizeLine->∀(h':Heap) (L:Nat),(∀b o',s.heap.get? b=some o'->h'.get? b=some o')->
   h'.get? s.heap.objs.size=some {cls:=.type "list",dict:=none,data:=.seq bM.toArray L,slots:=#[]}->EP X U Z Q (.ref s.heap.objs.size) {s with heap:=h'}:=λbM g S h' L kp e=>
  ⟨.ref s.heap.objs.size,_,I.laid (t':=s.toks) kp (aZ _) (show cN X.prog X.w _ h' _ (.lst ys)from⟨S,bM,L,g,e⟩),rfl,q _ (I.cL.fresh (aZ _))⟩
 rcases M with M|M
 .obtain⟨bM,g,pl,S⟩:=I.list M;have c6:=g.length;obtain⟨o,ho,hc,n,hd⟩:=pl.isList;exact call_list_seq p (.inl rfl) ho hc hd (λh' L kp e=>fin bM g S h' L kp e) (by simp only[cE]<;>omega)
 .obtain⟨bM,g,pl,S⟩:=I.tuple M;have c6:=g.length;obtain⟨o,ho,hc,n,hd⟩:=pl;exact call_list_seq p (.inr rfl) ho hc hd (λh' L kp e=>fin bM g S h' L kp e) (by simp only[cE]<;>omega)
def qU:gY X (.type "tuple") (λxs H Q=>∃p ys,xs=[.ref p]/\((lj X.K H p ys/\∀l,H l=none->Q (.ref l) (upd H l (.tup ys)))\/(mf X.K H p ys/\Q (.ref p) H))):=by
 intro U s Z H xs us Q I r h;obtain⟨p,ys,rfl,h⟩:=h;obtain⟨u,rfl,rx⟩:=vals1 r;cases rx;rcases h with⟨L,q⟩|⟨L,q⟩
 .obtain⟨bM,g,pl,M⟩:=I.list L;have c6:=g.length;refine call_tuple_list pl.isList (λh' kp=>?_) (by simp only[cE]<;>omega);have S:Inv X U Z H {s with heap:=h'}:=I.kept (t':=s.toks) kp;have I2:Inv X U Z (upd H h'.objs.size (.tup ys)) {s with heap:=h'.push {cls:=.type "tuple",data:=.seq bM.toArray}}:=
   S.laid (t':=s.toks) (λb o e=>cu _ e) (aZ _) (show cN X.prog X.w _ _ _ (.tup ys)from⟨M,bM,g,pj.new _ _⟩)
  exact⟨.ref h'.objs.size,_,I2,rfl,q _ (S.cL.fresh (aZ _))⟩
 .obtain⟨bM,g,pl,M⟩:=I.tuple L;exact call_tuple_same pl ⟨.ref p,H,I,rfl,q⟩
def Yj(K:Frag)(T:String)(x:V)(H:Hp):Prop:=match x with
 |.str _=>T="str"
 |.int _=>T="int"
 |.ref p=>(T="list"/\∃xs,lj K H p xs)\/(T="tuple"/\∃o,K.lookup p=some o/\o.cls=.type "tuple"/\o.dict=none)\/
   (T="dict"/\((∃kvs,H p=some (.dK kvs))\/∃kvs,H p=some (.dT kvs)))\/(T="set"/\∃S n,H p=some (.set S n))
 |_=>False
def OI(I:Inv X U Z H s)(r:RelV x v)(ty:Yj X.K T x H):
  s.TypeIs v T/\∀a,v=.ref a->∃g,s.heap.get? a=some g/\g.dict=none:=by
 cases x with
 |str z=>
  obtain⟨t,rfl⟩:=r;cases(show T="str"from ty);exact⟨typeIs_str s z t,λ_ e=>nomatch e⟩
 |int i=>
  obtain⟨t,rfl⟩:=r;cases(show T="int"from ty);exact⟨typeIs_int s i t,λ_ e=>nomatch e⟩
 |ref p=>
  cases r;rcases ty with⟨rfl,xs,q⟩|⟨rfl,o,L,M,hd⟩|⟨rfl,L⟩|⟨rfl,S,n,L⟩
  .obtain⟨bM,_,pl,_⟩:=I.list q;refine⟨pl.isList.typeIs,λa e=>?_⟩;cases e;obtain⟨o,n,e,c,hd,_⟩:=pl;exact⟨o,e,hd⟩
  .refine⟨⟨o,I.nt p o L,M⟩,λa e=>?_⟩;cases e;exact⟨o,I.nt _ o L,hd⟩
  .have z:∃o,s.heap.get? p=some o/\o.ExactDict:=by
    rcases L with⟨kvs,L⟩|⟨kvs,L⟩
    .obtain⟨_,_,_,_,o,_,_,e,ex,_⟩:=I.cL p _ L;exact⟨o,e,ex⟩
    .obtain⟨_,_,_,_,o,_,_,e,ex,_⟩:=I.cL p _ L;exact⟨o,e,ex⟩
   obtain⟨o,e,ex⟩:=z;refine⟨⟨o,e,ex.1⟩,λa b=>?_⟩;cases b;exact⟨o,e,ex.2.1⟩
  .obtain⟨o,_,_,_,e,ex,_⟩:=I.cL p _ L;refine⟨⟨o,e,ex.1⟩,λa b=>?_⟩;cases b;exact⟨o,e,ex.2.1⟩
 |_=>exact False.elim ty
def Zy(K:Frag)(T:String)(r:V->List V->Hp->VK->Prop)(to:TE)(t:TA):TE:=λZ H Q=>to Z H λx H1=>Yj K T x H1/\t Z H1 λxs H2=>r x xs H2 Q
def AY{e:Expr}{id:String}(g:PlainAttrs T)(slot:Slot T name id)(q:typeOf (.builtin id)=pure (.type "method_descriptor"))(hm:Nj X id r)(M:PE X o to)(S:PA X (e::af) t)
  (wZ:attributeBase o name X.env (eval o X.env)=eval o X.env:=by rfl)
  (VZ:((backTo cV (starEach (e::af) X.env)).all (λx=>!x.1)&&(backToKw cV (keywordEach [] X.env)).all (λx=>x.1.isSome)
   &&decide ((e::af).length+([]:List Keyword).length+(if([]:List Keyword).isEmpty then 0 else 1)<30))=true:=by rfl)
  (pB:(ah.endLine==cV.line)=true:=by rfl) (hs:starEach (e::af) X.env=(false,eval e X.env)::starEach af X.env:=by rfl) (OK:(backTo cV (starEach af X.env)).any (·.1)=false:=by rfl):
  PE X (.Call (.Attribute o name ah) (e::af) [] cV) (Zy X.K T r to t):=by
 intro U s Z H Q I h;refine wpAny_Call_method_late wZ VZ pB rfl (ej (M U s Z H _ I h) λv s1 ⟨x,H1,L,r1,ty,q1⟩=>?_);obtain⟨h1,h2⟩:=OI L r1 ty;refine⟨T,id,g,slot,q,h1,h2,?_⟩;have b:=S cV U s1 Z H1 _ L q1;rw[hs]at b⊢;refine oW (by show(false||(backTo cV (starEach af X.env)).any (·.1))=false;rw[OK]<;>rfl) (qf ?_);exact ej b λus s2 ⟨vs,H2,I2,r2,q2⟩=>hm U s2 Z H2 x vs v us Q I2 r1 r2 q2
def V0(X:Cx)(id:String)(r:V->List V->Hp->VK->Prop):Prop:=
 ∀(U:List (Addr×Obj)) (s:Shared) (Z:St) (H:Hp) (x:V) (xs:List V) (v:Value) (us:List Value) (Q:VK),Inv X U Z H s->RelV x v->Vals xs us->r x xs H Q->
  wpAny (model X.prog X.w) X.A (call (.builtin id) (v::us)) (EP X U Z Q) X.xe s
theorem Vals.one:∀{x:V} {us:List Value},Vals [x] us->∃u,us=[u]/\RelV x u
 |_,_,.cons r .nil=>⟨_,rfl,r⟩
theorem Vals.dropLast (h:Vals xs us):Vals xs.dropLast us.dropLast:=by
 induction h with
 |nil=>exact .nil
 |cons r t L=>
  cases t with
  |nil=>exact .nil
  |cons q t'=>exact .cons r L
theorem Vals.rep (h:Vals xs us):∀k:Nat,Vals (List.replicate k xs).flatten (List.replicate k us).flatten
 |0=>.nil
 |k+1=>by
  rw[ng,ng,mi,mi];exact Vals.append h (Vals.rep h k)
theorem foldl_rep(bM:List Value):∀(k:Nat) (acc:List Value),
  List.foldl (λb g=>b++g) acc.toArray (List.replicate k bM.toArray)=(acc++(List.replicate k bM).flatten).toArray
 |0,acc=>by simp
 |k+1,acc=>by
  have e:acc.toArray++bM.toArray=(acc++bM).toArray:=by simp
  have L:(acc++bM)++(List.replicate k bM).flatten=acc++(List.replicate (k+1) bM).flatten:=by
   rw[ng,mi,sL]
  rw[<-L,<-foldl_rep bM k (acc++bM),<-e,ng,List.foldl_cons]
def Inv.La {bM s_:List Value}{f:Array Value->Array Value}{t':Nat}(I:Inv X U Z H s)(b:H l=some (.lst xs))
  (e:s.heap.get? l=some {cls:=.type "list",data:=.seq bM.toArray n}) (hf:f bM.toArray=s_.toArray) (g:Vals ys s_) (r:ys.length<=sizeLine):
  Inv X U Z (upd H l (.lst ys)) {s with heap:=s.heap.update l (Obj.mapSeq f),toks:=t'}:=by
 have q:=PySem.IsL.update e f;rw[hf]at q;refine I.write (x:=l) (e:=l) (by rw[b];exact trivial) (.inl rfl) (λM u hb L=>(wk s.heap (Obj.mapSeq f) (Ne.symm hb)).trans L) ⟨_,q⟩ ?_
 exact⟨r,s_,_,g,q⟩
def Inv.Lb {t':Nat}(I:Inv X U Z H s)(b:Vals ys bM)(g:ys.length<=sizeLine):
  Inv X U Z (upd H s.heap.objs.size (.lst ys)) {s with heap:=s.heap.push {cls:=.type "list",data:=.seq bM.toArray},toks:=t'}:=
 I.laid (λ_ _ q=>cu _ q) (aZ _) ⟨g,bM,0,b,cQ _ rfl⟩
theorem Inv.fresh (I:Inv X U Z H s):H s.heap.objs.size=none:=I.cL.fresh (aZ _)
def Inv.ym (I:Inv X U Z H s)(b:H l=some (.lst xs)):xs.length<=sizeLine/\∃(bM:List Value) (n:Nat),Vals xs bM/\xs.length=bM.length/\s.heap.get? l=some {cls:=.type "list",data:=.seq bM.toArray n}:=by
 obtain⟨z,bM,n,r,e⟩:=I.cL l _ b;exact⟨z,bM,n,r,r.length,e⟩
def HP(h:aa<=sizeLine):Builtin.List.listTooLong aa=false:=by
 unfold Builtin.List.listTooLong;exact fV (by omega)
def EF:V->List V->Hp->VK->Prop:=λx vs H Q=>∃l xs y,x=.ref l/\vs=[y]/\H l=some (.lst xs)/\xs.length<sizeLine/\Q .bL (upd H l (.lst (xs++[y])))
theorem gZ:V0 X "list.append" EF:=by
 intro U s Z H x vs v us Q I b g h;obtain⟨l,xs,y,rfl,rfl,L,S,q⟩:=h;cases b;obtain⟨u,rfl,M⟩:=g.one;obtain⟨z,bM,n,r,hl,e⟩:=I.ym L;refine ko kT ⟨_,e,rfl⟩ F.entry_list_append (F.args_list_append_2 _ _) (PySem.list_append l bM.toArray n u (by rw[cE];omega)) ⟨e,?_⟩;refine⟨.bL,_,I.La (s_:=bM++[u]) L e (by simp) (r.append (.cons M .nil)) ?_,rfl,q⟩;rw[dI,List.length_singleton];omega
def V1:R2:=λx y H Q=>∃l b xs zs,x=.ref l/\y=.ref b/\H l=some (.lst xs)/\H b=some (.lst zs)/\xs.length+zs.length<=sizeLine/\∀p,H p=none->Q (.ref p) (upd H p (.lst (xs++zs)))
def OL:sr X (binaryOp .Add) V1:=by
 intro U s Z H x y v u Q I g M h;obtain⟨l,b,xs,zs,rfl,rfl,S,hB,hz,q⟩:=h;cases g;cases M;obtain⟨z,bM,n,r,hl,e⟩:=I.ym S;obtain⟨z2,L,n2,r2,Sw,e2⟩:=I.ym hB;refine PySem.P.add_list e e2 ?_ (by rw[cE,cE];omega)
 have ea:bM.toArray++L.toArray=(bM++L).toArray:=by simp
 rw[ea];exact⟨.ref _,_,I.Lb (t':=s.toks) (r.append r2) (by rw[dI];omega),rfl,q _ I.fresh⟩
def V2:R2:=λx y H Q=>∃l k xs,x=.ref l/\y=.int k/\H l=some (.lst xs)/\-(2 ^63)<=k/\k<2 ^63/\xs.length*k.toNat<=sizeLine/\
 ∀p,H p=none->Q (.ref p) (upd H p (.lst (List.replicate k.toNat xs).flatten))
def len_rep(xs:List α)(k:Nat):(List.replicate k xs).flatten.length=k*xs.length:=by
 induction k with
 |zero=>simp
 |succ k L=>rw[ng,mi,dI,L,Nat.succ_mul,Nat.add_comm]
theorem OM:sr X (binaryOp .Mult) V2:=by
 intro U s Z H x y v u Q I M S h;obtain⟨l,k,xs,rfl,rfl,hH,h1,h2,g,q⟩:=h;cases M;obtain⟨t,rfl⟩:=S;obtain⟨z,bM,n,r,hl,e⟩:=I.ym hH;have c6:bM.toArray.size*k.toNat<=sizeLine:=by rw[cE,<-hl];exact g
 have V3:¬bM.toArray.size*k.toNat>(2 ^63 - 1)/8:=by
  have:(sizeLine:Nat)<=(2 ^63 - 1)/8:=by decide
  omega
 have V4:¬(!Builtin.List.listFitsIndex k)=true:=by
  rw[fitsIndex_both h1 h2];exact i7
 have Sx:¬Builtin.List.listTooLong (bM.toArray.size*k.toNat)=true:=by
  rw[HP c6];exact i7
 have HQ:List.foldl (λL b=>L++b) #[] (List.replicate (if bM.toArray.isEmpty=true then 0 else k.toNat) bM.toArray)=(List.replicate k.toNat bM).flatten.toArray:=by
  have f0:∀m:Nat,List.foldl (λL b=>L++b) #[] (List.replicate m bM.toArray)=(List.replicate m bM).flatten.toArray:=λm=>by
   have:=foldl_rep bM m [];rw[List.nil_append]at this;exact this
  rw[f0];cases bM with
  |nil=>simp
  |cons a r'=>rw[aE (by simp)]
 refine wpAny_binaryOp_repeat_ref (T:="list") (U:="int") (by decide) ⟨_,e,rfl⟩ (λs'=>typeIs_int s' k t) noFill_list_mul F.fills_int_mul F.slot_int_rmul repeat_list F.slot_int_index.lookup
  (ko F.slot_int_rmul (typeIs_int s k t) F.entry_int_rmul (F.args_int_rmul_2 _ _) (int___rmul___int_list k t l bM.toArray n)
   ⟨e,rfl,⟨_,e,rfl⟩,ko F.slot_list_mul ⟨_,e,rfl⟩ F.entry_list_mul (F.args_list_mul_2 _ _) (AutoListH.list___mul___list_int_3 l bM.toArray n k t V4 V3 Sx) ⟨e,?_⟩⟩)
 rw[HQ];exact⟨.ref _,_,I.Lb (t':=s.toks) (r.rep k.toNat) (by rw[len_rep,Nat.mul_comm];exact g),rfl,q _ I.fresh⟩
section
variable [DecidableEq α]
noncomputable def mJ(kvs:List (α×V))(k:α):Option V:=(kvs.find? λL=>decide (L.1=k)).map (·.2)
noncomputable def putK(kvs:List (α×V))(k:α)(v:V):List (α×V):=
 if(kvs.any λL=>decide (L.1=k))=true then kvs.map (λL=>if L.1=k then(L.1,v)else L)else kvs++[(k,v)]
noncomputable def qV(kvs:List (α×V))(k:α):List (α×V):=kvs.filter λL=>decide (L.1≠k)
def tK{p:α×V}{r:List (α×V)}{k:α}(e:p.1=k):mJ (p::r) k=some p.2:=by simp[mJ,jL,e]
def tL{p:α×V}{r:List (α×V)}{k:α}(e:¬p.1=k):mJ (p::r) k=mJ r k:=by simp[mJ,jL,e]
theorem AZ(k:α):∀kvs:List (α×V),(kvs.any λb=>decide (b.1=k))=(mJ kvs k).isSome
 |[]=>rfl
 |p::r=>by
  rw[i8];by_cases e:p.1=k
  .simp only[tK e,dA e,fq,fT]
  .rw[tL e,fV e,pb];exact AZ k r
def pC(kvs:List (α×V))(k:α)(v:V):(putK kvs k v).length<=kvs.length+1:=by
 unfold putK;split
 .rw[aY];omega
 .rw[dI,dq,wH];omega
def lN.mK (r:lN o u):o.isSome=u.isSome:=by
 cases o with
 |none=>cases u with
  |none=>rfl
  |some _=>exact fe r
 |some _=>cases u with
  |none=>exact fe r
  |some _=>rfl
theorem lN.getD (r:lN o u)(b:RelV d d'):RelV (o.getD d) (u.getD d'):=by
 cases o with
 |none=>cases u with
  |none=>exact b
  |some _=>exact fe r
 |some _=>cases u with
  |none=>exact fe r
  |some _=>exact r
def KV.val (r:KV kvs vs)(k:α):lN (mJ kvs k) (valueAt vs k):=by
 unfold KV at r
 induction r with
 |nil=>exact True.intro
 |@cons p q ps L h t M=>
  obtain⟨I,h2⟩:=h;by_cases e:p.1=k
  .have g:q.1=k:=I.symm.trans e;have b:valueAt (q::L) k=some q.2:=by simp[valueAt,jL,g]
   rwa[tK e,b]
  .have g:¬q.1=k:=λz=>e (I.trans z);have b:valueAt (q::L) k=valueAt L k:=by simp[valueAt,jL,g]
   rwa[tL e,b]
theorem KV.any (r:KV kvs vs)(k:α):(kvs.any λb=>decide (b.1=k))=vs.any λb=>decide (b.1=k):=by
 unfold KV at r
 induction r with
 |nil=>rfl
 |cons h t L=>rw[i8,i8,L,h.1]
def KV.ON (r:KV kvs vs)(k:α)(g:RelV y u):
  KV (kvs.map λb=>if b.1=k then(b.1,y)else b) (vs.map λb=>if b.1=k then(b.1,u)else b):=by
 unfold KV at r⊢
 induction r with
 |nil=>exact .nil
 |@cons p q ps M h t I=>
  rw[aX,aX];refine .cons ?_ I
  obtain⟨L,h2⟩:=h;by_cases e:p.1=k
  .rw[ay e,ay (L.symm.trans e)];exact⟨L,g⟩
  .rw[aE e,aE (λz=>e (L.trans z))];exact⟨L,h2⟩
def KV.put (r:KV kvs vs)(k:α)(b:RelV y u):KV (putK kvs k y) (stored vs k u):=by
 unfold putK stored;rw[r.any k];by_cases e:(vs.any λL=>decide (L.1=k))=true
 .rw[ay e,ay e];exact r.ON k b
 .rw[aE e,aE e];exact Paired.snoc r ⟨rfl,b⟩
theorem KV.drop (r:KV kvs vs)(k:α):KV (qV kvs k) (without vs k):=by
 unfold KV at r⊢;unfold qV without
 induction r with
 |nil=>exact .nil
 |@cons p q ps M h t g=>
  obtain⟨L,h2⟩:=h;rw[List.filter_cons,List.filter_cons];by_cases e:p.1=k
  .have a:¬decide (p.1≠k)=true:=by simp[e]
   have b:¬decide (q.1≠k)=true:=by simp[L.symm.trans e]
   rwa[aE a,aE b]
  .have I:¬q.1=k:=λz=>e (L.trans z);have a:decide (p.1≠k)=true:=by simp[e]
   have b:decide (q.1≠k)=true:=by simp[I]
   rw[ay a,ay b];exact .cons ⟨L,h2⟩ g
def KV.keys {kvs:List (α×V)}{vs:List (α×Value)}(r:KV kvs vs):kvs.map (·.1)=vs.map (·.1):=by
 unfold KV at r
 induction r with
 |nil=>rfl
 |cons h t L=>rw[aX,aX,L,h.1]
theorem KV.length (r:KV kvs vs):kvs.length=vs.length:=Paired.length r
def HR(kvs:List (α×V))(k:α):(qV kvs k).length<=kvs.length:=i6 _ _
end
theorem qW(r:RelV (kV k) u):(bQ P w).is k u=true:=by
 cases k with
 |inl i=>obtain⟨t,e⟩:=(show∃t,u=Value.int i t from r);subst e;exact AL P w i t
 |inr x=>obtain⟨t,e⟩:=(show∃t,u=Value.str x t from r);subst e;exact AM P w x t
theorem yK:∀{ks:List Key} {us:List Value},Vals (ks.map kV) us->ItemsAre (bQ P w) ks us
 |[],_,r=>by rw[sS]at r;cases r;exact .nil
 |k::ks,_,r=>by
  rw[aX]at r;cases r with
  |cons h t=>exact .cons (qW h) (yK t)
abbrev KT(H:Hp):List (List Key×V)->List (List Key×Addr×Value)->Prop:=Paired λp q=>p.1=q.1/\H q.2.1=some (.tup (p.1.map kV))/\RelV p.2 q.2.2
def KT.val (r:KT H kvs xs)(k:List Key):lN (mJ kvs k) ((atKey xs k).map (·.2)):=by
 induction r with
 |nil=>exact True.intro
 |@cons p q ps L h t M=>
  obtain⟨I,_,h2⟩:=h;by_cases e:p.1=k
  .have g:q.1=k:=I.symm.trans e;have b:atKey (q::L) k=some q.2:=by simp[atKey,jL,g]
   rwa[tK e,b]
  .have g:¬q.1=k:=λz=>e (I.trans z);have b:atKey (q::L) k=atKey L k:=by simp[atKey,jL,g]
   rwa[tL e,b]
def KT.ON (r:KT H kvs xs)(k:List Key)(g:RelV y u):
  KT H (kvs.map λb=>if b.1=k then(b.1,y)else b) (xs.map (putAt k u)):=by
 induction r with
 |nil=>exact .nil
 |@cons p q ps S h t I=>
  rw[aX,aX];refine .cons ?_ I
  obtain⟨L,h2,M⟩:=h;unfold putAt;by_cases e:p.1=k
  .rw[ay e,ay (L.symm.trans e)];exact⟨L,h2,g⟩
  .rw[aE e,aE (λz=>e (L.trans z))];exact⟨L,h2,M⟩
def KT.put (r:KT H kvs xs)(k:List Key)(hb:H b=some (.tup (k.map kV)))(g:RelV y u):
  KT H (putK kvs k y) (storedH xs k b u):=by
 have e:(kvs.any λL=>decide (L.1=k))=(atKey xs k).isSome:=by
  rw[AZ,(r.val k).mK,nq]
 unfold putK storedH;rw[e];by_cases q:(atKey xs k).isSome=true
 .rw[ay q,ay q];exact r.ON k g
 .rw[aE q,aE q];exact Paired.snoc r ⟨rfl,hb,g⟩
def KT.keeps {H':Hp}(r:KT H kvs xs)(g:∀b ys,H b=some (.tup ys)->H' b=some (.tup ys)):KT H' kvs xs:=
 Paired.N8 r λ_ _ z=>⟨z.1,g _ _ z.2.1,z.2.2⟩
def Nm(ok:ri P w H h)(e:Rd H a u):cN P w H h a u:=e.ok ok
def ve(ok:ri P w H h)(e:Rd H a (.dK kvs)):kvs.length<=sizeLine/\(a==sysModules)=false/\∃vs,KV kvs vs/\h.DictOf (bQ P w) a vs:=
 show cN P w H h a (.dK kvs)from Nm ok e
def EG(ok:ri P w H h)(e:H a=some (.dK kvs)):kvs.length<=sizeLine/\(a==sysModules)=false/\∃vs,KV kvs vs/\h.DictOf (bQ P w) a vs:=ve ok (.inl e)
def uH{ks:List Key}(ok:ri P w H h)(e:H a=some (.tup (ks.map kV))):(tupleKind (bQ P w)).is h ks a:=by
 obtain⟨_,bM,r,o,h1,h2,n,L,_⟩:=(show cN P w H h a (.tup (ks.map kV))from ok a _ e);exact⟨o,bM.toArray,n,h1,h2,L,by simpa using yK r⟩
theorem w4(ok:ri P w H h)(e:Rd H a (.dT kvs)):kvs.length<=sizeLine/\(a==sysModules)=false/\
  ∃xs,KT H kvs xs/\h.DictOfH (tupleKind (bQ P w)) a xs:=by
 obtain⟨z,y,xs,r,o,es,ep,h1,h2,g,I,M⟩:=(show cN P w H h a (.dT kvs)from Nm ok e);refine⟨z,y,xs,r,o,es,ep,h1,h2,g,I,λx L=>?_,M⟩;have all:∀{l:List (List Key×V)} {m:List (List Key×Addr×Value)},KT H l m->∀x∈m,(tupleKind (bQ P w)).is h x.1 x.2.1:=by
  intro l m q
  induction q with
  |nil=>intro x L;exact nomatch L
  |@cons p q ps qs b t S=>
   intro x L;rcases a_.mp L with e|L
   .subst e;exact uH ok (by rw[<-b.1];exact b.2.1)
   .exact S x L
 exact all r x L
def Sy(ok:ri P w H h)(e:H a=some (.dT kvs)):kvs.length<=sizeLine/\(a==sysModules)=false/\
  ∃xs,KT H kvs xs/\h.DictOfH (tupleKind (bQ P w)) a xs:=w4 ok (.inl e)
def rq(H:Hp)(a:Addr)(y:V)(r:Option V):Prop:=
 (∃kvs k,Rd H a (.dK kvs)/\y=kV k/\r=mJ kvs k)\/∃kvs k b,Rd H a (.dT kvs)/\y=.ref b/\H b=some (.tup (k.map kV))/\r=mJ kvs k
def Di(H:Hp)(a:Addr)(y v:V)(H':Hp):Prop:=
 (∃kvs k,H a=some (.dK kvs)/\y=kV k/\kvs.length<sizeLine/\H'=upd H a (.dK (putK kvs k v)))\/
 ∃kvs k b,H a=some (.dT kvs)/\y=.ref b/\H b=some (.tup (k.map kV))/\kvs.length<sizeLine/\H'=upd H a (.dT (putK kvs k v))
theorem rq.k {H:Hp}{k:Key}(e:H a=some (.dK kvs)):rq H a (kV k) (mJ kvs k):=.inl ⟨kvs,k,.inl e,rfl,rfl⟩
def rq.t {H:Hp}{k:List Key}(e:H a=some (.dT kvs))(g:H b=some (.tup (k.map kV))):rq H a (.ref b) (mJ kvs k):=.inr ⟨kvs,k,b,.inl e,rfl,g,rfl⟩
theorem Di.k {H:Hp}{k:Key}(e:H a=some (.dK kvs))(b:kvs.length<sizeLine):Di H a (kV k) v (upd H a (.dK (putK kvs k v))):=.inl ⟨kvs,k,e,rfl,b,rfl⟩
def Di.t {H:Hp}{k:List Key}(e:H a=some (.dT kvs))(g:H b=some (.tup (k.map kV)))(q:kvs.length<sizeLine):
  Di H a (.ref b) v (upd H a (.dT (putK kvs k v))):=.inr ⟨kvs,k,b,e,rfl,g,q,rfl⟩
theorem Inv.big (I:Inv X U Z H s):sysModules<s.heap.objs.size:=by
 have h:mainGlobals<s.heap.objs.size:=(I.mod.glob.keeps I.bk).lt;exact Nat.lt_trans (by decide) h
theorem Gh{A:Around}(hu:A.units+1<cLine)(I:Inv X U Z H s)(g:rq H a y (some v))(M:RelV y u)(h:∀q S,Inv X U Z H S->RelV v q->ae q S):
  wpAny (model X.prog X.w) A (getItem (.ref a) u) ae E s:=by
 rcases g with⟨kvs,k,e,L,l⟩|⟨kvs,k,b,e,L,eb,l⟩
 .subst L;obtain⟨z,hd,vs,rel,dd⟩:=ve I.cL e;obtain⟨q,hw,r⟩:=lN.some_of (v:=v) (o:=valueAt vs k) (by rw[l];exact rel.val k);exact wpAny_getItem_of (qW M) dd.mapOf hw (h q _ (I.tok _) r)
 .subst L;cases(show u=Value.ref b from M);obtain⟨z,hd,xs,rel,dd⟩:=w4 I.cL e;obtain⟨q,hw,r⟩:=lN.some_of (v:=v) (o:=(atKey xs k).map (·.2)) (by rw[l];exact rel.val k);obtain⟨p,hp,Rk⟩:=Option.map_eq_some_iff.mp hw;refine wpAny_getItem_heap (o5 hu) (uH I.cL eb) dd hp ?_
  rw[Rk];exact h q _ (I.tok _) r
theorem V5{A:Around}(S:A.units+1<cLine)(I:Inv X U Z H s)(g:rq H a y o)(r:RelV y u)(h:∀M,Inv X U Z H M->ae (.bool o.isSome) M):
  wpAny (model X.prog X.w) A (compareOp .In u (.ref a)) ae E s:=by
 rcases g with⟨kvs,k,e,L,l⟩|⟨kvs,k,b,e,L,eb,l⟩
 .subst L;obtain⟨z,hd,vs,rel,dd⟩:=ve I.cL e;refine wpAny_in_of (qW r) hd dd.mapOf ?_
  rw[<-(rel.val k).mK,<-l];exact h _ (I.tok _)
 .subst L;cases(show u=Value.ref b from r);obtain⟨z,hd,xs,rel,dd⟩:=w4 I.cL e;refine wpAny_in_heap (o5 S) (uH I.cL eb) hd dd ?_
  have q:=(rel.val k).mK;rw[nq]at q;rw[<-q,<-l];exact h _ (I.tok _)
theorem Lc{A:Around}(S:A.units+1<cLine)(I:Inv X U Z H s)(g:rq H a y o)(r:RelV y u)(h:∀M,Inv X U Z H M->ae (.bool (!o.isSome)) M):
  wpAny (model X.prog X.w) A (compareOp .NotIn u (.ref a)) ae E s:=by
 rcases g with⟨kvs,k,e,L,l⟩|⟨kvs,k,b,e,L,eb,l⟩
 .subst L;obtain⟨z,hd,vs,rel,dd⟩:=ve I.cL e;refine wpAny_notIn_of (qW r) hd dd.mapOf ?_
  rw[<-(rel.val k).mK,<-l];exact h _ (I.tok _)
 .subst L;cases(show u=Value.ref b from r);obtain⟨z,hd,xs,rel,dd⟩:=w4 I.cL e;refine wpAny_notIn_heap (o5 S) (uH I.cL eb) hd dd ?_
  have q:=(rel.val k).mK;rw[nq]at q;rw[<-q,<-l];exact h _ (I.tok _)
def tM(I:Inv X U Z H s)(r:RU (H a))(hs:Heap.SameBut a s.heap h')(he:∃q,h'.get? a=some q)(new:cN X.prog X.w (upd H a g) h' a g):
  Inv X U Z (upd H a g) {s with heap:=h',toks:=aa}:=
 I.write (x:=a) (e:=a) r (.inl rfl) (λb q hb z=>(hs.2 b hb).trans z) he new
def w6{a:Addr}{kvs:List (Key×V)}(z:kvs.length<=sizeLine)(hd:(a==sysModules)=false)(rel:KV kvs vs)(dd:h'.DictOf (bQ P w) a vs):
  cN P w H' h' a (.dK kvs):=⟨z,hd,vs,rel,dd⟩
theorem Gi{A:Around}(hu:A.units+1<cLine)(I:Inv X U Z H s)(g:Di H a y v H')(ry:RelV y u)(rv:RelV v r)(h:∀s',Inv X U Z H' s'->ac () s'):
  wpAny (model X.prog X.w) A (setItem (.ref a) u r) ac E s:=by
 rcases g with⟨kvs,k,e,S,l,eH⟩|⟨kvs,k,b,e,S,eb,l,eH⟩
 .subst S eH;obtain⟨z,hd,vs,rel,dd⟩:=EG I.cL e;have hz:vs.length<=sizeLine:=by rwa[<-rel.length]
  have hl:(putK kvs k v).length<=sizeLine:=by have:=pC kvs k v;omega
  refine wpAny_setItem_pairs (hsz:=hz) (qW ry) dd λh' L hs=>h _ ?_
  have he:∃q,h'.get? a=some q:=let⟨q,_,_,M,_⟩:=L;⟨q,M⟩
  exact tM I (by rw[e];exact True.intro) hs he (w6 hl hd (rel.put k rv) L)
 .subst S eH;cases(show u=Value.ref b from ry);obtain⟨z,hd,xs,rel,dd⟩:=Sy I.cL e;have hz:xs.length<=sizeLine:=by rwa[<-Paired.length rel]
  have hl:(putK kvs k v).length<=sizeLine:=by have:=pC kvs k v;omega
  refine wpAny_setItem_heap (hsz:=hz) (o5 hu) (uH I.cL eb) dd λh' L hs=>h _ ?_
  obtain⟨q,es,ep,M,h2,h3,h4,_,h5⟩:=L;refine tM I (by rw[e];exact True.intro) hs ⟨q,M⟩ ⟨hl,hd,_,(rel.put k eb rv).keeps λc ys ec=>?_,q,es,ep,M,h2,h3,h4,h5⟩;rwa[aN (RR ec e (λz=>nomatch z))]
theorem Nn(I:Inv X U Z H s)(e:H a=some (.dK kvs))(g:RelV (kV k) u)(l:mJ kvs k=some v)(hm:ai=[]\/∃x,ai=[x])
  (h:∀b r,Inv X U Z (upd H a (.dK (qV kvs k))) r->RelV v b->ae b r):wpAny (model X.prog X.w) A (call (.builtin "dict.pop") (.ref a::u::ai)) ae E s:=by
 obtain⟨z,hd,vs,rel,dd⟩:=EG I.cL e;obtain⟨b,hw,M⟩:=lN.some_of (v:=v) (o:=valueAt vs k) (by rw[<-l];exact rel.val k);have S:(keyPart u).isSome=true:=by
  cases k with
  |inl i=>obtain⟨t,q⟩:=(show∃t,u=Value.int i t from g);subst q;rfl
  |inr x=>obtain⟨t,q⟩:=(show∃t,u=Value.str x t from g);subst q;rfl
 have ha:argsOk "dict.pop" ⟨.ref a::u::ai,[]⟩:=by
  rcases hm with q|⟨x,q⟩
  .subst q;exact PySem.F.args_dict_pop_2 _ _
  .subst q;exact PySem.F.args_dict_pop_3 _ _ _
 refine ph sE dd.typeIs PySem.F.entry_dict_pop ha (meets_dict_pop_there (bQ X.prog X.w) a (qW g) ai hm S)
  ⟨vs,b,dd,by rwa[<-rel.length],hw,λh' L hs=>h b _ ?_ M⟩
 have he:∃q,h'.get? a=some q:=let⟨q,_,_,hq,_⟩:=L;⟨q,hq⟩
 exact tM I (by rw[e];exact True.intro) hs he (w6 (bI (HR kvs k) z) hd (rel.drop k) L)
theorem OO(I:Inv X U Z H s)(e:H a=some (.dK kvs))(b:RelV (kV k) u)(l:mJ kvs k=none)(h:∀g,Inv X U Z H g->ae r g):
  wpAny (model X.prog X.w) A (call (.builtin "dict.pop") [.ref a,u,r]) ae E s:=by
 obtain⟨z,hd,vs,rel,dd⟩:=EG I.cL e;have hn:valueAt vs k=none:=lN.none_of (by rw[<-l];exact rel.val k);have L:(keyPart u).isSome=true:=by
  cases k with
  |inl i=>obtain⟨t,q⟩:=(show∃t,u=Value.int i t from b);subst q;rfl
  |inr x=>obtain⟨t,q⟩:=(show∃t,u=Value.str x t from b);subst q;rfl
 exact ph sE dd.typeIs PySem.F.entry_dict_pop (PySem.F.args_dict_pop_3 _ _ _) (meets_dict_pop_default (bQ X.prog X.w) a (qW b) hd L r) ⟨vs,dd,hn,h _ (I.tok _)⟩
def Sz(I:Inv X U Z H s)(e:Rd H a (.dK kvs))(h:∀t b,Inv X U Z H b->ae (.int kvs.length t) b):wpAny (model X.prog X.w) A (call (.builtin "len") [.ref a]) ae E s:=by
 obtain⟨z,hd,vs,rel,dd⟩:=ve I.cL e;refine call_len_dict hd dd (by rw[<-rel.length];rw[eW]at z;omega) ?_
 rw[<-rel.length];exact h _ _ (I.tok _)
def OP(i:Expr):Prop:=∀L iv,subscripted i false L iv=operate [L,iv] (getItem L iv)
def Ld{id:String}
  (I:typeLookup (.type T) "__getitem__"=pure (some (.builtin id))) (hs:OP slice)
  (h:wpAny (model prog w) A (eval value env) (λo b=>wpAny (model prog w) A (eval slice env) (λi yj=>yj.TypeIs o T/\wpAny (model prog w) A (getItem o i) Q E yj) E b) E s):
  wpAny (model prog w) A (eval (.Subscript value slice pos) env) Q E s:=by
 refine Subscript_ (d8 h (λo b M=>d8 M (λi yj L=>?_) λ_ _ x=>x) λ_ _ x=>x);obtain⟨g,L⟩:=L;unfold subscriptTail;refine aM ?_
 rw[getitemInPython_of_ne g.not_modules];refine aM (wpAny_specialOf g I ?_);have fin:wpAny (model prog w) A (subscripted slice false o i) (λr q=>wpAny (model prog w) A (letTemporaryGo value o r>>=λ_=>pure r) Q E q) E yj:=by
  rw[hs o i];exact wpAny_operating (d8 L (λr q S=>aM (wpAny_letTemporaryGo (bo S))) λ_ _ x=>x)
 first
  |exact bo (aM fin)
  |exact aM (bo (aM fin))
  |exact aM fin
def A6(I:Inv X U Z H s)(g:rq H a y o):s.TypeIs (.ref a) "dict":=by
 rcases g with⟨kvs,k,e,_,_⟩|⟨kvs,k,b,e,_,_,_⟩
 .obtain⟨_,_,vs,_,dd⟩:=ve I.cL e;exact dd.typeIs
 .obtain⟨_,_,xs,_,dd⟩:=w4 I.cL e;exact dd.typeIs
def SA(b ty g:TE):TS:=λD Z H=>g Z H λv H1=>b Z H1 λx H2=>ty Z H2 λy q=>∃a L,x=.ref a/\Di q a y v L/\D.nx Z L
theorem Lf{X:Cx}(b:X.A.units+1<cLine)(q:PE X o M)(hi:PE X i ty)(S:PE X value tv)(hs:swapsWith value (some (.Subscript o i pos')) ah.line X.env=pure false):
  PS X (.Assign [.Subscript o i pos'] value ah) (SA M ty tv):=by
 intro U s Z H D I h;refine wpAny_Assign_Subscript (ej (S U s Z H _ I h) λr s1 ⟨v,H1,L,rv,q1⟩=>ej (q U s1 Z H1 _ L q1) λu s2 ⟨x,H2,I2,rx,q2⟩=>ej (hi U s2 Z H2 _ I2 q2) λiv s3 ⟨y,H3,I3,ry,a,H4,ex,g,q3⟩=>?_) hs;subst ex;obtain rfl:u=Value.ref a:=rx;exact Gi b I3 g ry rv λs4 I4=>⟨Z,H4,I4,q3⟩
def A7(h:Heap)(hb:sysModules<h.objs.size):cN P w H (h.push {cls:=.type "dict",data:=.dict #[]}) h.objs.size (.dK []):=
 ⟨hX _,gB.mpr (Ne.symm (cY hb)),[],.nil,Heap.DictOf.new h⟩
def OQ:TE:=λ_ H Q=>∀p,H p=none->Q (.ref p) (upd H p (.dK []))
def HU:PE X (.Dict [] [] pos) OQ:=λU s Z H Q I h=>
 wpAny_Dict_empty ⟨.ref s.heap.objs.size,_,I.laid (a:=s.heap.objs.size) (o:=.dK []) (t':=s.toks) (λ_ _ q=>cu _ q) (aZ _) (A7 s.heap I.big),rfl,h _ (I.cL.fresh (aZ _))⟩
def w8:List (TE×TE)->St->Hp->(List (V×V)->Hp->Prop)->Prop
 |[],_,H,Q=>Q [] H
 |(L,b)::r,Z,H,Q=>L Z H λx H1=>b Z H1 λy H2=>w8 r Z H2 λps g=>Q ((x,y)::ps) g
abbrev VV:List (V×V)->List (Value×Value)->Prop:=Paired λp q=>RelV p.1 q.1/\RelV p.2 q.2
def Rl(X:Cx)(pos:Pos)(keys:List (Option Expr))(values:List Expr)(b:List (TE×TE)):Prop:=
 ∀(U:List (Addr×Obj)) (s:Shared) (Z:St) (H:Hp) (Q:List (V×V)->Hp->Prop),Inv X U Z H s->w8 b Z H Q->
  wpAny (model X.prog X.w) X.A (evalPairs (pairTrees keys values X.env pos)) (λvs L=>∃ps H',Inv X U Z H' L/\VV ps vs/\Q ps H') X.xe s
def EH:Rl X pos [] [] []:=λU s Z H Q I h=>pairTrees_nil_walk ⟨[],H,I,.nil,h⟩
def A9(b:PE X k g)(q:PE X c7 r)(M:Rl X pos ks vs S):
  Rl X pos (some k::ks) (c7::vs) ((g,r)::S):=λU s Z H Q I h=>
 pairTrees_cons_walk (ej (b U s Z H _ I h) λu s1 ⟨x,H1,L,rx,q1⟩=>ej (q U s1 Z H1 _ L q1) λw2 s2 ⟨y,H2,I2,ry,q2⟩=>
  ej (M U s2 Z H2 _ I2 q2) λws s3 ⟨ps,H3,I3,rel,q3⟩=>⟨(x,y)::ps,H3,I3,.cons ⟨rx,ry⟩ rel,q3⟩)
def iL(kvs more:List (Key×V)):List (Key×V):=more.foldl (λacc L=>putK acc L.1 L.2) kvs
def KV.merge:∀{more:List (Key×V)} {rs:List (Key×Value)} {kvs:List (Key×V)} {vs:List (Key×Value)},KV more rs->KV kvs vs->KV (iL kvs more) (merged vs rs):=by
 intro more rs kvs vs r;unfold KV at r
 induction r generalizing kvs vs with
 |nil=>intro q;exact q
 |@cons p q ps g h t L=>
  intro b;have e:KV (putK kvs p.1 p.2) (stored vs q.1 q.2):=by
   have:=b.put p.1 h.2;rwa[<-h.1]
  exact L e
theorem i_:∀(more kvs:List (Key×V)),(iL kvs more).length<=kvs.length+more.length
 |[],kvs=>by show kvs.length<=kvs.length+0;omega
 |p::r,kvs=>by
  have L:=i_ r (putK kvs p.1 p.2);have b:=pC kvs p.1 p.2;show(iL (putK kvs p.1 p.2) r).length<=_;rw[dq];omega
theorem w_:∀{kvs:List (Key×V)} {ws:List (Value×Value)},VV (kvs.map λg=>(kV g.1,g.2)) ws->∃rs,Carries (bQ P w) ws rs/\KV kvs rs
 |[],_,r=>by rw[sS]at r;cases r;exact⟨[],True.intro,.nil⟩
 |p::kvs,_,r=>by
  rw[aX]at r;cases r with
  |@cons a b as bs h t=>
   obtain⟨rs,c,q⟩:=w_ (P:=P) (w:=w) t;obtain⟨L,b2⟩:=b;exact⟨(p.1,b2)::rs,⟨qW h.1,rfl,c⟩,.cons ⟨rfl,h.2⟩ q⟩
def SD(b:List (TE×TE)):TE:=λZ H Q=>∀p,H p=none->w8 b Z (upd H p (.dK [])) λps H2=>H2 p=some (.dK [])/\∃kvs:List (Key×V),ps=kvs.map (λL=>(kV L.1,L.2))/\kvs.length<=15/\Q (.ref p) (upd H2 p (.dK (iL [] kvs)))
theorem EI(h:Rl X pos keys values g)(r:keys.all (·.isSome)=true)(M:keys.length=values.length)(h0:keys≠[])
  (S:keys.length<=15):PE X (.Dict keys values pos) (SD g):=by
 intro U s Z H Q I q;have hn:=I.cL.fresh (aZ s.heap.objs.size);have I1:=I.laid (a:=s.heap.objs.size) (o:=.dK []) (h':=s.heap.push {cls:=.type "dict",data:=.dict #[]}) (t':=s.toks) (λ_ _ q=>cu _ q) (aZ _) (A7 s.heap I.big);refine wpAny_Dict_walk (knd:=bQ X.prog X.w) r M h0 S (ej (h U _ Z _ _ I1 (q _ hn)) λws s2 ⟨ps,H2,L,rel,e,kvs,ep,lk,q2⟩=>?_);subst ep;obtain⟨rs,c,rk⟩:=w_ (P:=X.prog) (w:=X.w) rel;obtain⟨z,hd,vs0,r0,dd⟩:=EG L.cL e;cases r0;refine⟨rs,c,dd,λh' b hs=>⟨.ref s.heap.objs.size,_,?_,rfl,q2⟩⟩;have hz:(iL [] kvs).length<=sizeLine:=by
  have h1:=i_ kvs [];rw[wH]at h1;rw[eW];omega
 have he:∃q,h'.get? s.heap.objs.size=some q:=let⟨q,_,_,hq,_⟩:=b;⟨q,hq⟩
 exact tM L (by rw[e];exact True.intro) hs he (w6 hz hd (rk.merge .nil) b)
structure M1(X:Cx)(o:Expr)(m:Str)(b9:Pos)(e:Expr)(cV:Pos):Prop where
 base:attributeBase o m X.env (eval o X.env)=eval o X.env
 U6:((backTo cV (starEach [e] X.env)).all (λx=>!x.1)&&(backToKw cV (keywordEach [] X.env)).all (λx=>x.1.isSome)
  &&decide (([e]:List Expr).length+([]:List Keyword).length+(if([]:List Keyword).isEmpty then 0 else 1)<30))=true
 line:(b9.endLine==cV.line)=true
 trees:backTo cV (starEach [e] X.env)=[(false,eval e X.env)]
structure M2(X:Cx)(o:Expr)(m:Str)(b9:Pos)(e f:Expr)(cV:Pos):Prop where
 base:attributeBase o m X.env (eval o X.env)=eval o X.env
 U6:((backTo cV (starEach [e,f] X.env)).all (λx=>!x.1)&&(backToKw cV (keywordEach [] X.env)).all (λx=>x.1.isSome)
  &&decide (([e,f]:List Expr).length+([]:List Keyword).length+(if([]:List Keyword).isEmpty then 0 else 1)<30))=true
 line:(b9.endLine==cV.line)=true
 trees:backTo cV (starEach [e,f] X.env)=[(false,eval e X.env),(false,eval f X.env)]
def U7(H:Hp)(a:Addr):Prop:=(∃kvs,Rd H a (.dK kvs))\/∃kvs,Rd H a (.dT kvs)
def Dj(I:Inv X U Z H s)(d:U7 H a):
  s.TypeIs (.ref a) "dict"/\(∀b,Value.ref a=.ref b->∃g,s.heap.get? b=some g/\g.dict=none)/\(a==sysModules)=false:=by
 rcases d with⟨kvs,e⟩|⟨kvs,e⟩
 .obtain⟨_,hd,vs,_,dd⟩:=ve I.cL e;refine⟨dd.typeIs,λb q=>?_,hd⟩;cases q;obtain⟨g,_,_,h1,h2,_⟩:=dd;exact⟨g,h1,h2.2.1⟩
 .obtain⟨_,hd,xs,_,dd⟩:=w4 I.cL e;refine⟨dd.typeIs,λb q=>?_,hd⟩;cases q;obtain⟨g,_,_,h1,h2,_⟩:=dd;exact⟨g,h1,h2.2.1⟩
theorem OS{A:Around}(hu:A.units+1<cLine)(I:Inv X U Z H s)(g:rq H a y o)(q:RelV y u)(M:RelV d r)(h:∀S s',Inv X U Z H s'->RelV (o.getD d) S->ae S s'):
  wpAny (model X.prog X.w) A (call (.builtin "dict.get") [.ref a,u,r]) ae E s:=by
 rcases g with⟨kvs,k,e,L,l⟩|⟨kvs,k,b,e,L,eb,l⟩
 .subst L;obtain⟨z,hd,vs,rel,dd⟩:=ve I.cL e;refine ph wg dd.typeIs PySem.F.entry_dict_get (PySem.F.args_dict_get_3 _ _ _) (meets_dict_get_default (bQ X.prog X.w) a (qW q) hd r) ⟨_,dd.mapOf,h _ _ (I.tok _) ?_⟩;rw[l];exact(rel.val k).getD M
 .subst L;cases(show u=Value.ref b from q);obtain⟨z,hd,xs,rel,dd⟩:=w4 I.cL e;refine ph wg dd.typeIs PySem.F.entry_dict_get (PySem.F.args_dict_get_3 _ _ _) (meetsH_dict_get_default (tupleKind (bQ X.prog X.w)) a b hd r) ⟨o5 hu,k,xs,uH I.cL eb,dd,h _ _ (I.tok _) ?_⟩;rw[l];exact(rel.val k).getD M
def OT(b ty g:TE):TE:=λZ H Q=>b Z H λx H1=>∃a,x=.ref a/\U7 H1 a/\ty Z H1 λy H2=>g Z H2 λz L=>∃o,rq L a y o/\Q (o.getD z) L
def OU(b ty:TE):TE:=λZ H Q=>b Z H λx H1=>∃a,x=.ref a/\U7 H1 a/\ty Z H1 λy H2=>∃kvs k v,H2 a=some (.dK kvs)/\y=kV k/\mJ kvs k=some v/\Q v (upd H2 a (.dK (qV kvs k)))
def OV(b ty g:TE):TE:=λZ H Q=>b Z H λx H1=>∃a,x=.ref a/\U7 H1 a/\ty Z H1 λy H2=>g Z H2 λz L=>∃kvs k,L a=some (.dK kvs)/\y=kV k/\
 (∀v,mJ kvs k=some v->Q v (upd L a (.dK (qV kvs k))))/\(mJ kvs k=none->Q z L)
theorem HV{X:Cx}(b:X.A.units+1<cLine)(q:PE X o r)(he:PE X e ty)(hf:PE X f M)(m:M2 X o "get" b9 e f cV):PE X (.Call (.Attribute o "get" b9) [e,f] [] cV) (OT r ty M):=by
 intro U s Z H Q I h;refine wK m.base m.U6 m.line sD wg PySem.F.type_dict_get (ej (q U s Z H _ I h) λu s1 ⟨x,H1,L,S,a,ex,d,q1⟩=>?_);subst ex;obtain rfl:u=Value.ref a:=S;obtain⟨t1,t2,_⟩:=Dj L d;refine⟨t1,t2,?_⟩;rw[m.trees];refine oW rfl (qf (ml (ej (he U s1 Z H1 _ L q1) λiv s2 ⟨y,H2,I2,ry,q2⟩=>
  ml (ej (hf U s2 Z H2 _ I2 q2) λfv s3 ⟨z,H3,I3,rz,ov,g,q3⟩=>sP ?_))))
 exact OS b I3 g ry rz λw' s4 I4 qP=>⟨_,H3,I4,qP,q3⟩
theorem HW(b:PE X o g)(he:PE X e ty)(m:M1 X o "pop" b9 e cV):PE X (.Call (.Attribute o "pop" b9) [e] [] cV) (OU g ty):=by
 intro U s Z H Q I h;refine wK m.base m.U6 m.line sD sE PySem.F.type_dict_pop (ej (b U s Z H _ I h) λu s1 ⟨x,H1,L,q,a,ex,d,r⟩=>?_);subst ex;obtain rfl:u=Value.ref a:=q;obtain⟨t1,M,_⟩:=Dj L d;refine⟨t1,M,?_⟩;rw[m.trees];refine oW rfl (qf (ml (ej (he U s1 Z H1 _ L r) λiv s2 ⟨y,H2,S,ry,kvs,k,v,ea,ey,l,q2⟩=>sP ?_)));subst ey;exact Nn S ea ry l (.inl rfl) λw' s3 I3 qP=>⟨v,_,I3,qP,q2⟩
theorem HX(M:PE X o S)(he:PE X e ty)(hf:PE X f tx)(m:M2 X o "pop" b9 e f cV):PE X (.Call (.Attribute o "pop" b9) [e,f] [] cV) (OV S ty tx):=by
 intro U s Z H Q I h;refine wK m.base m.U6 m.line sD sE PySem.F.type_dict_pop (ej (M U s Z H _ I h) λu s1 ⟨x,H1,b,rx,a,ex,d,q1⟩=>?_);subst ex;obtain rfl:u=Value.ref a:=rx;obtain⟨t1,t2,_⟩:=Dj b d;refine⟨t1,t2,?_⟩;rw[m.trees];refine oW rfl (qf (ml (ej (he U s1 Z H1 _ b q1) λiv s2 ⟨y,H2,I2,g,q2⟩=>
  ml (ej (hf U s2 Z H2 _ I2 q2) λfv s3 ⟨z,H3,q,rz,kvs,k,r,ey,q3,q4⟩=>sP ?_))))
 subst ey;cases l:mJ kvs k with
 |some v=>exact Nn q r g l (.inr ⟨fv,rfl⟩) λw' s4 L qP=>⟨v,_,L,qP,q3 v l⟩
 |none=>exact OO q r g l λs4 L=>⟨z,H3,L,rz,q4 l⟩
theorem yL:∀{vs:List Value} {ns:List Int},IntsAre vs ns->Vals (ns.map V.int) vs
 |_,_,.nil=>.nil
 |_,_,.cons n t h=>.cons ⟨t,rfl⟩ (yL h)
def OW(H:Hp):Prop:=∀b,H b=none\/∃o xs,H b=some (.kQ o (.lst xs))
theorem HY{a:Addr}{x:Str}{dD:Shared}
  (KX:K.In dD.heap) (U8:dD.heap.Ns mainGlobals mg) (hb:dD.heap.Ns builtinsNs mb) (Zz:∀x:Str,x≠"__name__"->mb x=bootBuiltins x) (V6:dD.heap.NoLimit) (hg:dD.gens=#[])
  (ha:dD.heap.get? a=some {cls:=.type "list",data:=.seq ai.toArray}) (hi:IntsAre ai ns) (hl:ns.length<=sizeLine) (hr:cZ k callerA)
  (F:∀base:Heap,K.In base->base.Ns mainGlobals mg->fL P w K mg base CX k fa aj [x] sp) (SE:∀(s:Shared) (u:Value),BindsTo s aj ⟨[u],[]⟩ [(x,u)])
  (HM:∀H:Hp,OW H->lj K H a (ns.map V.int)->sp [.ref a] H (λv _=>v=.bl true) λ_ _ _=>False)
  (V7:∀H e g,CX [] H dD (λ_ _ _=>False) e g->False):
  codeAny (model P w) callerA (.call (.ref fa) ⟨[.ref a],[]⟩) (λr g=>r=.ok (.ret (.bool true))/\OldK dD.heap g.heap/\g.os=dD.os/\AllBare g.gens) dD:=by
 have rv:=yL hi;have V8:=hi.length;have core:∀H:Hp,OW H->lj K H a (ns.map V.int)->ri P w H dD.heap->(∀b,H b≠none->b=a)->(H a≠none->K.lookup a=none)->
   codeAny (model P w) callerA (.call (.ref fa) ⟨[.ref a],[]⟩) (λr g=>r=.ok (.ret (.bool true))/\OldK dD.heap g.heap/\g.os=dD.os/\AllBare g.gens) dD:=by
  intro H hO hS cL hA hK;have EJ:∀{b:Addr} {o:Obj},dD.heap.get? b=some o->H b=none->(zA dD.heap H).get? b=some o:=λe n=>Ho e n;have Sq:∀{b:Addr} {o:Obj} {es:Array DictEntry} {ep:Nat},dD.heap.get? b=some o->o.data=.dict es ep->H b=none:=λ{b o es ep} e d=>by
   cases q:H b with
   |none=>rfl
   |some u=>
    have M:b=a:=hA b (by rw[q];simp);subst M;rw[ha]at e;cases e;have d':Data.seq ai.toArray _=Data.dict es ep:=d;cases d'
  have I:∀{b:Addr} {m:Str->Option Value},dD.heap.Ns b m->(zA dD.heap H).Ns b m:=λ{b m} ⟨o,es,ep,e,d,r⟩=>⟨o,es,ep,EJ e (Sq e d),d,r⟩;have Yk:K.In (zA dD.heap H):=λb o e=>EJ (KX b o e) (by
   cases q:H b with
   |none=>rfl
   |some u=>
    have M:b=a:=hA b (by rw[q];simp);subst M;rw[hK (by rw[q];simp)]at e;cases e)
  have hM:Mod K mg (zA dD.heap H):=⟨Yk,I U8,⟨mb,I hb,Zz⟩,let⟨mc,h1,h2⟩:=V6;⟨mc,I h1,h2⟩⟩;have e0:yk P w K mg (zA dD.heap H) callerA [] dD H:=⟨rfl,hM,λb o e=>KI e,Nat.le_of_eq (F7 _ _),trivial,λb hb=>absurd (show b∈([]:List Addr)from hb) (by simp),cL,.of_eq hg⟩;refine pf ((F _ Yk (I U8)).run callerA [] dD H ⟨[.ref a],[]⟩ [.ref a] [.ref a] _ _ hr e0 (SE dD (.ref a)) (.cons rfl .nil) (HM H hO hS)) λr g h=>?_
  cases r with
  |error e=>exact(V7 H e g h).elim
  |ok fl=>
   cases fl with
   |next=>exact False.elim h
   |brk=>exact False.elim h
   |cont=>exact False.elim h
   |ret u=>
    obtain⟨v,H',os,bare,un,V9,r',q⟩:=h;have q':v=.bl true:=q;subst q';obtain rfl:u=Value.bool true:=r';refine⟨rfl,OldK.of_keep λb o e=>?_,os,bare⟩;cases q:H b with
    |none=>exact un.keep b o e q (by intro z;exact absurd (show b∈([]:List Addr)from z) (by simp)) (by simp)
    |some u=>
     rcases hO b with z|⟨ob,xs,z⟩
     .rw[q]at z;cases z
     .have z2:=un.mG b ob _ z;obtain⟨e1,_⟩:=cL b _ z;obtain⟨e2,_⟩:=V9 b _ z2;rw[e]at e1;cases e1;exact e2
 cases S:K.lookup a with
 |some o=>
  have e:=KX a o S;rw[ha]at e;cases e;refine core (λ_=>none) (λ_=>.inl rfl) (.inr ⟨_,ai.toArray,_,S,rfl,rfl,rfl,by rwa[cE,V8],by simpa using rv⟩) (λb u z=>by have L:(none:Option HO)=some u:=z;cases L) (λb z=>absurd rfl z) λz=>absurd rfl z
 |none=>
  refine core (λb=>if b=a then some (.kQ {cls:=.type "list",data:=.seq ai.toArray} (.lst (ns.map V.int)))else none) (λb=>?_) (.inl (.inr ⟨{cls:=.type "list",data:=.seq ai.toArray},ay rfl⟩)) (λb u z=>?_) (λb z=>?_) λ_=>S
  .by_cases hb:b=a
   .exact .inr ⟨_,_,ay hb⟩
   .exact .inl (aE hb)
  .by_cases hb:b=a
   .have L:=(ay hb).symm.trans z;cases L;subst hb;exact⟨ha,by rwa[aY],ai,_,rv,ha⟩
   .have L:=(aE hb).symm.trans z;cases L
  .by_cases hb:b=a
   .exact hb
   .exact absurd (aE hb) z
def Lg{l:PySem.W.OpenLaw}{I:World->Heap->Prop}{d:DefRec}{K:Params->Frag}{CX:World->K4}{sp:World->Sp}{x:Str}
  (S:l.most=some n) (U4:n<=sizeLine) (RO:d.params.defaults=[]) (hr:cZ k callerA)
  (hY:∀(w:World) (h:Heap),I w h->(K w.params).In h)
  (F:∀(w:World) (mg:Str->Option Value) (fa:Addr) (h:Heap),(K w.params).In h->h.Ns mainGlobals mg->mg d.name=some (.ref fa)->
   ∃fd:FuncData,(∀(s:Shared) (u:Value),BindsTo s fd ⟨[u],[]⟩ [(x,u)])/\
    ∀base:Heap,(K w.params).In base->base.Ns mainGlobals mg->fL l.prog w (K w.params) mg base (CX w) k fa fd [x] (sp w))
  (HM:∀(w:World) (H:Hp) (a:Addr) (ns:List Int),ns.length<=n->OW H->lj (K w.params) H a (ns.map V.int)->sp w [.ref a] H (λv _=>v=.bl true) λ_ _ _=>False)
  (V7:∀(w:World) (H:Hp) (s:Shared) (e:Value) (r:Shared),CX w [] H s (λ_ _ _=>False) e r->False):
  PySem.W.WalkO q loose XP I l.row.toRowW d [] (λf vs=>PySem.call f vs):=by
 refine X9.AK S RO λw g_ dD mg mb fa o pm cd doc a vs ns G ρ ho hd F3 RP N3 hints L hg=>?_
 have M:=hY w _ ρ;obtain⟨fd,hb,hF⟩:=F w mg fa _ M G.T.g RP;exact HY M G.T.g G.T.b G.T.builtins G.T.nolimit hg N3 hints (bI L U4) hr hF hb (λH hO hS=>HM w H a ns L hO hS) λH e r=>V7 w H dD e r
noncomputable def vP(s:Stmt):Arguments:=match s with
 |.FunctionDef _ a _ _ _ _ _ _ _ _=>a
 |_=>{posonlyargs:=[],args:=[],vararg:=none,kwonlyargs:=[],kw_defaults:=[],kwarg:=none,defaults:=[]}
noncomputable def fH(s:Stmt):List Stmt:=match s with
 |.FunctionDef _ _ b _ _ _ _ _ _ _=>b
 |_=>[]
noncomputable def bb(s:Stmt):Scope:=match s with
 |.FunctionDef _ _ _ _ _ _ sc _ _ _=>sc
 |_=>{kind:=.function,names:=[],isGenerator:=false,isCoroutine:=false}
abbrev qX:K4:=λ_ _ _ _ _ _=>False
abbrev E0:XK:=λ_ _ _=>False
def HZ:Passes qX X E0:=λ_ _ _ _ _ _ _ h=>h.elim
structure yd(K:Frag)(x qual:Str)(st:Stmt)(f:Addr)(fd:FuncData):Prop where
 ex:∃(oc:Value) (od:Option Addr) (kV doc pm:Value) (an:Option Addr) (fM ct:Value) (HL:Array (Option Value)),
  fd=PySem.W.fnOf x qual (vP st) (fH st) (bb st) .none kV doc pm an fM ct/\K.lookup f=some ⟨oc,od,.func fd,HL⟩/\PySem.W.codeIn K fM qual=true
 kp:PySem.W.keepIn K (.ref f)=true
def yd.ok {fd:FuncData}{sp:Sp}(F:yd K x qual st f fd)(S:gC N ps (bb st))(len:∀vs H Q E,sp vs H Q E->vs.length=ps.length)
  (b:∀(fM:Value) (A:Around) (outer:List Env) (s:Shared) (H:Hp) (vs:List V) (Q:VK) (E:XK),cZ k (A.deeper (envOfC qual (bb st) s.heap.objs.size f fM))->sp vs H Q E->
   ∃t,yb (oN qX P w K mg base N qual (bb st) f fM A outer s H E).Hd (fH st) t/\t {nx:=λ_ H'=>Q .bL H',rt:=Q} (start N vs) H):fL P w K mg base qX (k+1) f fd ps sp:=by
 obtain⟨I,od,kV,doc,pm,an,fM,ct,HL,rfl,lk,L⟩:=F.ex;refine Ni lk L S len λA outer s H vs Q E g r=>?_
 obtain⟨t,h,q⟩:=b fM A outer s H vs Q E g r;exact⟨t,h.Hd,q⟩
def yd.binds {fd:FuncData}{ps:List Str}(F:yd K x qual st f fd)
  (h:∀(kV doc pm:Value) (an:Option Addr) (fM ct:Value) (us:List Value),us.length=ps.length->bindArgs (PySem.W.fnOf x qual (vP st) (fH st) (bb st) .none kV doc pm an fM ct) ⟨us,[]⟩=pure (ps.zip us)):Binds K fd ps []:=by
 obtain⟨L,od,kV,doc,pm,an,fM,ct,HL,rfl,lk,b⟩:=F.ex;exact .all (h kV doc pm an fM ct)
theorem aB(b:cZ k A):A.units+1<cLine:=nk (Nat.add_le_add_left (by decide:1<=64) _) b.units
def OX{A B:Prop}(h:B):if false=true then A else B:=by
 rwa[aE i7]
def OY{A B:Prop}(h:A):if true=true then A else B:=by
 rwa[ay rfl]
def aI(H H':Hp):Prop:=∀b o,H b=some o->H' b=some o
def aI.refl (H:Hp):aI H H:=λ_ _ h=>h
def aI.trans (a:aI H H1)(b:aI H1 H2):aI H H2:=λc o h=>b c o (a c o h)
def aI.free (e:aI H H')(h:H' l=Option.none):H l=Option.none:=by
 cases q:H l with
 |none=>rfl
 |some o=>
  rw[e l o q]at h;cases h
def aI.seq (e:aI H H')(h:lj K H a xs):lj K H' a xs:=by
 rcases h with(h|⟨o,h⟩)|h
 .exact .inl (.inl (e _ _ h))
 .exact .inl (.inr ⟨o,e _ _ h⟩)
 .exact .inr h
theorem xa{β:Type}{f:α->β->Sem (ForInStep β)}{g:β->α->β}:∀(l:List α) (c:β),(∀x∈l,∀c,f x c=pure (.yield (g c x)))->forIn l c f=(pure (l.foldl g c):Sem β)
 |[],c,_=>rfl
 |x::l,c,h=>by
  rw[wI,h x cJ,pure_bind];exact xa l _ λy L=>h y (cw _ L)
noncomputable def lO(env:Env)(cs:List (Str×Addr))(x:Str×NameKind):List (Str×Addr):=if x.2== .free then(x.1,(env.cells.lookup x.1).getD 0)::cs else cs
def Dk(scope:Scope)(env:Env):List (Str×Addr):=scope.names.foldl (lO env) []
def tN{scope:Scope}{env:Env}(h:∀x∈scope.names,x.2=.free->∃c,env.cells.lookup x.1=some c):closureFor scope env=pure (Dk scope env):=by
 simp only[closureFor];rw[xa (g:=lO env) scope.names [] (λx b c=>by
  obtain⟨n,k⟩:=x;by_cases L:k=.free
  .subst L;obtain⟨a,ha⟩:=h _ b rfl;have q:env.cells.lookup n=some a:=ha;simp[cellOf,q,lO]
  .have e:(k==NameKind.free)=false:=by simpa using L
   simp[e,lO])]
 rfl
theorem xf{env:Env}:∀(names:List (Str×NameKind)) (acc:List (Str×Addr)),(∀x∈names,x.2=.free->∃c,env.cells.lookup x.1=some c)->(∀x c,acc.lookup x=some c->env.cells.lookup x=some c)->
  ∀x c,(names.foldl (lO env) acc).lookup x=some c->env.cells.lookup x=some c
 |[],_,_,ha,x,c,e=>ha x c e
 |(n,k)::r,acc,hf,ha,x,c,e=>by
  refine xf r (lO env acc (n,k)) (λy b=>hf y (cw _ b)) (λy d L=>?_) x c e;unfold lO at L;by_cases g:k=.free
  .subst g;obtain⟨a,hn⟩:=hf (n,.free) cJ rfl;have q:env.cells.lookup n=some a:=hn;simp only[aU,aP,q,wC,cn]at L;split at L
   .rename_i b;have:y=n:=by simpa using b
    subst this;rwa[q]
   .exact ha y d L
  .have e:(k==NameKind.free)=false:=by simpa using g
   simp only[e,bP,bq]at L;exact ha y d L
theorem xg:∀(names:List (Str×NameKind)) (acc:List (Str×Addr)) (x:Str),((acc.lookup x).isSome=true\/(x,NameKind.free)∈names)->((names.foldl (lO env) acc).lookup x).isSome=true
 |[],_,_,h=>h.elim (λz=>z) λz=>absurd z (by simp)
 |(n,k)::r,acc,x,h=>by
  refine xg r (lO env acc (n,k)) x ?_
  unfold lO;rcases h with h|h
  .left;split
   .rw[cn];split<;>simp_all
   .exact h
  .rcases a_.mp h with h|h
   .left;cases h;simp[cn]
   .exact .inr h
theorem rA{env:Env}:∀{names:List (Str×NameKind)} {x:Str} {k:NameKind},(names.map λ(n,k)=>if(k==NameKind.free&&env.scope.kind== .function&&env.kindOf n==some .cell)then(n,NameKind.cell)else(n,k)).lookup x=some k->
  names.lookup x=some k\/names.lookup x=some .free
 |[],_,_,h=>by simp at h
 |(n,j)::r,x,k,h=>by
  simp only[aX]at h;by_cases b:x=n
  .subst b;by_cases L:(j==NameKind.free&&env.scope.kind== .function&&env.kindOf x==some .cell)=true
   .rw[ay L]at h;simp only[bC,fG]at L;right;rw[cn,aU,L.1.1]
   .rw[aE L]at h;left;rw[cn,aU]at h⊢;exact h
  .have e:(x==n)=false:=by simpa using b
   have h':(r.map λ(n,k)=>if(k==NameKind.free&&env.scope.kind== .function&&env.kindOf n==some .cell)then(n,NameKind.cell)else(n,k)).lookup x=some k:=by
    split at h<;>(rw[cn,e]at h;exact h)
   rcases rA h' with z|z
   .left;rwa[cn,e]
   .right;rwa[cn,e]
theorem tR{env:Env}:∀{names:List (Str×NameKind)} {x:Str},names.lookup x=some .free->
  (names.map λ(n,k)=>if(k==NameKind.free&&env.scope.kind== .function&&env.kindOf n==some .cell)then(n,NameKind.cell)else(n,k)).lookup x=some .cell\/
  (names.map λ(n,k)=>if(k==NameKind.free&&env.scope.kind== .function&&env.kindOf n==some .cell)then(n,NameKind.cell)else(n,k)).lookup x=some .free
 |[],_,h=>by simp at h
 |(n,j)::r,x,h=>by
  simp only[aX];by_cases L:x=n
  .subst L;rw[cn,aU]at h;have g:j=.free:=Option.some.inj h;by_cases b:(j==NameKind.free&&env.scope.kind== .function&&env.kindOf x==some .cell)=true
   .left;rw[ay b,cn,aU]
   .right;rw[aE b,cn,aU,g]
  .have e:(x==n)=false:=by simpa using L
   rw[cn,e]at h;rcases tR (env:=env) h with z|z
   .left;split<;>(rwa[cn,e])
   .right;split<;>(rwa[cn,e])
def tT(X:Cx)(scope:Scope)(N:List Str)(s:Shared)(H:Hp)(ex:List Addr):Cx where
 prog:=X.prog
 w:=X.w
 K:=X.K
 mg:=X.mg
 base:=X.base
 A:=X.A
 N:=N
 g_:=s
 AN:=H
 env:=compEnvC scope (Dk scope X.env) s.heap.objs.size X.env
 outer:=X.stack
 stack:=X.stack
 ex:=ex
 fn:=λ_=>false
 calm:=X.calm
 pn:=[]
 xe:=λ_ _=>False
noncomputable def SF(N N':List Str)(ix:List (Option Nat))(sc scope:Scope):Bool:=
 decide (N'.length=ix.length)&&(N'.zip ix).all (λp=>match p.2 with
  |none=>true
  |some j=>decide (N[j]?=some p.1)&&decide (scope.names.lookup p.1=some .free))&&
 scope.names.all (λy=>y.2 != .cell&&(y.2 != .free||decide (sc.names.lookup y.1=some .cell))&&(y.2 != .local||decide (scope.names.lookup y.1=some .local)))&&(scope.kind== .function)
structure ji(X:Cx)(N':List Str)(ix:List (Option Nat))(scope:Scope):Prop where
 len:N'.length=ix.length
 free:∀(i:Nat) (x:Str) (j:Nat),N'[i]?=some x->ix[i]?=some (some j)->X.N[j]?=some x/\scope.names.lookup x=some .free
 H_:∀y∈scope.names,y.2≠ .cell
 cell:∀y∈scope.names,y.2=.free->X.env.scope.names.lookup y.1=some .cell
 loc:∀y∈scope.names,y.2=.local->scope.names.lookup y.1=some .local
 kind:scope.kind=.function
def ji.of {X:Cx}{N:List Str}{sc:Scope}(g:X.N=N)(hs:X.env.scope=sc)(h:SF N N' ix sc scope=true):ji X N' ix scope:=by
 unfold SF at h;simp only[bC,jJ,fU]at h;obtain⟨⟨⟨r,h2⟩,b⟩,I⟩:=h;refine⟨r,λi x j M S=>?_,λy L z=>?_,λy L z=>?_,λy L z=>?_,by simpa using I⟩
 .have m:(x,some j)∈N'.zip ix:=eQ (i:=i) (by rw[List.getElem?_zip_eq_some];exact⟨M,S⟩);have q:=h2 _ m;simp only[bC,jJ]at q;rwa[g]
 .have q:=(b y L).1.1;rw[z]at q;simp at q
 .have q:=(b y L).1.2;rw[z]at q;simp only[bne_self_eq_false,pb,jJ]at q;rwa[hs]
 .have q:=(b y L).2;rw[z]at q;simp only[bne_self_eq_false,pb,jJ]at q;exact q
noncomputable def ja(ix:List (Option Nat))(Z:St):St:=ix.map λo=>o.bind λj=>(Z[j]?).join
theorem Dl{fp:List Addr}(L:ji X N' ix scope)(I:Inv X U Z H s)
  (U8:h'.Ns s.heap.objs.size (λ_=>none)) (M:∀b o,s.heap.get? b=some o->h'.get? b=some o)
  (hf:∀b∈fp,pw X U H b) (ZA:∀b∈fp,b<s.heap.objs.size):Inv (tT X scope N' s H fp) [] (ja ix Z) H {s with heap:=h',toks:=aa}:=by
 have xh:∀y∈scope.names,y.2=.free->∃c,X.env.cells.lookup y.1=some c:=λy hy z=>I.ok.has y.1 (.inl (L.cell y hy z));have sub:∀x c,(Dk scope X.env).lookup x=some c->X.env.cells.lookup x=some c:=xf scope.names [] xh (λx c e=>by simp at e);have has:∀x,scope.names.lookup x=some .free->∃c,(Dk scope X.env).lookup x=some c:=λx e=>
  sA.mp (xg scope.names [] x (.inr (kZ e)))
 have Kv:∀b∈fp,b∉jB X.stack:=λb hb z=>by
  obtain⟨_,f1,f2,_⟩:=hf b hb;rcases a_.mp (I.wN b z)with q|q
  .exact f1 q
  .exact f2 q
 refine⟨⟨I.ok.mod,L.kind,I.ok.glob,I.ok.blt,aZ _,λx y c e1 g=>I.ok.inj x y c (sub x c e1) (sub y c g),λx hx=>?_,λx c z=>absurd (show false=true from z) i7,I.ok.hd,I.ok.frames,.inl rfl,
   λb hb=>⟨cY (ZA b hb),λx c e=>(hf b hb).2.2.2.2.1 x c (sub x c e)⟩,I.bs,bI I.ok.F8 I.sz,λb o e hb=>?_,Kv,I.stack,I.vO⟩,
  rfl,I.bare,Un.kept M,⟨_,U8,λi x v e1 g e3=>?_⟩,λx c e=>?_,I.fresh,λx c e=>I.gv x c (sub x c e),λp hp=>absurd (show p∈([]:List (Addr×Obj))from hp) (by simp),I.cL.kept M,?_⟩
 .have hx:(relabel scope X.env).names.lookup x=some .cell\/(relabel scope X.env).names.lookup x=some .free:=hx;have Ew:scope.names.lookup x=some .free:=by
   rcases hx with z|z
   .rcases rA z with q|q
    .exact absurd rfl (L.H_ _ (kZ q))
    .exact q
   .rcases rA z with q|q
    .exact q
    .exact q
  exact has x Ew
 .obtain⟨_,_,_,q,_⟩:=hf b hb;rcases q with q|q
  .exact I.ok.AO b o e q
  .exact absurd (dH (bD (I.ok.bs b o e).1) q) (fE _)
 ·
  unfold ja at g;rw[b_]at g;cases eo:ix[i]? with
  |none=>rw[eo]at g;cases g
  |some o=>
   rw[eo]at g;cases o with
   |none=>exact absurd (show(some none:Option (Option V))=some (some v)from g) (by simp)
   |some j=>
    obtain⟨n1,n2⟩:=L.free i x j e1 eo;have S:(Z[j]?).join=some v:=Option.some.inj (show some ((Z[j]?).join)=some (some v)from g);have e4:Z[j]?=some (some v):=by
     cases q:Z[j]? with
     |none=>rw[q]at S;cases S
     |some z=>
      rw[q]at S;have:z=some v:=S;rw[this]
    have Ia:X.env.scope.names.lookup x=some .cell:=L.cell _ (kZ n2) rfl;obtain⟨m,hn,hl⟩:=I.loc;obtain⟨u,r,l⟩:=hl j x v n1 e4 (.inr (.inl Ia));refine⟨u,r,?_⟩;rcases l with⟨k,_⟩|⟨k,c,ec,z⟩
    .have k':X.env.scope.names.lookup x=some .local:=k;rw[Ia]at k';cases k'
    .obtain⟨c',R0⟩:=has x n2;have ZC:c'=c:=by
      have q:=sub x c' R0;rw[ec]at q;exact(Option.some.inj q).symm
     subst ZC;refine .inr ⟨?_,c',R0,?_⟩
     .exact tR n2
     .obtain⟨o',KL,KN⟩:=z;exact⟨o',M _ _ KL,KN⟩
 .obtain⟨v,o,ho,hd⟩:=I.cell x c (sub x c e);exact⟨v,o,M _ _ ho,hd⟩
 .show(ja ix Z).length=N'.length;unfold ja;rw[aY];exact L.len.symm
noncomputable abbrev EK(ifs:List Expr)(env:Env):Sem Bool:=forIn ifs true λc r=>if r=true then do let ok<-isTrue c env (eval c env);pure (ForInStep.yield ok)else pure (ForInStep.yield r)
theorem Lh{R:Result->Shared->Prop}{acc:Value}(I:Nat->Shared->Prop)
  (turn:∀n s,I n s->wpAny (model prog w) A (pyNext it) (λr b=>match r with
   |none=>R (.ok .next) b
   |some v=>wpAny (model prog w) A (letOwnedTupleGo target it v) (λ_ q=>wpAny (model prog w) A (assign target env v) (λ_ M=>
     wpAny (model prog w) A (EK ifs env) (λok g=>
      if ok=true then wpAny (model prog w) A (eval elt env) (λx S=>
       wpAny (model prog w) A (call (.builtin "list.append") [acc,x]) (λ_ SG=>∃m,m<n/\I m SG) (λ_ _=>False) S) (λ_ _=>False) g
      else∃m,m<n/\I m g) (λ_ _=>False) M) (λ_ _=>False) q) (λ_ _=>False) b) (λ_ _=>False) s)
  (n:Nat) (h:I n s):codeAny (model prog w) A (.compLoop (.ListComp elt [⟨target,c7,ifs,0⟩] scope pos) 0 it acc env) R s:=by
 refine codeAny_loop rfl I (λn s hI=>?_) n h;show wpAny _ A ((compTurn (.ListComp elt [⟨target,c7,ifs,0⟩] scope pos) 0 it acc env).onRaise (λx=>do noteFrame x env;theTreesLotGoes x)) _ _ s;refine wpAny_noted ?_
 rw[compTurn_list];refine aM (wpAny_standAt (aM (d8 (turn n s hI) (λr b L=>?_) λ_ _ f=>f.elim)));cases r with
 |none=>exact bo L
 |some v=>
  refine aM (d8 L (λ_ q SH=>?_) λ_ _ f=>f.elim);refine aM (d8 SH (λ_ M HS=>aM (d8 HS (λok g Le=>?_) λ_ _ f=>f.elim)) λ_ _ f=>f.elim);cases ok with
  |false=>exact bo ⟨rfl,Le⟩
  |true=>exact aM (aM (d8 Le (λx S V_=>aM (d8 V_ (λ_ SG V'=>bo (bo ⟨rfl,V'⟩)) λ_ _ f=>f.elim)) λ_ _ f=>f.elim))
def PF(X:Cx)(ifs:List Expr)(t:TT):Prop:=
 ∀(U:List (Addr×Obj)) (s:Shared) (Z:St) (H:Hp) (Q:Bool->Hp->Prop),Inv X U Z H s->t Z H Q->wpAny (model X.prog X.w) X.A (EK ifs X.env) (TP X U Z Q) X.xe s
def OZ:PF X [] (λ_ H Q=>Q true H):=λ_ _ _ H _ I h=>wpAny_tests_nil ⟨H,I,h⟩
def O0(h:PT X c t):PF X [c] t:=λU s Z H Q I q=>wpAny_tests_one (h U s Z H Q I q)
def Wa(J:It)(D:Addr)(S:St)(H0:Hp)(g:TG)(tc:TT)(te:TE)(Q:Hp->Prop):Prop:=
 ∃W:Nat->Nat->St->Hp->Prop,(∃m,W 0 m S H0)/\∀i m Z H,W i m Z H->(J.stop i H/\Q H)\/
  (J.go i H/\∃N:St->Hp->Prop,(∀q H',N q H'->∃r,r<m/\W (i+1) r q H')/\∀x H',J.Hz i H x H'->g x Z H' λL H2=>tc L H2 λb I=>
    if b=true then te L I λy M=>∃ys,M D=some (.lst ys)/\ys.length<sizeLine/\N L (upd M D (.lst (ys++[y])))else N L I)
def Rn(b:TI)(ix:List (Option Nat))(g:TG)(q:TT)(r:TE):TE:=λZ H Q=>b Z H λJ H1=>∀D,H1 D=none->Wa J D (ja ix Z) (upd H1 D (.lst [])) g q r λH'=>Q (.ref D) H'
theorem EL{QD:Addr->Hp->Prop}{fp:List Addr}{tn:Nat->Heap->Prop}
  (L:ji X N' ix scope) (hc:X.calm=true) (rB:∀s H ex,PG (tT X scope N' s H ex) tg g/\PF (tT X scope N' s H ex) ifs tc/\PE (tT X scope N' s H ex) elt te)
  (I2:Inv X U Z H2 s2) (T:Turn X.prog X.w X.K tg J fp it tn) (KW:tn 0 s2.heap) (f2:∀b∈fp,pw X U H2 b)
  (hw:∀D,H2 D=none->Wa J D (ja ix Z) (upd H2 D (.lst [])) g tc te (QD D))
  (Wc:∀D C H' M m,Inv X U Z H' M->pw X U H' C->M.heap.Ns C m->QD D H'->compPost (model X.prog X.w) X.A X.xe use Qf (.ref D) C (.ok .next) M):
  wpAny (model X.prog X.w) X.A (newList []) (λacc A5=>wpAny (model X.prog X.w) X.A (newFunctionEnv scope X.env.globals (Dk scope X.env) [] X.env.qual none .none (some X.env)) (λSI Li=>
   codeAny (model X.prog X.w) X.A (.compStart (.ListComp elt [⟨tg,c7,ifs,0⟩] scope pos) 0 (.ref it) acc {SI with scope:=relabel scope X.env}) (compPost (model X.prog X.w) X.A X.xe use Qf acc SI.locals) Li) X.xe A5) X.xe s2:=by
 refine wpAny_newObj_type (wpAny_newFunctionEnv L.H_ (by intro y hy;simp at hy) (λqQ Dm Dn=>?_) L.kind);dsimp only at Dm Dn⊢;have hD:H2 s2.heap.objs.size=none:=I2.fresh;have I3:Inv X U Z (upd H2 s2.heap.objs.size (.lst [])) {s2 with heap:=s2.heap.push {cls:=.type "list",data:=.seq ([]:List Value).toArray},toks:=s2.toks}:=I2.Lb (bM:=[]) .nil (hX _);generalize ZD:({s2 with heap:=s2.heap.push {cls:=.type "list",data:=.seq ([]:List Value).toArray},toks:=s2.toks}:Shared)=s3 at I3;have e3:({s2 with heap:=s2.heap.push {cls:=.type "list",dict:=none,data:=.seq ([]:List Value).toArray}}:Shared)=s3:=ZD;have eh:s2.heap.push {cls:=.type "list",dict:=none,data:=.seq ([]:List Value).toArray}=s3.heap:=cR Shared.heap e3;have ZF:s3.os=s2.os:=by rw[<-e3]
 have ek:∀b o,s2.heap.get? b=some o->s3.heap.get? b=some o:=λb o e=>by rw[<-eh];exact cu _ e
 have Yl:s2.heap.objs.size<=s3.heap.objs.size:=by rw[<-eh,pd];exact sW _
 rw[eh]at Dm Dn⊢;have f3:∀b∈fp,pw X U (upd H2 s2.heap.objs.size (.lst [])) b:=λb hb=>by
  obtain⟨o,eo,_⟩:=T.obj _ _ KW b hb;refine⟨?_,(f2 b hb).2⟩;rw[aN (cY (bD eo))];exact(f2 b hb).1
 have qi:∀b∈fp,b<s3.heap.objs.size:=λb hb=>by
  obtain⟨o,eo,_⟩:=T.obj _ _ KW b hb;exact dH (bD eo) Yl
 have k4:∀b o,s3.heap.get? b=some o->qQ.get? b=some o:=λb o e=>Dn.extBut b o (cY (bD e)) (cu _ e);have Ym:tn 0 qQ:=T.keep _ _ _ KW λb _ o e=>k4 b o (ek b o e);obtain⟨W,⟨m0,w0⟩,turn⟩:=hw s2.heap.objs.size hD;have I4:∀q,Inv (tT X scope N' s3 (upd H2 s2.heap.objs.size (.lst [])) fp) [] (ja ix Z) (upd H2 s2.heap.objs.size (.lst [])) {s3 with heap:=qQ,toks:=q}:=λq=>
  Dl L I3 Dm k4 f3 qi
 obtain⟨hg,hf,he⟩:=rB s3 (upd H2 s2.heap.objs.size (.lst [])) fp;have C1:∀{H':Hp},(∀b∈fp,H' b=none)->∀b∈fp,pw (tT X scope N' s3 (upd H2 s2.heap.objs.size (.lst [])) fp) [] H' b:=λ{H'} hn b hb=>by
  have ok:=(I4 0).ok;obtain⟨x1,x2⟩:=ok.Rf b hb;exact⟨hn b hb,x1,ok.AQ b hb,.inl hb,x2,λp hp=>absurd (show p∈([]:List (Addr×Obj))from hp) (by simp)⟩
 have loop:∀q,codeAny (model X.prog X.w) X.A (.compLoop (.ListComp elt [⟨tg,c7,ifs,0⟩] scope pos) 0 (.ref it) (.ref s2.heap.objs.size) (compEnvC scope (Dk scope X.env) s3.heap.objs.size X.env))
   (compPost (model X.prog X.w) X.A X.xe use Qf (.ref s2.heap.objs.size) s3.heap.objs.size) {s3 with heap:=qQ,toks:=q}:=λq=>by
  refine Lh (λn M=>∃i dy H',Inv (tT X scope N' s3 (upd H2 s2.heap.objs.size (.lst [])) fp) [] dy H' M/\tn i M.heap/\(∀b∈fp,H' b=none)/\W i n dy H') ?_ m0
   ⟨0,_,_,I4 q,Ym,λb hb=>(f3 b hb).1,w0⟩
  rintro n s5 ⟨i,U_,S,I5,Ri,U3,w5⟩
  rcases turn i n U_ S w5 with⟨stop,qn⟩|⟨go,N,hN,step⟩
  .refine ej (T.done (tT X scope N' s3 (upd H2 s2.heap.objs.size (.lst [])) fp) rfl rfl rfl hc i [] s5 U_ S _ I5 (C1 U3) Ri stop) λr s6 ⟨hr,I6⟩=>?_
   subst hr;have u:Un (jB X.stack) fp H2 S s2.heap s6.heap:=(Un.laid (o:=.lst []) ek (aZ _) hD).trans I6.base;have J6:Inv X U Z S s6:=I2.R3 (ch:=fp) (I6.os.trans ZF) u I6.cL I6.bare λb hb=>by
    obtain⟨_,x1,_,x3,x4,x5⟩:=f2 b hb;exact⟨x3,x1,x4,x5⟩
   obtain⟨m,hm,_⟩:=I6.loc;exact Wc _ _ S s6 m J6 (I2.CW Yl I6.free) hm qn
  .refine ej (T.item (tT X scope N' s3 (upd H2 s2.heap.objs.size (.lst [])) fp) rfl rfl rfl hc i [] s5 U_ S _ I5 (C1 U3) Ri go) λr s6 ⟨v,hr,h6⟩=>?_
   subst hr;refine ej h6 λ_ s7 ⟨x,H7,I7,r7,y7,Wd,ZG⟩=>?_
   have ZH:=I7.pinned (C1 ZG) (T.obj _ _ Wd);refine ej (hg _ s7 U_ H7 x v _ ZH r7 (step x H7 y7)) λ_ s8 ⟨U',H8,I8,q8⟩=>?_
   have again:∀{SJ:St} {I:Hp} {s9:Shared},Inv (tT X scope N' s3 (upd H2 s2.heap.objs.size (.lst [])) fp) ([]++wU fp s7.heap) SJ I s9->N SJ I->
     ∃m,m<n/\∃i dy H',Inv (tT X scope N' s3 (upd H2 s2.heap.objs.size (.lst [])) fp) [] dy H' s9/\tn i s9.heap/\(∀b∈fp,H' b=none)/\W i m dy H':=λ{SJ I s9} I9 n9=>by
    obtain⟨m',hm,w9⟩:=hN SJ I n9;refine⟨m',hm,i+1,SJ,I,I9.tm,T.keep _ _ _ Wd λb hb o e=>(I9.pin (b,o) (dm _ (dm _ (nu hb e)))).1,λb hb=>?_,w9⟩;obtain⟨o,e,d⟩:=T.obj _ _ Wd b hb;exact(I9.pin (b,o) (dm _ (dm _ (nu hb e)))).2.1
   refine ej (hf _ s8 U' H8 _ I8 q8) λok s9 ⟨I,I9,q9⟩=>?_
   cases ok with
   |false=>exact again I9 q9
   |true=>
    refine ej (he _ s9 U' I _ I9 q9) λy ZI ⟨v10,ZJ,ZK,ZM,ys,hy,hz,ZN⟩=>?_
    refine ej (gZ _ ZI U' ZJ (.ref s2.heap.objs.size) [v10] (.ref s2.heap.objs.size) [y] (λ_ H'=>N U' H') ZK rfl (.cons ZM .nil) ⟨_,ys,v10,rfl,rfl,hy,hz,ZN⟩) λ_ s11 ⟨_,H11,ZP,_,ZQ⟩=>?_
    exact again ZP ZQ
 have es:∀q,({s2 with heap:=qQ,toks:=q}:Shared)={s3 with heap:=qQ,toks:=q}:=λq=>by rw[<-e3]
 have Nr:∀q,codeAny (model X.prog X.w) X.A (.compLoop (.ListComp elt [⟨tg,c7,ifs,0⟩] scope pos) 0 (.ref it) (.ref s2.heap.objs.size) (compEnvC scope (Dk scope X.env) s3.heap.objs.size X.env))
   (compPost (model X.prog X.w) X.A X.xe use Qf (.ref s2.heap.objs.size) s3.heap.objs.size) {s2 with heap:=qQ,toks:=q}:=λq=>by
  rw[es q];exact loop q
 exact codeAny_compStart_list (Nr _) (T.self _ 0 _ _ _ Ym (Nr _))
def Ib(L:ji X N' ix scope)(r:X.calm=true)(hi:PI X tg c7 M)(S:∀s H ex,PG (tT X scope N' s H ex) tg g/\PF (tT X scope N' s H ex) ifs tc/\PE (tT X scope N' s H ex) elt te)
  (hs:∀x,foldedSetIterable c7 X.env x=pure x:=by intro _;rfl):PE X (.ListComp elt [⟨tg,c7,ifs,0⟩] scope pos) (Rn M ix g tc te):=by
 intro U s Z H Q I h;have xh:∀y∈scope.names,y.2=.free->∃c,X.env.cells.lookup y.1=some c:=λy hy z=>I.ok.has y.1 (.inl (L.cell y hy z));rw[eval_ListComp];refine wpAny_comprehension_free (use:=none) rfl hs (tN xh) L.kind L.loc (ej (hi U s Z H _ I h) λv s1 h1=>ej h1 λU1 s2 h2=>?_);obtain⟨it,fp,tn,J,H2,e,I2,T,KW,f2,hw⟩:=h2;subst e;refine EL (QD:=λD H'=>Q (.ref D) H') L r S I2 T KW f2 hw λD C H' s' m I' fC hm q=>⟨m,hm,λh' Np=>?_⟩;obtain⟨x0,x1,x2,x3,x4,x5⟩:=fC;exact⟨.ref D,H',I'.turned (t':=s'.toks) (λb o hb e=>(Np.2 b hb).trans e) x0 x1 x3 x4 x5,rfl,q⟩
def xi{x:Str}(L:ji X N' ix scope)(hc:X.calm=true)(hN:X.N.Nodup)(hi:X.N[aa]?=some x)(hx:Loc X.env.scope x)(hit:PI X tg c7 wi)
  (rB:∀s H ex,PG (tT X scope N' s H ex) tg g/\PF (tT X scope N' s H ex) ifs tc/\PE (tT X scope N' s H ex) elt te)
  (O1:swapsWith (.ListComp elt [⟨tg,c7,ifs,0⟩] scope pos) (some (.Name x r)) ah.line X.env=pure true:=by rfl)
  (hs:∀x,foldedSetIterable c7 X.env x=pure x:=by intro _;rfl) (hf:CV X x:=by first|exact .inl rfl|exact .inr rfl|assumption):
  PS X (.Assign [.Name x r] (.ListComp elt [⟨tg,c7,ifs,0⟩] scope pos) ah) (λD Z H=>Rn wi ix g tc te Z H λv H'=>D.nx (Z.set aa (some v)) H'):=by
 intro U s Z H D I h;have xh:∀y∈scope.names,y.2=.free->∃c,X.env.cells.lookup y.1=some c:=λy hy z=>I.ok.has y.1 (.inl (L.cell y hy z));rw[exec_Assign_Name_used _ _ _ _ O1];refine aM (wpAny_standAt (aM ?_));show wpAny _ X.A (do let _<-comprehension (.ListComp elt [⟨tg,c7,ifs,0⟩] scope pos) scope X.env _ (newList []) false (eval c7 X.env) (some (assign (.Name x r) X.env))) _ _ s;refine aM (d8 (wpAny_comprehension_free (use:=some (assign (.Name x r) X.env)) (Q:=λ_ S=>SP X U D .next S) rfl hs (tN xh) L.kind L.loc
  (ej (hit U s Z H _ I h) λv s1 h1=>ej h1 λU1 s2 h2=>?_)) (λ_ S hq=>bo (bo hq)) λ_ _ e=>e)
 obtain⟨it,fp,tn,J,H2,e,I2,T,KW,f2,hw⟩:=h2;subst e;refine EL (QD:=λM H'=>D.nx (Z.set aa (some (.ref M))) H') L hc rB I2 T KW f2 hw λM C H' S m I' fC hm q=>?_
 obtain⟨x0,x1,x2,x3,x4,x5⟩:=fC;show wpAny _ X.A (assign (.Name x r) X.env (.ref M)) _ _ _;refine wpAny_assign_Name (yB I' hN hi hx (v:=.ref M) rfl (λOE ZR CM=>?_) hf);obtain⟨a,Np,ha⟩:=CM;have ZU:C≠a:=by
  rcases ha with ha|ha
  .rwa[ha]
  .exact λz=>x4 _ _ ha z.symm
 refine⟨m,hm.sameBut Np ZU,λh' We=>?_⟩;exact⟨_,H',ZR.turned (t':=OE.toks) (λb o hb e=>(We.2 b hb).trans e) x0 x1 x3 x4 x5,q⟩
def Va(z:Str):It:=⟨λi _=>i<z.cps.size,λi H x H'=>H'=H/\∃c,z.cps[i]?=some c/\x=.str ⟨#[c]⟩,λi _=>i=z.cps.size⟩
theorem A_{z:Str}(hn:["enumerate","zip","dict_itemiterator","dict_reverseitemiterator","odict_iterator","itertools.zip_longest","itertools.pairwise"].contains n=false)
  (W:∀A':Around,A'.handled=none->Walks P w A' it [it] [it] z.cps.size (SignAt z) (λi h=>h.IsStrIter it n z t i))
  (self:∀(A:Around) (i:Nat) (s:Shared) (Q:Value->Shared->Prop) (E:Value->Shared->Prop),s.heap.IsStrIter it n z t i->Q (.ref it) s->wpAny (model P w) A (pyIter (.ref it)) Q E s):
  Turn P w K tg (Va z) [it] it (λi h=>h.IsStrIter it n z t i) where
 mem:=by simp
 obj:=λi h st b hb=>by
  have e:b=it:=by simpa using hb
  subst e;obtain⟨o,e,c,d⟩:=st;exact⟨o,e,λv q=>by rw[d]at q;cases q⟩
 keep:=λi h h' st k=>by
  obtain⟨o,e,c,d⟩:=st;exact⟨o,k it (by simp) o e,c,d⟩
 item:=by
  intro X L hw g r i U s Z H E I hf st M;subst L hw g;obtain⟨f0,f1,f2,S,f4,f5⟩:=hf it (by simp);refine(W X.A (I.ok.hd r)).item i s _ _ M st λv h' tk hv zD kk=>?_
  obtain⟨c,u,ZV,rfl⟩:=hv;have I1:Inv X U Z H {s with heap:=h',toks:=tk}:=I.turned (λb o hb e=>kk b o (by simpa using hb) e) f0 f1 S f4 f5;obtain⟨o,e,cl,d⟩:=id zD;exact⟨_,rfl,yD (s:={s with heap:=h',toks:=tk}) e cl d hn ⟨.str ⟨#[c]⟩,H,I1,⟨u,rfl⟩,⟨rfl,c,ZV,rfl⟩,zD,λb hb=>(hf b hb).1⟩⟩
 done:=by
  intro X L hw g r i U s Z H E I hf st M;subst L hw g;obtain⟨f0,f1,f2,S,f4,f5⟩:=hf it (by simp);have e:i=z.cps.size:=M;subst e;exact(W X.A (I.ok.hd r)).done s _ _ st λh' tk kk=>⟨rfl,I.turned (λb o hb e=>kk b o (by simpa using hb) e) f0 f1 S f4 f5⟩
 self:=self
noncomputable def Ba(lo:Int)(n:Nat):List V:=(List.range n).map λk=>V.int (lo+(k:Nat))
def vf(lo:Int)(n:Nat):(Ba lo n).length=n:=by simp[Ba]
theorem lj.upd {H:Hp}(b:H D=none)(h:lj K H a xs):lj K (upd H D o) a xs:=by
 rcases h with(h|⟨L,h⟩)|h
 .exact .inl (.inl (by rwa[aN (cB h b)]))
 .exact .inl (.inr ⟨L,by rwa[aN (cB h b)]⟩)
 .exact .inr h
theorem mf.upd {H:Hp}(b:H D=none)(h:mf K H a xs):mf K (upd H D o) a xs:=by
 rcases h with(h|⟨L,h⟩)|h
 .exact .inl (.inl (by rwa[aN (cB h b)]))
 .exact .inl (.inr ⟨L,by rwa[aN (cB h b)]⟩)
 .exact .inr h
def Gk:sr X (compareOp .LtE) (λx y H Q=>∃i j,x=.str i/\y=.str j/\Q (.bl (!(decide (j.cps.toList<i.cps.toList)))) H):=by
 intro U s Z H x y v u Q I L b h;obtain⟨i,j,rfl,rfl,q⟩:=h;obtain⟨t,rfl⟩:=L;obtain⟨t',rfl⟩:=b;exact PySem.P.le_str (pA I q rfl)
def O2:sr X (compareOp .Is) (λx y H Q=>∃c d,x=.bl c/\y=.bl d/\Q (.bl (c==d)) H):=by
 intro U s Z H x y v u Q I L b h;obtain⟨c,d,rfl,rfl,q⟩:=h;cases L;cases b;exact is_bool (pA I q rfl)
def Gm:sr X (compareOp .IsNot) (λx y H Q=>∃c d,x=.bl c/\y=.bl d/\Q (.bl (c !=d)) H):=by
 intro U s Z H x y v u Q I L b h;obtain⟨c,d,rfl,rfl,q⟩:=h;cases L;cases b;exact isnot_bool (pA I q rfl)
def Lj:sr X (binaryOp .Mult) (λx y H Q=>∃z n,x=.str z/\y=.int n/\MulOk z n/\Q (.str (Txt.mul z n)) H):=by
 intro U s Z H x y v u Q I L b h;obtain⟨z,n,rfl,rfl,cL,q⟩:=h;obtain⟨t,rfl⟩:=L;obtain⟨t',rfl⟩:=b;exact SB.mul cL λt' k=>⟨.str _,H,I.tok _,⟨_,rfl⟩,q⟩
theorem Ic{X:Cx}(hc:X.calm=true):gY X (.builtin "all") (λxs H Q=>∃(p:Addr) (bs:List Bool),xs=[.ref p]/\lj X.K H p (bs.map V.bl)/\Q (.bl (bs.all id)) H):=by
 intro U s Z H xs us Q I r h;obtain⟨p,bs,rfl,M,q⟩:=h;obtain⟨u,rfl,ru⟩:=vals1 r;cases(show u=Value.ref p from ru);obtain⟨bM,rv,pl,hz⟩:=I.list M;have hb:bM=bs.map Value.bool:=by
  clear hz pl M q I
  induction bs generalizing bM with
  |nil=>cases rv;rfl
  |cons b r ih=>
   cases rv with
   |cons r1 r2=>
    rw[aX,<-ih _ (by exact r2)];cases(show _=Value.bool b from r1)
    rfl
 subst hb;have jP:p<s.heap.objs.size:=by obtain⟨o,n,e,_⟩:=pl;exact bD e
 refine call_all_walk (mv pl.isList ?_);refine⟨s.heap.objs.size,[s.heap.objs.size,p],[s.heap.objs.size],(bs.map Value.bool).toArray.size,_,_,λi=>(bs[i]?).getD true,rfl,Walks.list (A:=X.A.in1) (I.ok.hd hc) _ p (cY jP) _,
  ⟨⟨_,cQ _ rfl,rfl,rfl⟩,pl.isList.push _⟩,λi v s' Q' E' hP S=>?_,λh' tk hk=>?_⟩
 .have L:(bs.map Value.bool)[i]?=some v:=by simpa using hP
  rw[b_]at L;cases g:bs[i]? with
  |none=>rw[g]at L;cases L
  |some b=>
   rw[g]at L;cases L;simp only[g,wC]at S;exact mr S
 .have e:((List.range (bs.map Value.bool).toArray.size).all λi=>(bs[i]?).getD true)=bs.all id:=by
   rw[cE,aY];exact LSm.range_all bs
  rw[e];exact⟨.bl _,H,I.kept (LSm.kept_iter hk),rfl,q⟩
theorem EM:∀{ts:List Str} {bM:List Value},Vals (ts.map V.str) bM->∃l:List (Str×Tok),bM=strValues l/\l.map (·.1)=ts
 |[],_,.nil=>⟨[],rfl,rfl⟩
 |x::r,_,.cons L b=>by
  obtain⟨l,g,q⟩:=EM b;obtain⟨t,rfl⟩:=(show∃t,_=Value.str x t from L);exact⟨(x,t)::l,by rw[g];rfl,by rw[aX,q]⟩
theorem Ll:V0 X "str.join" (λx xs H Q=>∃(z:Str) (p:Addr) (ts:List Str),x=.str z/\xs=[.ref p]/\lj X.K H p (ts.map V.str)/\JoinOk z ts=true/\Q (.str (Txt.join z ts)) H):=by
 intro U s Z H x vs v us Q I L rv h;obtain⟨z,p,ts,rfl,rfl,b,cL,q⟩:=h;obtain⟨t,rfl⟩:=L;obtain⟨u,rfl,g⟩:=rv.one;cases(show u=Value.ref p from g);obtain⟨bM,rv,pl,M⟩:=I.list b;obtain⟨l,rfl,r⟩:=EM rv;exact SC.join pl.isList r cL λt' k=>⟨.str _,H,I.tok _,⟨_,rfl⟩,q⟩
def aI.tup (e:aI H H')(h:mf K H a xs):mf K H' a xs:=by
 rcases h with(h|⟨o,h⟩)|h
 .exact .inl (.inl (e _ _ h))
 .exact .inl (.inr ⟨o,e _ _ h⟩)
 .exact .inr h
theorem aI.upd {H:Hp}(g:H D=none):aI H (upd H D o):=λb u e=>by rwa[aN (cB e g)]
def aI.Bc (s:aI H H')(g:H D=none):aI H (L2.upd H' D o):=λb u e=>by rw[aN (cB e g)];exact s b u e
structure EN(K:Frag)(mg:Str->Option Value)(x:Str)(st:Stmt)(ps:List Str)(f:Addr)(fd:FuncData):Prop where
 fn:yd K x x st f fd
 bd:Binds K fd ps []
 mg:mg x=some (.ref f)
def O3{X:Cx}(D:EN X.K X.mg x st ps f aj)(G:fL X.prog X.w X.K X.mg X.base qX k f aj ps sp)(b:cZ k X.A)
  (g:PA X (ag::af) t) (r:Gl X x:=by rfl) (iH:Db x:=by decide) (he:starEach (ag::af) X.env=(false,eval ag X.env)::starEach af X.env:=by rfl)
  (yF:(backTo pos (starEach af X.env)).any (·.1)=false:=by rfl):PE X (.Call (.Name x p) (ag::af) [] pos) (Nf sp [] E0 t):=by
 have q:=EC (p:=p) (pos:=pos) G b r D.mg D.fn.kp D.bd .nil HZ g (iH:=iH) (he:=he) (yF:=yF);exact q
def Wf:V->Option Int->Option Int->Hp->VK->Prop:=λx lo hi H Q=>∃z,x=.str z/\z.length<=sizeLine/\Q (.str (Txt.slice z lo hi)) H
theorem O4:Rj X Wf:=by
 intro U s Z H x v vl vu lo hi b Q I r hs pl pu h;obtain⟨z,rfl,M,q⟩:=h;obtain⟨t,rfl⟩:=r;refine⟨"str",_,F.slot_str_getitem.lookup,typeIs_str _ _ _,?_⟩;have go:∀(l u:Option (Int×Tok)),s.heap.IsSlice b l u none->lo=l.map (·.1)->hi=u.map (·.1)->wpAny (model X.prog X.w) X.A (getItem (.str z t) (.ref b)) (EP X U Z Q) X.xe s:=λl u S e1 e2=>by
  subst e1 e2;exact wpAny_getItem_str_slice S rfl (post_val_or_str ⟨bI (Txt.slice_le z _ _) M,λt' k=>⟨.str _,H,I.tok _,⟨_,rfl⟩,q⟩⟩)
 cases pl with
 |none=>
  cases pu with
  |none=>exact go none none hs rfl rfl
  |int j L=>exact go none (some (j,L)) hs rfl rfl
 |int i g=>
  cases pu with
  |none=>exact go (some (i,g)) none hs rfl rfl
  |int j L=>exact go (some (i,g)) (some (j,L)) hs rfl rfl
def yM(b:h'.IsTuple p bM):∃dd n sl,h'.get? p=some ⟨.type "tuple",dd,.seq bM n,sl⟩:=by
 obtain⟨⟨cls,dd,data,sl⟩,h1,h2,n,L⟩:=b;dsimp only at h2 L;subst h2 L;exact⟨dd,n,sl,h1⟩
def Be(K:Frag)(w:World)(a:Addr)(kvs:List (Str×Value)):Prop:=
 (a==sysModules)=false/\∃o es ep,K.lookup a=some o/\o.ExactDict/\o.data=.dict es ep/\∀prog,KeysOf (PySem.strKind prog w) es/\Pairs (PySem.strKind prog w) es.toList kvs/\(kvs.map (·.1)).Nodup
def Be.of {X:Cx}(D:Be X.K X.w a kvs)(I:Inv X U Z H s):s.heap.DictOf (PySem.strKind X.prog X.w) a kvs:=by
 obtain⟨_,o,es,ep,h1,h2,L,b⟩:=D;obtain⟨k1,k2,k3⟩:=b X.prog;exact⟨o,es,ep,I.nt _ _ h1,h2,L,k1,k2,k3⟩
def Ig(b:PE X o to)(hi:PE X i g)(hs:OP i):
  PE X (.Subscript o i pos) (Om (λx y H Q=>∃(a:Addr) (z:Str) (kvs:List (Str×Value)) (u:Value) (v:V),x=.ref a/\y=.str z/\Be X.K X.w a kvs/\valueAt kvs z=some u/\RelV v u/\Q v H) to g):=by
 intro U s Z H Q I h;refine Ld PySem.F.slot_dict_getitem.lookup hs (ej (b U s Z H _ I h) λu s1 ⟨x,H1,r,M,S⟩=>ej (hi U s1 Z H1 _ r S) λiv s2 ⟨y,H2,L,ry,q2⟩=>?_);obtain⟨a,z,kvs,u',v,rfl,rfl,D,hv,rv,q⟩:=q2;cases(show u=Value.ref a from M);obtain⟨t,rfl⟩:=ry;have dd:=D.of L;refine⟨?_,wpAny_getItem_of (knd:=PySem.strKind X.prog X.w) (k:=z) (by simp[PySem.strKind,Value.isStrOf]) dd.mapOf hv ⟨v,H2,L.tok _,rv,q⟩⟩;obtain⟨ob,es,ep,h1,h2,_⟩:=dd;exact⟨ob,h1,h2.1⟩
inductive Tr where
 |bL|bl (b:Bool)|int (i:Int)|str (z:Str)|ty (n:String)
 |vg (ns:List Int)|tup (ts:List Tr)|lst (ts:List Tr)|bh (bg:List (Key×Tr))|at(i:Nat)
 |vh (bg:List (List Key×Tr))|ob (x:Str) (fs:List (Str×Tr))|yN (x:Str)
variable {ch en:List (Key×Tr)}
noncomputable def cy:Nat:=1000000
noncomputable def clsAt(K:Frag)(x:Str):Addr:=match PySem.W.nsIn K mainGlobals x with
 |some (some (.ref C))=>C
 |_=>0
structure Vw where
 H:Hp
 ix:Addr->Option Nat
instance:Coe Vw Hp:=⟨Vw.H⟩
instance:CoeFun Vw (λ_=>Addr->Option HO):=⟨Vw.H⟩
structure e_(W W':Vw):Prop where
 h:aI W.H W'.H
 x:∀a i,W.ix a=some i->W'.ix a=some i
theorem e_.refl (W:Vw):e_ W W:=⟨aI.refl _,λ_ _ e=>e⟩
theorem e_.trans (a:e_ W W1)(b:e_ W1 W2):e_ W W2:=⟨a.h.trans b.h,λc i e=>b.x c i (a.x c i e)⟩
mutual
inductive Rep(K:Frag)(H:Vw):V->Tr->Prop where
 |bL:Rep K H .bL .bL
 |bl (b:Bool):Rep K H (.bl b) (.bl b)
 |int (i:Int):Rep K H (.int i) (.int i)
 |str (z:Str) (h:z.length<=cy):Rep K H (.str z) (.str z)
 |ty (n:String):Rep K H (.ty n) (.ty n)
 |vg {a:Addr} {ns:List Int} (h:lj K H.H a (ns.map V.int)):Rep K H (.ref a) (.vg ns)
 |tup {a:Addr} {vs:List V} {ts:List Tr} (h:mf K H.H a vs) (r:bp K H vs ts):Rep K H (.ref a) (.tup ts)
 |lst {a:Addr} {vs:List V} {ts:List Tr} (h:H.H a=some (.lst vs)) (r:bp K H vs ts):Rep K H (.ref a) (.lst ts)
 |bh {a:Addr} {kvs:List (Key×V)} {bg:List (Key×Tr)} (h:Rd H.H a (.dK kvs)) (e:kvs.map (·.1)=bg.map (·.1)) (r:bp K H (kvs.map (·.2)) (bg.map (·.2))):Rep K H (.ref a) (.bh bg)
 |at{a:Addr} {i:Nat} (h:H.ix a=some i):Rep K H (.ref a) (.at i)
 |vh {a:Addr} {kvs:List (List Key×V)} {bg:List (List Key×Tr)} (h:H.H a=some (.dT kvs)) (e:kvs.map (·.1)=bg.map (·.1)) (r:bp K H (kvs.map (·.2)) (bg.map (·.2))):Rep K H (.ref a) (.vh bg)
 |ob {a dx:Addr} {x:Str} {g0:List (Str×V)} {fs:List (Str×Tr)} (h:H.H a=some (.ins (clsAt K x) dx g0)) (e:g0.map (·.1)=fs.map (·.1)) (r:bp K H (g0.map (·.2)) (fs.map (·.2))):Rep K H (.ref a) (.ob x fs)
 |yN {a:Addr} {oe:Obj} {x:Str} (h:H.H a=some (.ext λh=>h.get? a=some oe)) (c:oe.cls=.ref (clsAt K x)):Rep K H (.ref a) (.yN x)
inductive bp(K:Frag)(H:Vw):List V->List Tr->Prop where
 |nil:bp K H [] []
 |cons {v:V} {t:Tr} {vs:List V} {ts:List Tr} (h:Rep K H v t) (r:bp K H vs ts):bp K H (v::vs) (t::ts)
end
def Rd.same (s:aI H H')(h:Rd H a u):Rd H' a u:=by
 rcases h with h|⟨o,h⟩
 .exact .inl (s _ _ h)
 .exact .inr ⟨o,s _ _ h⟩
theorem Rep.same (s:e_ H H')(h:Rep K H v t):Rep K H' v t:=by
 refine Rep.rec (motive_1:=λv t _=>Rep K H' v t) (motive_2:=λvs ts _=>bp K H' vs ts) ?_ ?_ ?_ ?_ ?_ ?_ ?_ ?_ ?_ ?_ ?_ ?_ ?_ ?_ ?_ h
 .exact .bL
 .exact λb=>.bl b
 .exact λi=>.int i
 .exact λz h=>.str z h
 .exact λn=>.ty n
 .exact λh=>.vg (s.h.seq h)
 .exact λh _ r=>.tup (s.h.tup h) r
 .exact λh _ r=>.lst (s.h _ _ h) r
 .exact λh e _ r=>.bh (Rd.same s.h h) e r
 .exact λh=>.at (s.x _ _ h)
 .exact λh e _ r=>.vh (s.h _ _ h) e r
 .exact λh e _ r=>.ob (s.h _ _ h) e r
 .exact λh c=>.yN (s.h _ _ h) c
 .exact .nil
 .exact λ_ _ h r=>.cons h r
theorem bp.same (s:e_ H H'):∀{vs:List V} {ts:List Tr},bp K H vs ts->bp K H' vs ts
 |[],_,h=>by cases h;exact .nil
 |_::_,_,h=>by cases h with|cons h r=>exact .cons (h.same s) (bp.same s r)
theorem bp.length:∀{vs:List V} {ts:List Tr},bp K H vs ts->vs.length=ts.length
 |[],_,h=>by cases h;rfl
 |_::_,_,h=>by cases h with|cons h r=>rw[dq,dq,bp.length r]
theorem bp.get:∀{vs:List V} {ts:List Tr} {i:Nat} {t:Tr},bp K H vs ts->ts[i]?=some t->∃v,vs[i]?=some v/\Rep K H v t
 |[],_,i,t,h,e=>by cases h;simp at e
 |_::_,_,0,t,h,e=>by cases h with|cons h r=>simp at e;subst e;exact⟨_,rfl,h⟩
 |_::_,_,i+1,t,h,e=>by
  cases h with
  |cons h r=>
   obtain⟨v,L,r1⟩:=bp.get (i:=i) (t:=t) r (by simpa using e);exact⟨v,by simpa using L,r1⟩
theorem bp.Bf:∀{vs:List V} {ts:List Tr} {i:Nat} {v:V},bp K H vs ts->vs[i]?=some v->∃t,ts[i]?=some t/\Rep K H v t
 |[],_,i,t,h,e=>by simp at e
 |_::_,_,0,t,h,e=>by cases h with|cons h r=>simp at e;subst e;exact⟨_,rfl,h⟩
 |_::_,_,i+1,t,h,e=>by
  cases h with
  |cons h r=>
   obtain⟨v,L,r1⟩:=bp.Bf (i:=i) r (by simpa using e);exact⟨v,by simpa using L,r1⟩
theorem bp.append:∀{vs ws:List V} {ts us:List Tr},bp K H vs ts->bp K H ws us->bp K H (vs++ws) (ts++us)
 |[],_,_,_,h,q=>by cases h;exact q
 |_::_,_,_,_,h,q=>by cases h with|cons h r=>exact .cons h (bp.append r q)
theorem bp.take:∀{vs:List V} {ts:List Tr} (n:Nat),bp K H vs ts->bp K H (vs.take n) (ts.take n)
 |_,_,0,_=>by rw[List.take_zero,List.take_zero];exact .nil
 |[],_,_+1,h=>by cases h;exact .nil
 |_::_,_,n+1,h=>by cases h with|cons h r=>exact .cons h (bp.take n r)
theorem bp.drop:∀{vs:List V} {ts:List Tr} (n:Nat),bp K H vs ts->bp K H (vs.drop n) (ts.drop n)
 |_,_,0,h=>h
 |[],_,_+1,h=>by cases h;exact .nil
 |_::_,_,n+1,h=>by cases h with|cons h r=>exact bp.drop n r
theorem bp.rep (h:bp K H vs ts):∀n:Nat,bp K H (List.replicate n vs).flatten (List.replicate n ts).flatten
 |0=>.nil
 |n+1=>by
  rw[ng,ng,mi,mi];exact h.append (bp.rep h n)
theorem yO:∀{zs:List Str},(∀z∈zs,z.length<=cy)->bp K H (zs.map V.str) (zs.map Tr.str)
 |[],_=>.nil
 |z::zs,h=>.cons (.str z (h z (cJ ..))) (yO λy L=>h y (cw _ L))
structure fj where
 hd:Addr->Bool
 ix:Addr->Option Nat
instance:CoeFun fj (λ_=>Addr->Bool):=⟨fj.hd⟩
def bJ(B:fj)(H:Hp):Vw:=⟨λb=>if B.hd b=true then none else H b,B.ix⟩
def HB(B:fj)(H:Hp):Prop:=∀b,B.hd b=true->∃o,H b=some o
def gM{B:fj}(h:B.hd b=false):(bJ B H).H b=H b:=by show(if B.hd b=true then none else H b)=_;rw[h,aE i7]
def bG:aI (bJ B H).H H:=λb o (e:(if B.hd b=true then none else H b)=some o)=>by
 split at e
 .cases e
 .exact e
def bx(s:aI H H'):e_ (bJ B H) (bJ B H'):=⟨λb o (e:(if B.hd b=true then none else H b)=some o)=>by
 show(if B.hd b=true then none else H' b)=some o;split at e
 .cases e
 .rw[aE (by assumption)];exact s b o e,λ_ _ e=>e⟩
def raw(B:fj)(H:Hp):Vw:=⟨H,B.ix⟩
def eX:e_ (bJ B H) (raw B H):=⟨bG,λ_ _ e=>e⟩
def HB.same (h:HB B H)(s:aI H H'):HB B H':=λb e=>by obtain⟨o,q⟩:=h b e;exact⟨o,s b o q⟩
def HB.free (h:HB B H)(b:H p=none):B.hd p=false:=by
 cases e:B.hd p with
 |false=>rfl
 |true=>obtain⟨o,q⟩:=h p e;rw[b]at q;cases q
def HB.new (h:HB B H)(b:H p=none):(bJ B (upd H p o)).H p=some o:=by rw[gM (h.free b)];exact bA
structure vi(B B':fj):Prop where
 hd:∀b,B.hd b=true->B'.hd b=true
 ix:∀b i,B'.ix b=some i->B.ix b=some i
def xj(h:vi B B'):e_ (bJ B' H) (bJ B H):=⟨λb o (e:(if B'.hd b=true then none else H b)=some o)=>by
 show(if B.hd b=true then none else H b)=some o;split at e
 .cases e
 .rename_i n;rwa[aE λz=>n (h.hd b z)],h.ix⟩
inductive Rs(α:Type) where
 |bad|ok (a:α)|exc (c:Tr)
noncomputable def Rs.bind {α β:Type}(r:Rs α)(f:α->Rs β):Rs β:=match r with
 |.ok a=>f a
 |.exc c=>.exc c
 |.bad=>.bad
def XA(X:Cx)(c:Tr)(H:Hp):Prop:=False
def sv(b:Tr->Prop){α:Type}(r:Rs α)(k:α->Prop):Prop:=match r with
 |.ok a=>k a
 |.exc c=>b c
 |.bad=>False
def xP(X:Cx)(H:Hp):Tr->Prop:=λc=>∀H',aI H H'->XA X c H'
def Fi(X:Cx)(H:Hp){α:Type}(r:Rs α)(k:α->Prop):Prop:=sv (xP X H) r k
def sv.mono {r:Rs α}{k k':α->Prop}(h:sv b r k)(w:∀a,k a->k' a):sv b r k':=by
 cases r with
 |ok a=>exact w a h
 |_=>exact h
def sv.imp {r:Rs α}{k:α->Prop}{b:Tr->Prop}(h:sv xc r k)(w:∀c,xc c->b c):sv b r k:=by
 cases r with
 |ok a=>exact h
 |exc c=>exact w c h
 |bad=>exact h
theorem sv.bind {β:Type}{r:Rs α}{f:α->Rs β}{k:β->Prop}(h:sv b (r.bind f) k):sv b r λa=>sv b (f a) k:=by
 cases r with
 |_=>exact h
theorem Fi.mono {r:Rs α}{k k':α->Prop}(h:Fi X H r k)(w:∀a,k a->k' a):Fi X H r k':=sv.mono h w
def Fi.same {r:Rs α}{k:α->Prop}(h:Fi X H r k)(s:aI H H'):Fi X H' r k:=sv.imp h λ_ q H2 s2=>q H2 (s.trans s2)
theorem Fi.bind {β:Type}{r:Rs α}{f:α->Rs β}{k:β->Prop}(h:Fi X H (r.bind f) k):Fi X H r λa=>Fi X H (f a) k:=sv.bind h
set_option genInjectivity true in
inductive Cell where
 |no|sh (t:Tr)|ow (ts:List Tr)
abbrev bW:=List Cell
structure cc(K:Frag)(B:fj)(H:Hp)(Z:St)(Y:bW):Prop where
 len:Y.length=Z.length
 sh:∀(i:Nat) (t:Tr),Y[i]?=some (.sh t)->∃v,Z[i]?=some (some v)/\Rep K (bJ B H) v t
 ow:∀(i:Nat) (ts:List Tr),Y[i]?=some (.ow ts)->∃D ys,Z[i]?=some (some (.ref D))/\B D=true/\H D=some (.lst ys)/\bp K (bJ B H) ys ts
 ap:∀(i j:Nat) (ts us:List Tr) (D:Addr),i≠j->Y[i]?=some (.ow ts)->Y[j]?=some (.ow us)->Z[i]?=some (some (.ref D))->Z[j]? ≠some (some (.ref D))
theorem cc.same (h:cc K B H Z Y)(s:aI H H'):cc K B H' Z Y:=
 ⟨h.len,λi t e=>by obtain⟨v,L,r⟩:=h.sh i t e;exact⟨v,L,r.same (bx s)⟩,
   λi ts e=>by obtain⟨D,ys,L,b,g,r⟩:=h.ow i ts e;exact⟨D,ys,L,b,s _ _ g,r.same (bx s)⟩,h.ap⟩
theorem fB{l:List α}{j:Nat}{x y:α}(e:(l.set i x)[j]?=some y):(i=j/\i<l.length/\y=x)\/(i≠j/\l[j]?=some y):=by
 rw[mj]at e;by_cases L:i=j
 .rw[ay L]at e;by_cases b:i<l.length
  .rw[ay b]at e;exact .inl ⟨L,b,(Option.some.inj e).symm⟩
  .rw[aE b]at e;cases e
 .rw[aE L]at e;exact .inr ⟨L,e⟩
theorem cc.set (h:cc K B H Z Y)(i:Nat)(r:Rep K (bJ B H) v t):cc K B H (Z.set i (some v)) (Y.set i (.sh t)):=by
 refine⟨by rw[ki,ki];exact h.len,λj u e=>?_,λj us e=>?_,λj k us ws D S b e2 M=>?_⟩
 .rcases fB e with⟨rfl,g,q⟩|⟨L,q⟩
  .cases q;exact⟨v,by rw[mj,ay rfl,ay (by rwa[<-h.len])],r⟩
  .obtain⟨w,b,r1⟩:=h.sh j u q;exact⟨w,by rwa[mj,aE L],r1⟩
 .rcases fB e with⟨rfl,g,q⟩|⟨L,q⟩
  .cases q
  .obtain⟨D,ys,b,r1⟩:=h.ow j us q;exact⟨D,ys,by rwa[mj,aE L],r1⟩
 .rcases fB b with⟨rfl,g,q⟩|⟨L,q⟩
  .cases q
  .rcases fB e2 with⟨rfl,g,I⟩|⟨ZX,I⟩
   .cases I
   .rw[mj,aE L]at M;rw[mj,aE ZX];exact h.ap j k us ws D S q I M
def startT(n:Nat)(ts:List Tr):bW:=ts.map Cell.sh++List.replicate (n - ts.length) .no
theorem qv(e:(startT n ts)[aa]?=some c):c=.no\/∃t,ts[aa]?=some t/\c=.sh t:=by
 unfold startT at e;by_cases hi:aa<ts.length
 .rw[p_ (by rwa[aY]),b_]at e;cases q:ts[aa]? with
  |none=>rw[q]at e;cases e
  |some u=>rw[q]at e;exact .inr ⟨u,rfl,(Option.some.inj e).symm⟩
 .rw[v9 (by rw[aY];omega),sC]at e;split at e
  .exact .inl (Option.some.inj e).symm
  .cases e
theorem cc.start (h:bp K (bJ B H) vs ts):cc K B H (start N vs) (startT N.length ts):=by
 have g:=h.length;refine⟨by unfold L2.start startT;simp only[dI,aY,we];omega,λi t e=>?_,λi us e=>?_,λi j us ws D _ e _ _=>?_⟩
 .rcases qv e with q|⟨u,q,L⟩
  .cases q
  .cases L;obtain⟨v,b,r⟩:=h.get q;have hi:i<vs.length:=(gy.mp b).1;refine⟨v,?_,r⟩;unfold L2.start;rw[p_ (by rwa[aY]),b_,b]
   rfl
 .rcases qv e with q|⟨u,q,L⟩
  .cases q
  .cases L
 .rcases qv e with q|⟨u,q,L⟩
  .cases q
  .cases L
noncomputable def isStar:Expr->Bool
 |.Starred .. =>true
 |_=>false
def bE(es:List Expr)(env:Env)(h:isStar ag=false):starEach (ag::es) env=(false,eval ag env)::starEach es env:=by
 cases ag<;>first|rfl|cases h
def bK(es:List Expr):Bool:=es.all λe=>!isStar e
theorem cq:∀{es:List Expr},bK es=true->(backTo pos (starEach es env)).any (·.1)=false
 |[],_=>by rw[starEach];rfl
 |e::es,h=>by
  unfold bK at h;rw[i9,bC]at h;have L:isStar e=false:=by simpa using h.1
  rw[bE es env L];exact cq (es:=es) h.2
theorem hZ:∀{es:List Expr},bK es=true->(backTo pos (starEach es env)).all (λx=>!x.1)=true
 |[],_=>by rw[starEach];rfl
 |e::es,h=>by
  unfold bK at h;rw[i9,bC]at h;have L:isStar e=false:=by simpa using h.1
  rw[bE es env L];exact hZ (es:=es) h.2
def aK{es:List Expr}(h:bK (c7::es)=true):isStar c7=false/\bK es=true:=by
 unfold bK at h;rw[i9,bC]at h;exact⟨by simpa using h.1,h.2⟩
def zJ:Expr->Bool
 |.ListComp .. =>true
 |.SetComp .. =>true
 |.DictComp .. =>true
 |_=>false
def xk(h:zJ e=false):swapsWith e t n env=pure false:=by
 cases e<;>first|rfl|cases h
noncomputable def uI:Expr->Bool
 |.UnaryOp .. =>false
 |.BoolOp .. =>false
 |.IfExp .. =>false
 |.Compare .. =>false
 |_=>true
def xl(h:uI e=true):∀whole,isTrue e env whole=(do let v<-whole;standAt e.pos;holding [v] (truthy v)):=by
 intro whole;cases e<;>first|rfl|cases h
def isSet:Expr->Bool
 |.Set .. =>true
 |_=>false
def iM(h:isSet e=false):∀x,foldedSetIterable e env x=pure x:=by
 intro x;cases e<;>first|rfl|cases h
def isCall:Expr->Bool
 |.Call _ [] _ _=>true
 |_=>false
def h8(h:isCall o=false):attributeBase o x env w=w:=by
 cases o with
 |Call f a k p=>cases a with
  |nil=>cases h
  |cons=>cases f<;>rfl
 |_=>rfl
inductive tP(X:Cx)(F:bW->Rs Tr)(Z:St)(H:Hp)(Q:VK):Prop
 |mk (B:fj) (Y:bW):HB B H->cc X.K B H Z Y->(Fi X H (F Y) λt=>∀v H',aI H H'->Rep X.K (bJ B H') v t->Q v H')->tP X F Z H Q
structure QE(X:Cx)(e:Expr)(F:bW->Rs Tr):Prop where
 h:PE X e (tP X F)
inductive tQ(X:Cx)(F:bW->Rs Bool)(Z:St)(H:Hp)(Q:Bool->Hp->Prop):Prop
 |mk (B:fj) (Y:bW):HB B H->cc X.K B H Z Y->(Fi X H (F Y) λb=>∀H',aI H H'->Q b H')->tQ X F Z H Q
structure QT(X:Cx)(e:Expr)(F:bW->Rs Bool):Prop where
 h:PT X e (tQ X F)
structure QW(X:Cx)(e:Expr)(F:bW->Rs Bool):Prop where
 h:PW X e (tQ X F)
structure QF(X:Cx)(e:List Expr)(F:bW->Rs Bool):Prop where
 h:PF X e (tQ X F)
inductive Ro(X:Cx)(F:bW->Rs (List Tr))(Z:St)(H:Hp)(Q:List V->Hp->Prop):Prop
 |mk (B:fj) (Y:bW):HB B H->cc X.K B H Z Y->(Fi X H (F Y) λts=>∀vs H',aI H H'->bp X.K (bJ B H') vs ts->Q vs H')->Ro X F Z H Q
structure QA(X:Cx)(e:List Expr)(F:bW->Rs (List Tr)):Prop where
 h:PA X e (Ro X F)
inductive Out where
 |nx (Y:bW)|ret (t:Tr)|bk (Y:bW)|ct (Y:bW)
structure gm(C B0:fj)(H0:Hp)(B:fj)(H:Hp):Prop where
 kp:∀b o,C b=true->H0 b=some o->H b=some o
 lQ:e_ (bJ B0 H0) (bJ B H)
 sub:vi C B
 hb:HB B H
def gm.go {B0:fj}(h:gm C B0 H0 B H)(s:aI H H'):gm C B0 H0 B H':=⟨λb o c e=>s _ _ (h.kp b o c e),h.lQ.trans (bx s),h.sub,h.hb.same s⟩
def vi.refl:vi B B:=⟨λ_ e=>e,λ_ _ e=>e⟩
theorem gm.refl (h:HB B H)(c:vi C B):gm C B H B H:=⟨λ_ _ _ e=>e,e_.refl _,c,h⟩
def gm.same (h:gm C C H0 B H):aI H0 H:=λb o e=>by
 cases q:C b with
 |true=>exact h.kp b o q e
 |false=>exact bG _ _ (h.lQ.h b o (by rwa[gM q]))
def O5(X:Cx)(D:Ends)(C B0:fj)(H0:Hp):Out->Prop
 |.nx Y=>∀L B' H',gm C B0 H0 B' H'->cc X.K B' H' L Y->D.nx L H'
 |.ret t=>∀v B' H',gm C B0 H0 B' H'->Rep X.K (bJ C H') v t->D.rt v H'
 |.bk Y=>∀L B' H',gm C B0 H0 B' H'->cc X.K B' H' L Y->D.bk L H'
 |.ct Y=>∀L B' H',gm C B0 H0 B' H'->cc X.K B' H' L Y->D.ct L H'
def xS(X:Cx)(C B0:fj)(H0:Hp):Tr->Prop:=λc=>∀B' H',gm C B0 H0 B' H'->XA X c H'
inductive tS(X:Cx)(G:bW->Rs Out)(D:Ends)(Z:St)(H:Hp):Prop
 |mk (C:fj) (B0:fj) (H0:Hp) (B:fj) (Y:bW):gm C B0 H0 B H->cc X.K B H Z Y->sv (xS X C B0 H0) (G Y) (O5 X D C B0 H0)->tS X G D Z H
structure QS(X:Cx)(e:Stmt)(F:bW->Rs Out):Prop where
 h:PS X e (tS X F)
structure QB(X:Cx)(e:List Stmt)(F:bW->Rs Out):Prop where
 h:yb X e (tS X F)
def PE.weak {t':TE}(h:PE X e t)(w:∀Z H Q,t' Z H Q->t Z H Q):PE X e t':=λU s Z H Q I q=>h U s Z H Q I (w Z H Q q)
def PT.weak {t':TT}(h:PT X e t)(w:∀Z H Q,t' Z H Q->t Z H Q):PT X e t':=λU s Z H Q I q=>h U s Z H Q I (w Z H Q q)
def PW.weak {t':TT}(h:PW X e t)(w:∀Z H Q,t' Z H Q->t Z H Q):PW X e t':=λL U s Z H Q I q=>h L U s Z H Q I (w Z H Q q)
def PA.weak {t':TA}(h:PA X es t)(w:∀Z H Q,t' Z H Q->t Z H Q):PA X es t':=λpos U s Z H Q I q=>h pos U s Z H Q I (w Z H Q q)
def PS.weak {t':TS}(h:PS X st t)(w:∀D Z H,t' D Z H->t D Z H):PS X st t':=λU s Z H D I q=>h U s Z H D I (w D Z H q)
def yb.weak {st:List Stmt}{t':TS}(h:yb X st t)(w:∀D Z H,t' D Z H->t D Z H):yb X st t':=λU s Z H D I q=>h U s Z H D I (w D Z H q)
def zK(Y:bW)(i:Nat):Rs Tr:=match Y[i]? with
 |some (.sh t)=>.ok t
 |_=>.bad
def Ih{X:Cx}(r:cc X.K B H Z Y)(h:Fi X H (zK Y i) k):∃v t,Z[i]?=some (some v)/\Rep X.K (bJ B H) v t/\k t:=by
 unfold zK at h;split at h
 .rename_i t e;obtain⟨v,L,r1⟩:=r.sh i t e;exact⟨v,t,L,r1,h⟩
 .exact h.elim
theorem ak{X:Cx}(i:Nat)(b:X.N[i]?=some x:=by rfl) (g:Vx X.env.scope x:=by first|exact Or.inl rfl|exact Or.inr (Or.inl rfl)|exact Or.inr (Or.inr rfl)) (hd:Db x:=by decide) (I:(x==("__classdict__":Str))=false:=by decide):QE X (.Name x pos) (λY=>zK Y i):=⟨(Od b g hd I).weak λZ H Q ⟨B,Y,hb,r,q⟩=>by
  obtain⟨v,t,e,r1,k⟩:=Ih r q;exact⟨v,e,k v H (aI.refl H) r1⟩⟩
def Bh(h:PE X e (tC v))(r:∀H,Rep X.K H v t):PE X e (tP X λ_=>.ok t):=
 h.weak λZ H Q ⟨B,Y,_,_,q⟩=>q v H (aI.refl H) (r _)
def aF{j pos}:QE X (.Constant (.int i) j pos) (λ_=>.ok (.int i)):=⟨Bh Oe λH=>.int i⟩
def yn{j pos}:QE X (.Constant (.bool b) j pos) (λ_=>.ok (.bl b)):=⟨Bh R4 λH=>.bl b⟩
def kx{j pos}:QE X (.Constant .none j pos) (λ_=>.ok .bL):=⟨Bh Of λH=>.bL⟩
def ax{z:Str}{j pos}(b:z.length<=cy:=by decide):QE X (.Constant (.str z) j pos) (λ_=>.ok (.str z)):=⟨Bh Og λH=>.str z b⟩
def SM(K:Frag)(mg:Str->Option Value)(x:Str)(t:Tr):Prop:=∃v u,mg x=some u/\RelV v u/\∀H,Rep K H v t
def Wg{X:Cx}(hm:X.mg x=none)(b:bootBuiltins x=some (.type n):=by rfl) (g:Gl X x:=by rfl) (q:x≠"__name__":=by decide) (hd:Db x:=by decide):QE X (.Name x pos) (λ_=>.ok (.ty n)):=⟨Bh (Ex (v:=.ty n) g hm b rfl q hd) λH=>.ty n⟩
def Ky(h:Tr->Tr->Rs Tr)(a b:Rs Tr):Rs Tr:=a.bind λx=>b.bind λy=>h x y
inductive rT(X:Cx)(h:Tr->Tr->Rs Tr)(x:V)(y:V)(H:Hp)(Q:VK):Prop
 |mk (B:fj) (tx:Tr) (ty:Tr):HB B H->Rep X.K (bJ B H) x tx->Rep X.K (bJ B H) y ty->(Fi X H (h tx ty) λt=>∀v H',aI H H'->Rep X.K (bJ B H') v t->Q v H')->rT X h x y H Q
abbrev Bi(X:Cx)(f:Value->Value->Sem Value)(h:Tr->Tr->Rs Tr):Prop:=sr X f (rT X h)
def tU{F G:bW->Rs Tr}(q:tP X (λY=>Ky h (F Y) (G Y)) Z H Q):Om (rT X h) (tP X F) (tP X G) Z H Q:=by
 obtain⟨B,Y,hb,r,q⟩:=q;refine⟨B,Y,hb,r,q.bind.mono λx L v H1 s1 r1=>⟨B,Y,hb.same s1,r.same s1,(L.bind.same s1).mono λy b u H2 s2 r2=>⟨B,x,y,(hb.same s1).same s2,r1.same (bx s2),r2,?_⟩⟩⟩;exact(b.same (s1.trans s2)).mono λt g w I s3 M=>g w I ((s1.trans s2).trans s3) M
def dh(g:Bi X (binaryOp op) h)(r:QE X a F)(hb:QE X b G):QE X (.BinOp a op b pos) (λY=>Ky h (F Y) (G Y)):=⟨(Sd g r.h hb.h).weak λ_ _ _ q=>tU q⟩
def dN(g:Bi X (compareOp op) h)(r:QE X a F)(hb:QE X b G)(hm:behindInMarks op b=false:=by first|exact HF _|rfl|with_unfolding_all rfl):QE X (.Compare a [op] [b] pos) (λY=>Ky h (F Y) (G Y)):=⟨(K0 g r.h hb.h hm).weak λ_ _ _ q=>tU q⟩
def Vb(r:Rs Tr):Rs Bool:=r.bind λt=>match t with
 |.bl b=>.ok b
 |_=>.bad
def Rep.rD (h:Rep K H v (.bl b)):v=.bl b:=by cases h;rfl
def fN{t:Tr}(r:bp K W xs [t]):∃x,xs=[x]/\Rep K W x t:=by
 cases r with
 |cons a r=>cases r;exact⟨_,rfl,a⟩
def Bj{t u:Tr}(r:bp K W xs [t,u]):∃x y,xs=[x,y]/\Rep K W x t/\Rep K W y u:=by
 cases r with
 |cons a r=>
  obtain⟨y,rfl,b⟩:=fN r;exact⟨_,_,rfl,a,b⟩
def Rep.EO (h:Rep K H v (.vg ns)):∃a,v=.ref a/\lj K H.H a (ns.map V.int):=by cases h;exact⟨_,rfl,by assumption⟩
def Rep.qw (h:Rep K H v (.bh bg)):∃a kvs,v=.ref a/\Rd H.H a (.dK kvs)/\kvs.map (·.1)=bg.map (·.1)/\bp K H (kvs.map (·.2)) (bg.map (·.2)):=by cases h;exact⟨_,_,rfl,by assumption,by assumption,by assumption⟩
def Rep.ny {i:Nat}(h:Rep K H v (.at i)):∃a,v=.ref a/\H.ix a=some i:=by cases h;exact⟨_,rfl,by assumption⟩
def Rep.zL (h:Rep K H v (.ob x fs)):∃a dx b,v=.ref a/\H.H a=some (.ins (clsAt K x) dx b)/\b.map (·.1)=fs.map (·.1)/\bp K H (b.map (·.2)) (fs.map (·.2)):=by cases h;exact⟨_,_,_,rfl,by assumption,by assumption,by assumption⟩
def Rep.ER (h:Rep K H v .bL):v=.bL:=by cases h;rfl
def Rep.int_inv (h:Rep K H v (.int i)):v=.int i:=by cases h;rfl
def Rep.str_inv (h:Rep K H v (.str z)):v=.str z/\z.length<=cy:=by cases h;exact⟨rfl,by assumption⟩
def Rep.eD (h:Rep K H v (.tup ts)):∃a vs,v=.ref a/\mf K H.H a vs/\bp K H vs ts:=by cases h;exact⟨_,_,rfl,by assumption,by assumption⟩
def Rep.lst_inv (h:Rep K H v (.lst ts)):∃a vs,v=.ref a/\H.H a=some (.lst vs)/\bp K H vs ts:=by cases h;exact⟨_,_,rfl,by assumption,by assumption⟩
def hide{G:Prop}(k:∀P:Prop,(G->P)->P):G:=k G id
def Lm(h:Fi X H (Vb r) k):Fi X H r λt=>∃b,t=.bl b/\k b:=by
 refine h.bind.mono λt q=>?_
 cases t with
 |bl b=>exact⟨b,rfl,q⟩
 |_=>exact q.elim
def bj(g:Bi X (compareOp op) h)(I:QE X a F)(hb:QE X b G)(hm:behindInMarks op b=false:=by first|exact HF _|rfl|with_unfolding_all rfl):QT X (.Compare a [op] [b] pos) (λY=>Vb (Ky h (F Y) (G Y))):=⟨have hb:=hb.h;(K1 g I.h hb hm).weak λZ H Q ⟨B,Y,hb,r,q⟩=>by
  refine tU (Q:=λx H'=>∃k,x=.bl k/\Q k H') ⟨B,Y,hb,r,(Lm q).mono λt L v H' M S=>?_⟩;obtain⟨b,rfl,k⟩:=L;exact⟨b,S.rD,k H' M⟩⟩
noncomputable def lR:Tr->Rs Bool
 |.bL=>.ok false
 |.bl b=>.ok b
 |.int i=>.ok (i !=0)
 |.str z=>.ok ((z.length:Int) !=0)
 |.tup ts=>.ok (!ts.isEmpty)
 |.lst ts=>.ok (!ts.isEmpty)
 |.bh bg=>.ok (!bg.isEmpty)
 |_=>.bad
theorem bp.isEmpty (h:bp K H vs ts):vs.isEmpty=ts.isEmpty:=by cases h<;>rfl
def ll:cy<=sizeLine:=by rw[eW];decide
def Ln(r:Rep K H v t)(e:lR t=.ok b):K2 K v H b:=by
 cases r with
 |bL=>cases e;rfl
 |bl c=>cases e;rfl
 |int i=>cases e;rfl
 |str z h=>cases e;exact⟨bI h ll,rfl⟩
 |ty n=>cases e
 |tup h r=>cases e;exact .inr (.inl ⟨_,h,by rw[r.isEmpty]⟩)
 |lst h r=>cases e;exact .inl ⟨_,.of h,by rw[r.isEmpty]⟩
 |vg h=>cases e
 |«at» h=>cases e
 |vh h L g=>cases e
 |ob h L g=>cases e
 |yN h c=>cases e
 |bh h L r=>
  cases e;refine .inr (.inr ⟨_,h,?_⟩);rename_i kvs bg;cases kvs<;>cases bg<;>first|rfl|cases L
def tV{X:Cx}(r:Rep X.K H v t)(h:Fi X H (lR t) k):∃b,K2 X.K v H b/\k b:=by
 cases e:lR t with
 |ok b=>rw[e]at h;exact⟨b,Ln r e,h⟩
 |exc c=>cases t<;>cases e
 |bad=>rw[e]at h;exact h.elim
def lp(g:QE X a F)(he:uI a=true:=by rfl):QT X a (λY=>(F Y).bind lR):=⟨(AS g.h (xl he)).weak λZ H Q ⟨B,Y,hb,r,q⟩=>⟨B,Y,hb,r,q.bind.mono λt I v H' L M=>by
  obtain⟨b,h1,h2⟩:=tV (M.same eX) (I.same L);exact⟨b,h1,h2 H' L⟩⟩⟩
def Dp(r:Rs Bool):Rs Bool:=r.bind λb=>.ok (!b)
def vj(b:QT X a A):QT X (.UnaryOp .Not a pos) (λY=>Dp (A Y)):=⟨(Hr b.h).weak λZ H Q ⟨B,Y,hb,r,q⟩=>⟨B,Y,hb,r,q.bind⟩⟩
def Ii(a b:Rs Bool):Rs Bool:=a.bind λc=>if c then b else .ok false
def Vc(a b:Rs Bool):Rs Bool:=a.bind λc=>if c then .ok true else b
def nz(b:QT X a A):QW X (.BoolOp .And [a] pos) A:=⟨pw_and1 b.h⟩
def Ij(b:QT X a A):QW X (.BoolOp .Or [a] pos) A:=⟨pw_or1 b.h⟩
def tW(g:QT X c7 A)(hb:QW X (.BoolOp .And (ag::af) pos) B):QW X (.BoolOp .And (c7::ag::af) pos) (λY=>Ii (A Y) (B Y)):=⟨have hb:=hb.h;(pw_and g.h hb).weak λZ H Q ⟨L,Y,hb,r,q⟩=>⟨L,Y,hb,r,q.bind.mono λc b H1 s1=>by
  cases c with
  |true=>exact⟨L,Y,hb.same s1,r.same s1,(Fi.same b s1).mono λag I H2 s2=>I H2 (s1.trans s2)⟩
  |false=>exact b H1 s1⟩⟩
def O6(g:QT X c7 A)(hb:QW X (.BoolOp .Or (ag::af) pos) B):QW X (.BoolOp .Or (c7::ag::af) pos) (λY=>Vc (A Y) (B Y)):=⟨have hb:=hb.h;(pw_or g.h hb).weak λZ H Q ⟨L,Y,hb,r,q⟩=>⟨L,Y,hb,r,q.bind.mono λc b H1 s1=>by
  cases c with
  |false=>exact⟨L,Y,hb.same s1,r.same s1,(Fi.same b s1).mono λag I H2 s2=>I H2 (s1.trans s2)⟩
  |true=>exact b H1 s1⟩⟩
def jr{op}(h:QW X (.BoolOp op es pos) A):QT X (.BoolOp op es pos) A:=⟨h.h.pt⟩
def SN(a b:Rs Tr):Rs Tr:=a.bind λt=>(lR t).bind λc=>if c then b else .ok t
def Yn(a b:Rs Tr):Rs Tr:=a.bind λt=>(lR t).bind λc=>if c then .ok t else b
def ou(S:QE X c7 F)(hb:QE X (.BoolOp .And (ag::af) pos) G):QE X (.BoolOp .And (c7::ag::af) pos) (λY=>SN (F Y) (G Y)):=⟨by
 intro U s Z H Q I ⟨B,Y,g,r,q⟩;refine BoolOp_and (ej (S.h U s Z H _ I ⟨B,Y,g,r,q.bind.mono λt b v H1 s1 r1=>(show∃t,Rep X.K (bJ B H1) v t/\aI H H1/\Fi X H ((lR t).bind λc=>if c then G Y else .ok t) (λt=>∀v H',aI H H'->Rep X.K (bJ B H') v t->Q v H')from⟨t,r1,s1,b⟩)⟩) λv s1 ⟨x,H1,I1,r1,t,rt,L,b⟩=>?_);obtain⟨c,h1,h2⟩:=tV (rt.same eX) (b.bind.same L);refine ej (C6 U s1 Z H1 x v (λk H'=>k=c/\H'=H1) I1 r1 ⟨c,h1,rfl,rfl⟩) λk s2 ⟨H2,M,e1,e2⟩=>?_
 subst e1 e2;cases k with
 |true=>exact hb.h U s2 Z _ Q M ⟨B,Y,g.same L,r.same L,(Fi.same h2 L).mono λt q v H' s' r'=>q v H' (L.trans s') r'⟩
 |false=>exact⟨x,_,M,r1,h2 x _ L rt⟩⟩
def Lo(S:QE X c7 F)(hb:QE X (.BoolOp .Or (ag::af) pos) G):QE X (.BoolOp .Or (c7::ag::af) pos) (λY=>Yn (F Y) (G Y)):=⟨by
 intro U s Z H Q I ⟨B,Y,g,r,q⟩;refine BoolOp_or (ej (S.h U s Z H _ I ⟨B,Y,g,r,q.bind.mono λt b v H1 s1 r1=>(show∃t,Rep X.K (bJ B H1) v t/\aI H H1/\Fi X H ((lR t).bind λc=>if c then .ok t else G Y) (λt=>∀v H',aI H H'->Rep X.K (bJ B H') v t->Q v H')from⟨t,r1,s1,b⟩)⟩) λv s1 ⟨x,H1,I1,r1,t,rt,L,b⟩=>?_);obtain⟨c,h1,h2⟩:=tV (rt.same eX) (b.bind.same L);refine ej (C6 U s1 Z H1 x v (λk H'=>k=c/\H'=H1) I1 r1 ⟨c,h1,rfl,rfl⟩) λk s2 ⟨H2,M,e1,e2⟩=>?_
 subst e1 e2;cases k with
 |false=>exact hb.h U s2 Z _ Q M ⟨B,Y,g.same L,r.same L,(Fi.same h2 L).mono λt q v H' s' r'=>q v H' (L.trans s') r'⟩
 |true=>exact⟨x,_,M,r1,h2 x _ L rt⟩⟩
def lq{op}(h:QE X a F):QE X (.BoolOp op [a] pos) F:=⟨Oh h.h⟩
def Gn(r:Rs Bool):Rs Tr:=r.bind λb=>.ok (.bl b)
def Lp(c:Rs Bool)(a b:Rs Tr):Rs Tr:=c.bind λk=>if k then a else b
def Lq(I:QT X c A)(M:QE X a F)(hb:QE X b G):QE X (.IfExp c a b pos) (λY=>Lp (A Y) (F Y) (G Y)):=⟨have hb:=hb.h;(Hs I.h M.h hb).weak λZ H Q ⟨B,Y,hb,r,q⟩=>⟨B,Y,hb,r,q.bind.mono λk g H1 s1=>by
  cases k with
  |true=>exact⟨B,Y,hb.same s1,r.same s1,(Fi.same g s1).mono λt q v H2 s2 L=>q v H2 (s1.trans s2) L⟩
  |false=>exact⟨B,Y,hb.same s1,r.same s1,(Fi.same g s1).mono λt q v H2 s2 L=>q v H2 (s1.trans s2) L⟩⟩⟩
def Bk(a:Rs Tr)(l:Rs (List Tr)):Rs (List Tr):=a.bind λx=>l.bind λxs=>.ok (x::xs)
def ES:PA X [] (Ro X λ_=>.ok []):=wY.weak λZ H Q ⟨B,Y,hb,r,q⟩=>q [] H (aI.refl H) .nil
def zM(b:PE X ag (tP X F))(g:PA X es (Ro X L))(hs:isStar ag=false:=by rfl):PA X (ag::es) (Ro X λY=>Bk (F Y) (L Y)):=
 (qm b g (bE _ _ hs)).weak λZ H Q ⟨B,Y,hb,r,q⟩=>⟨B,Y,hb,r,q.bind.mono λx I v H1 s1 M=>⟨B,Y,hb.same s1,r.same s1,(I.bind.same s1).mono λxs S vs H2 s2 r2=>S _ H2 (s1.trans s2) (.cons (M.same (bx s2)) r2)⟩⟩
noncomputable def cX:Nat:=16777216
def iN:cX=sizeLine:=eW.symm
def xm(l:Rs (List Tr)):Rs Tr:=l.bind λts=>if ts.length<=cX then .ok (.tup ts)else .bad
def Bl(l:Rs (List Tr)):Rs Tr:=l.bind λts=>if ts.length<=cX then .ok (.lst ts)else .bad
def bu{S}(h:QA X es L):QE X (.Tuple es S pos) (λY=>xm (L Y)):=⟨(OB h.h).weak λZ H Q ⟨B,Y,hb,r,q⟩=>⟨B,Y,hb,r,q.bind.mono λts b vs H1 s1 I=>by
  by_cases M:ts.length<=cX
  .rw[ay M]at b;refine⟨by rwa[I.length,<-iN],λp g=>b (.ref p) _ (s1.Bc (s1.free g)) (.tup (.of ((hb.same s1).new g)) (I.same (bx (aI.upd g))))⟩
  .rw[aE M]at b;exact b.elim⟩⟩
def tX(h:QA X es L):QE X (.List es pos) (λY=>Bl (L Y)):=⟨(HJ h.h).weak λZ H Q ⟨B,Y,hb,r,q⟩=>⟨B,Y,hb,r,q.bind.mono λts b vs H1 s1 I=>by
  by_cases M:ts.length<=cX
  .rw[ay M]at b;refine⟨by rwa[I.length,<-iN],λp g=>b (.ref p) _ (s1.Bc (s1.free g)) (.lst ((hb.same s1).new g) (I.same (bx (aI.upd g))))⟩
  .rw[aE M]at b;exact b.elim⟩⟩
def gn(h:List Tr->Rs Tr)(l:Rs (List Tr)):Rs Tr:=l.bind h
inductive rC(X:Cx)(h:List Tr->Rs Tr)(xs:List V)(H:Hp)(Q:VK):Prop
 |mk (B:fj) (ts:List Tr):HB B H->bp X.K (bJ B H) xs ts->(Fi X H (h ts) λt=>∀v H',aI H H'->Rep X.K (bJ B H') v t->Q v H')->rC X h xs H Q
abbrev mL(X:Cx)(f:Value)(h:List Tr->Rs Tr):Prop:=gY X f (rC X h)
def yP{L:bW->Rs (List Tr)}(q:tP X (λY=>gn h (L Y)) Z H Q):U5 (rC X h) (Ro X L) Z H Q:=by
 obtain⟨B,Y,hb,r,q⟩:=q;exact⟨B,Y,hb,r,q.bind.mono λts b vs H1 s1 r1=>⟨B,ts,hb.same s1,r1,(b.same s1).mono λt b v H2 s2 g=>b v H2 (s1.trans s2) g⟩⟩
def eE{id:String}(b:mL X (.builtin id) h)(hm:X.mg x=none)(g:QA X (ag::af) L)(r:bootBuiltins x=some (.builtin id):=by rfl) (I:Gl X x:=by rfl) (M:x≠"__name__":=by decide) (iH:Db x:=by decide) (cU:bK (ag::af)=true:=by rfl):QE X (.Call (.Name x p) (ag::af) [] pos) (λY=>gn h (L Y)):=⟨(tD b I hm r g.h M iH (bE _ _ (aK cU).1) (cq (aK cU).2)).weak λ_ _ _ q=>yP q⟩
def mM(b:mL X (.type T) h)(hm:X.mg x=none)(g:QA X (ag::af) L)(r:bootBuiltins x=some (.type T):=by rfl) (I:Gl X x:=by rfl) (M:x≠"__name__":=by decide) (iH:Db x:=by decide) (cU:bK (ag::af)=true:=by rfl):QE X (.Call (.Name x p) (ag::af) [] pos) (λY=>gn h (L Y)):=⟨(qq b I hm r g.h M iH (bE _ _ (aK cU).1) (cq (aK cU).2)).weak λ_ _ _ q=>yP q⟩
inductive spT(K:Frag)(f:List Tr->Rs Tr)(vs:List V)(H:Hp)(Q:VK)(_w3:XK):Prop
 |mk (B:fj) (ts:List Tr):HB B H->bp K (bJ B H) vs ts->(∃t,f ts=.ok t/\∀v H',aI H H'->Rep K (bJ B H') v t->Q v H')->spT K f vs H Q _w3
def SO{X:Cx}{e:Expr}(D:EN X.K X.mg x st ps f aj)(G:fL X.prog X.w X.K X.mg X.base qX k f aj ps (spT X.K h))(g:cZ k X.A)(I:QA X (e::af) L)(M:Gl X x:=by rfl) (iH:Db x:=by decide) (cU:bK (e::af)=true:=by rfl):QE X (.Call (.Name x p) (e::af) [] pos) (λY=>gn h (L Y)):=⟨(O3 D G g I.h M iH (bE _ _ (aK cU).1) (cq (aK cU).2)).weak λZ H Q ⟨B,Y,hb,r,q⟩=>⟨B,Y,hb,r,q.bind.mono λts b vs H1 s1 r1=>by
  cases e:h ts with
  |ok t=>rw[e]at b;exact⟨B,ts,hb.same s1,by rwa[hW],t,e,λv H2 s2 S=>b v H2 (s1.trans s2) S⟩
  |exc c=>rw[e]at b;exact(b _ (aI.refl _)).elim
  |bad=>rw[e]at b;exact b.elim⟩⟩
def Dq(r:Rs Out)(G:bW->Rs Out):Rs Out:=r.bind λo=>match o with
 |.nx Y=>G Y
 |.ret t=>.ok (.ret t)
 |.bk Y=>.ok (.bk Y)
 |.ct Y=>.ok (.ct Y)
def gw:QB X [] (λY=>.ok (.nx Y)):=⟨Ey.weak λD Z H ⟨C,B0,H0,B,Y,L,r,q⟩=>q Z B H L r⟩
def bN(b:QS X st G)(g:QB X I M):QB X (st::I) (λY=>Dq (G Y) M):=⟨(AR b.h g.h).weak λD Z H ⟨C,B0,H0,B,Y,S,r,q⟩=>⟨C,B0,H0,B,Y,S,r,q.bind.mono λo L=>by
  cases o with
  |nx g6=>exact λdy B' H' ZY r'=>⟨C,B0,H0,B',g6,ZY,r',L⟩
  |ret t=>exact L
  |bk g6=>exact L
  |ct g6=>exact L⟩⟩
def cS(b:QS X st G):QB X [st] G:=⟨Ez b.h⟩
def O7(i:Nat)(r:Rs Tr)(Y:bW):Rs Out:=r.bind λt=>.ok (.nx (Y.set i (.sh t)))
def sv.here {B0:fj}{r:Rs α}{k:α->Prop}(h:sv (xS X C B0 H0) r k)(b:gm C B0 H0 B H):Fi X H r k:=h.imp λ_ q H' L=>q B H' (b.go L)
def ET{X:Cx}{F:bW->Rs Tr}{B0:fj}(b:gm C B0 H0 B H)(r:cc X.K B H Z Y)(q:sv (xS X C B0 H0) (F Y) k){Q:VK}(g:∀t v H',k t->aI H H'->gm C B0 H0 B H'->cc X.K B H' Z Y->Rep X.K (bJ B H') v t->Q v H'):tP X F Z H Q:=
 ⟨B,Y,b.hb,r,(q.here b).mono λt I v H' L M=>g t v H' I L (b.go L) (r.same L) M⟩
def SQ{X:Cx}{A:bW->Rs Bool}{B0:fj}(g:gm C B0 H0 B H)(r:cc X.K B H Z Y)(q:sv (xS X C B0 H0) (A Y) k){Q:Bool->Hp->Prop}(I:∀b H',k b->aI H H'->gm C B0 H0 B H'->cc X.K B H' Z Y->Q b H'):tQ X A Z H Q:=
 ⟨B,Y,g.hb,r,(q.here g).mono λb M H' L=>I b H' M L (g.go L) (r.same L)⟩
def Rep.out {B0:fj}(r:Rep K (bJ B H) v t)(b:gm C B0 H0 B H):Rep K (bJ C H) v t:=r.same (xj b.sub)
def fb{i:Nat}(he:QE X e F)(b:X.N.Nodup:=by assumption) (hi:X.N[i]?=some x:=by rfl) (g:Loc X.env.scope x:=by first|exact Or.inl rfl|exact Or.inr rfl) (hs:zJ e=false:=by rfl) (hf:CV X x:=by first|exact .inl rfl|exact .inr rfl|assumption):QS X (.Assign [.Name x pos'] e pos) (λY=>O7 i (F Y) Y):=⟨(Hy b hi g he.h (xk hs) hf).weak λD Z H ⟨C,B0,H0,B,Y,L,r,q⟩=>ET L r q.bind λt v H1 I s1 M S rv=>I _ B H1 M (S.set i rv)⟩
def Lr(r:Rs Tr):Rs Out:=r.bind λt=>.ok (.ret t)
def di(he:QE X e F):QS X (.Return (some e) pos) (λY=>Lr (F Y)):=⟨(Hv he.h).weak λD Z H ⟨C,B0,H0,B,Y,b,r,q⟩=>ET b r q.bind λt v H1 g s1 L M I=>g v B H1 L (I.out L)⟩
def SR(c:Rs Bool)(a b:Rs Out):Rs Out:=c.bind λk=>if k then a else b
def lS(g:QT X c A)(I:QB X ys G)(hb:QB X ns M):QS X (.If c ys ns pos) (λY=>SR (A Y) (G Y) (M Y)):=⟨(Nb g.h I.h hb.h).weak λD Z H ⟨C,B0,H0,B,Y,S,r,q⟩=>SQ S r q.bind λk H1 L s1 b r1=>by
  cases k with
  |true=>exact OY ⟨C,B0,H0,B,Y,b,r1,L⟩
  |false=>exact OX ⟨C,B0,H0,B,Y,b,r1,L⟩⟩
abbrev ye:=Tr->bW->Rs bW
inductive tG(X:Cx)(T:ye)(v:V)(Z:St)(H:Hp)(Q:St->Hp->Prop):Prop
 |mk (B:fj) (Y:bW) (t:Tr):HB B H->cc X.K B H Z Y->Rep X.K (bJ B H) v t->(Fi X H (T t Y) λg6=>∀dy H',aI H H'->cc X.K B H' dy g6->Q dy H')->tG X T v Z H Q
structure QG(X:Cx)(e:Expr)(F:ye):Prop where
 h:PG X e (tG X F)
structure Bm(X:Cx)(scope:Scope)(N':List Str)(tg elt:Expr)(ifs:List Expr)(T:ye)(A:bW->Rs Bool)(F:bW->Rs Tr):Prop where
 all:∀s H ex,QG (tT X scope N' s H ex) tg T/\QF (tT X scope N' s H ex) ifs A/\QE (tT X scope N' s H ex) elt F
def gN(i:Nat):ye:=λt Y=>.ok (Y.set i (.sh t))
def fc{X:Cx}(i:Nat)(b:X.N.Nodup:=by assumption) (hi:X.N[i]?=some x:=by rfl) (g:Loc X.env.scope x:=by first|exact Or.inl rfl|exact Or.inr rfl) (hf:CV X x:=by first|exact .inl rfl|exact .inr rfl|assumption):QG X (.Name x pos) (gN i):=⟨by
 intro U s Z H v u Q I r ⟨B,Y,t,hb,rs,rt,q⟩;exact EA b hi g hf U s Z H v u Q I r (q _ H (aI.refl H) (rs.set i rt))⟩
noncomputable def Ik:List Nat->List Tr->bW->Rs bW
 |[],[],Y=>.ok Y
 |i::is,t::ts,Y=>Ik is ts (Y.set i (.sh t))
 |_,_,_=>.bad
inductive Yo(X:Cx)(T:List Tr->bW->Rs bW)(vs:List V)(Z:St)(H:Hp)(Q:St->Hp->Prop):Prop
 |mk (B:fj) (Y:bW) (ts:List Tr):HB B H->cc X.K B H Z Y->bp X.K (bJ B H) vs ts->(Fi X H (T ts Y) λg6=>∀dy H',aI H H'->cc X.K B H' dy g6->Q dy H')->Yo X T vs Z H Q
structure Vd(X:Cx)(e:List Expr)(F:List Tr->bW->Rs bW):Prop where
 h:R9 X e (Yo X F)
def EU:Vd X [] (Ik []):=⟨by
 intro U s Z H vs us Q I r ⟨B,Y,ts,hb,rs,rt,q⟩
 match ts,rt,q with
 |[],.nil,q=>exact KU U s Z H [] us Q I r ⟨rfl,q Z H (aI.refl H) rs⟩
 |_::_,_,q=>exact q.elim⟩
def pD{i:Nat}(b:Vd X es (Ik is))(g:X.N.Nodup:=by assumption) (hi:X.N[i]?=some x:=by rfl) (M:Loc X.env.scope x:=by first|exact Or.inl rfl|exact Or.inr rfl) (hf:CV X x:=by first|exact .inl rfl|exact .inr rfl|assumption) (hs:(assignEach (.Name x pos::es) X.env).map (·.2)=assign (.Name x pos) X.env::(assignEach es X.env).map (·.2):=by rfl):Vd X (.Name x pos::es) (Ik (i::is)):=⟨by
 intro U s Z H vs us Q I r ⟨B,Y,ts,hb,rs,rt,q⟩
 match ts,rt,q with
 |[],_,q=>exact q.elim
 |t::ts,.cons L r2,q=>
  exact Hw (EA g hi M hf) b.h hs U s Z H _ us Q I r ⟨_,_,rfl,⟨B,_,ts,hb,rs.set i L,r2,q⟩⟩⟩
def gT(is:List Nat):ye:=λt Y=>match t with
 |.tup ts=>Ik is ts Y
 |_=>.bad
theorem EV:∀{is:List Nat} {ts:List Tr} {Y b:bW},Ik is ts Y=.ok b->ts.length=is.length
 |[],[],_,_,_=>rfl
 |[],_::_,_,_,h=>by cases h
 |_::_,[],_,_,h=>by cases h
 |_::is,_::ts,_,_,h=>by rw[dq,dq,EV (is:=is) (ts:=ts) h]
theorem yQ:∀{is:List Nat} {ts:List Tr} {Y:bW} {c:Tr},Ik is ts Y≠ .exc c
 |[],[],_,_=>λh=>by cases h
 |[],_::_,_,_=>λh=>by cases h
 |_::_,[],_,_=>λh=>by cases h
 |_::is,_::ts,_,_=>yQ (is:=is) (ts:=ts)
def EW(h:Vd X es (Ik is))(b:X.calm=true:=by rfl) (g:(assignEach es X.env).length=is.length:=by rfl) (cU:(assignEach es X.env).findIdx? (·.1)=none:=by rfl):QG X (.Tuple es k pos) (gT is):=⟨by
 intro U s Z H v u Q I r ⟨B,Y,t,hb,rs,rt,q⟩;cases rt with
 |tup M rv=>
  refine Oi b h.h g cU U s Z H _ u Q I r ⟨_,_,rfl,(aI.tup bG M),?_,B,Y,_,hb,rs,rv,q⟩;have L:Fi X H (Ik is _ Y) _:=q;cases e:Ik is _ Y with
  |ok S=>rw[rv.length];exact EV e
  |exc c=>exact(yQ e).elim
  |bad=>rw[e]at L;exact L.elim
 |_=>exact q.elim⟩
def SS(T:ye)(r:Rs Tr)(Y:bW):Rs Out:=r.bind λt=>(T t Y).bind λL=>.ok (.nx L)
def SU(b:QG X tg T)(he:QE X e F)(hs:swapsWithSole [tg] e ah.line X.env=pure false:=by rfl) (hw:swappedStores [tg] e X.env=pure none:=by rfl) (g:(assignEach [tg] X.env).map (·.2)=[assign tg X.env]:=by rfl):QS X (.Assign [tg] e ah) (λY=>SS T (F Y) Y):=⟨(Hx he.h b.h hs hw g).weak λD Z H ⟨C,B0,H0,B,Y,I,r,q⟩=>ET I r q.bind λt v H1 M s1 L r1 rv=>⟨B,Y,t,L.hb,r1,rv,(M.bind.here L).mono λg6 S dy H2 s2 r2=>S dy B H2 (L.go s2) r2⟩⟩
structure pE(K:Frag)(B:fj)(J:It)(H:Hp)(ts:List Tr):Prop where
 go:∀i B' H',i<ts.length->e_ (bJ B H) (bJ B' H')->HB B' H'->J.go i H'
 Hz:∀i B' H' x Ls,i<ts.length->e_ (bJ B H) (bJ B' H')->HB B' H'->J.Hz i H' x Ls->aI H' Ls/\∃t,ts[i]?=some t/\Rep K (bJ B' Ls) x t
 stop:∀B' H',e_ (bJ B H) (bJ B' H')->J.stop ts.length H'
inductive tI(X:Cx)(W:bW->Rs (List Tr))(Z:St)(H:Hp)(R:It->Hp->Prop):Prop
 |mk (B:fj) (Y:bW):HB B H->cc X.K B H Z Y->(Fi X H (W Y) λts=>∀J H',aI H H'->pE X.K B J H' ts->R J H')->tI X W Z H R
structure QI(X:Cx)(tg e:Expr)(F:bW->Rs (List Tr)):Prop where
 h:PI X tg e (tI X F)
def Bo(T:ye)(G:bW->Rs Out):List Tr->bW->Rs Out
 |[],Y=>.ok (.nx Y)
 |t::ts,Y=>(T t Y).bind λb=>(G b).bind λo=>match o with
  |.nx L=>Bo T G ts L
  |.ct L=>Bo T G ts L
  |.bk L=>.ok (.nx L)
  |.ret t=>.ok (.ret t)
def SV(T:ye)(G:bW->Rs Out)(l:Rs (List Tr))(Y:bW):Rs Out:=l.bind λts=>Bo T G ts Y
noncomputable def Gq(z:Str):List Tr:=z.cps.toList.map λc=>Tr.str ⟨#[c]⟩
def zN(r:Rs Tr):Rs (List Tr):=r.bind λt=>match t with
 |.tup ts=>.ok ts
 |.lst ts=>.ok ts
 |.str z=>.ok (Gq z)
 |_=>.bad
def Ds(h:bJ B H a=some (.lst vs))(r:bp K (bJ B H) vs ts):pE K B (Yb K a) H ts where
 go:=λi B' H' hi s hb=>by
  have L:i<vs.length:=by rwa[r.length]
  exact⟨vs,vs[i],lj.of (bG _ _ (s.h _ _ h)),by simp[L]⟩
 Hz:=λi B' H' x g hi s hb ⟨e,y⟩=>by
  subst e;have q:=y vs (lj.of (bG _ _ (s.h _ _ h)));obtain⟨t,b,r1⟩:=r.Bf q;exact⟨aI.refl _,t,b,r1.same s⟩
 stop:=λB' H' s=>⟨vs,lj.of (bG _ _ (s.h _ _ h)),by rw[r.length];exact aZ _⟩
def Gr(h:mf K (bJ B H) a vs)(r:bp K (bJ B H) vs ts):pE K B (Yc K a) H ts where
 go:=λi B' H' hi s hb=>by
  have L:i<vs.length:=by rwa[r.length]
  exact⟨vs,vs[i],aI.tup bG (s.h.tup h),by simp[L]⟩
 Hz:=λi B' H' x g hi s hb ⟨e,y⟩=>by
  subst e;have q:=y vs (aI.tup bG (s.h.tup h));obtain⟨t,b,r1⟩:=r.Bf q;exact⟨aI.refl _,t,b,r1.same s⟩
 stop:=λB' H' s=>⟨vs,aI.tup bG (s.h.tup h),by rw[r.length];exact aZ _⟩
def Gs(z:Str):pE K B (Va z) H (Gq z) where
 go:=λi B' H' hi _ _=>by
  have h:i<z.cps.size:=by simpa[Gq]using hi
  exact h
 Hz:=λi B' H' x g hi s hb ⟨e,c,L,b⟩=>by
  subst e;subst b;refine⟨aI.refl _,.str ⟨#[c]⟩,?_,.str _ (by show 1<=cy;decide)⟩;unfold Gq;rw[b_,sF,L]
  rfl
 stop:=λB' H' s=>by simp[Gq,Va]
theorem Lu{R:It->Hp->Prop}(g:Inv X U Z H1 s1)(q:R (Va z) H1):wpAny (model X.prog X.w) X.A (pyIter (.str z t)) (U0 X U Z tg R) X.xe s1:=by
 have fin:∀b∈[s1.heap.objs.size],pw X U H1 b:=λb hb=>by
  have e:b=s1.heap.objs.size:=by simpa using hb
  rw[e];exact g.CW (aZ _) (g.cL.fresh (aZ _))
 cases I:z.cps.all (· <128)
 .exact wpAny_pyIter_wide I ⟨s1.heap.objs.size,[s1.heap.objs.size],_,_,H1,rfl,g.kept (t':=s1.toks) λb o e=>cu _ e,
   A_ (n:="str_iterator") (t:=t) (by decide) (λA' L=>Walks.strWide L _ z t) λ_ _ _ _ _ st r=>wpAny_pyIter_striter_wide st r,⟨_,cQ _ rfl,rfl,rfl⟩,fin,q⟩
 .exact wpAny_pyIter_ascii I ⟨s1.heap.objs.size,[s1.heap.objs.size],_,_,H1,rfl,g.kept (t':=s1.toks) λb o e=>cu _ e,
   A_ (n:="str_ascii_iterator") (t:=t) (by decide) (λA' L=>Walks.strAscii L _ z t) λ_ _ _ _ _ st r=>wpAny_pyIter_striter_ascii st r,⟨_,cQ _ rfl,rfl,rfl⟩,fin,q⟩
theorem mO(M:QE X l F):QI X tg l (λY=>zN (F Y)):=⟨by
 intro U s Z H R I ⟨B,Y,hb,r,q⟩;refine ej (M.h U s Z H (λx H1=>∃t,aI H H1/\Rep X.K (bJ B H1) x t/\Fi X H (zN (.ok t)) λts=>∀J H',aI H H'->pE X.K B J H' ts->R J H') I ⟨B,Y,hb,r,q.bind.mono λt S v H1 s1 r1=>⟨t,s1,r1,S⟩⟩) λv s1 ⟨x,H1,L,r1,t,g,rt,k⟩=>?_
 have k:Fi X H (match t with
  |.tup ts=>.ok ts
  |.lst ts=>.ok ts
  |.str z=>.ok (Gq z)
  |_=>.bad) _:=k
 have fin:∀b∈[s1.heap.objs.size],pw X U H1 b:=λb hb=>by
  rw[cz.mp hb];exact L.CW (aZ _) (L.cL.fresh (aZ _))
 split at k
 .obtain⟨a,vs,rfl,h,rr⟩:=rt.eD;cases r1;obtain⟨bM,rv,p,hz⟩:=L.tuple (aI.tup bG h);exact wpAny_pyIter_tuple (show s1.heap.IsTuple a bM.toArray from p) ⟨s1.heap.objs.size,[s1.heap.objs.size],_,_,H1,rfl,L.kept (t':=s1.toks) λb o e=>cu _ e,CY a _,⟨_,cQ _ rfl,rfl,rfl⟩,fin,k _ H1 g (Gr h rr)⟩
 .obtain⟨a,vs,rfl,h,rr⟩:=rt.lst_inv;cases r1;obtain⟨bM,rv,p,hz⟩:=L.list (lj.of (bG _ _ h));exact mv p.isList ⟨s1.heap.objs.size,[s1.heap.objs.size],_,_,H1,rfl,L.kept (t':=s1.toks) λb o e=>cu _ e,F9 a _,⟨_,cQ _ rfl,rfl,rfl⟩,fin,k _ H1 g (Ds h rr)⟩
 .obtain⟨rfl,_⟩:=rt.str_inv;obtain⟨t,rfl⟩:=(show∃t,v=Value.str _ t from r1);exact Lu L (k _ H1 g (Gs _))
 .exact k.elim⟩
noncomputable def oO(lo:Int)(n:Nat):List Tr:=(List.range n).map λk=>Tr.int (lo+(k:Nat))
def lu(lo:Int)(n:Nat):(oO lo n).length=n:=by simp[oO]
theorem Bp(lo:Int)(n:Nat):pE K B (U2 lo n) H (oO lo n) where
 go:=λi B' H' hi _ _=>by rw[lu]at hi;exact hi
 Hz:=λi B' H' x L hi s hb ⟨e,y⟩=>by
  subst e;subst y;rw[lu]at hi;refine⟨aI.refl _,.int (lo+i),?_,.int _⟩;unfold oO;rw[b_,List.getElem?_range hi]
  rfl
 stop:=λB' H' s=>by rw[lu];exact aZ _
def Bq(l:Rs (List Tr)):Rs (List Tr):=l.bind λts=>match ts with
 |[.int j]=>if-4611686018427387904<=j/\j<4611686018427387904 then .ok (oO 0 j.toNat)else .bad
 |_=>.bad
def Il(l:Rs (List Tr)):Rs (List Tr):=l.bind λts=>match ts with
 |[.int i,.int j]=>if-4611686018427387904<=i/\i<4611686018427387904/\-4611686018427387904<=j/\j<4611686018427387904 then .ok (oO i (j - i).toNat)else .bad
 |_=>.bad
def PI.weak {t':TI}(h:PI X tg c7 t)(w:∀Z H R,t' Z H R->t Z H R):PI X tg c7 t':=λU s Z H R I q=>h U s Z H R I (w Z H R q)
def Br{X:Cx}(hm:X.mg "range"=none)(I:QA X [ag] L)(M:Gl X "range":=by rfl) (hs:bK [ag]=true:=by rfl):QI X tg (.Call (.Name "range" p) [ag] [] pos) (λY=>Bq (L Y)):=⟨(F_ M hm I.h (by rw[bE _ _ (aK hs).1];rfl)).weak λZ H R ⟨B,Y,hb,r,q⟩=>⟨B,Y,hb,r,q.bind.mono λts b vs H1 s1 g=>by
  split at b
  .rename_i j;cases g with
   |cons S g=>
    cases S;cases g;split at b
    .rename_i hj;exact⟨j,rfl,by omega,by omega,b _ H1 s1 (Bp 0 _)⟩
    .exact b.elim
  .exact b.elim⟩⟩
def Nt{α:Type}(r:Rs α):Rs α:=match r with
 |.ok a=>.ok a
 |_=>.bad
noncomputable def tY(ix:List (Option Nat))(Y:bW):bW:=ix.map λo=>match o with
 |none=>.no
 |some j=>match Y[j]? with
  |some (.sh t)=>.sh t
  |_=>.no
def cc.comp (ix:List (Option Nat))(h:cc K B H Z Y)(s:e_ (bJ B H) (bJ B' H')):cc K B' H' (ja ix Z) (tY ix Y):=by
 have no:∀(i:Nat) (c:Cell),(tY ix Y)[i]?=some c->c=.no\/∃j t,ix[i]?=some (some j)/\Y[j]?=some (.sh t)/\c=.sh t:=λi c e=>by
  unfold tY at e;rw[b_]at e;cases q:ix[i]? with
  |none=>rw[q]at e;cases e
  |some o=>
   rw[q]at e;cases o with
   |none=>exact .inl (Option.some.inj e).symm
   |some j=>
    have g:(match Y[j]? with|some (Cell.sh t)=>Cell.sh t|_=>Cell.no)=c:=Option.some.inj e;split at g
    .rename_i t L;exact .inr ⟨j,t,rfl,L,g.symm⟩
    .exact .inl g.symm
 refine⟨by unfold tY ja;rw[aY,aY],λi t e=>?_,λi ts e=>?_,λi j ts us D _ e=>?_⟩
 .rcases no i _ e with q|⟨j,u,r,L,b⟩
  .cases q
  .cases b;obtain⟨v,I,r1⟩:=h.sh j t L;refine⟨v,?_,r1.same s⟩;unfold ja;rw[b_,r];show some ((Z[j]?).join)=_;rw[I]
   rfl
 .rcases no i _ e with q|⟨j,u,r,L,b⟩
  .cases q
  .cases b
 .rcases no i _ e with q|⟨j,u,r,L,b⟩
  .cases q
  .cases b
def He(T:ye)(A:bW->Rs Bool)(F:bW->Rs Tr):List Tr->bW->Rs (List Tr)
 |[],_=>.ok []
 |t::ts,Y=>(Nt (T t Y)).bind λL=>(Nt (A L)).bind λk=>if k then(Nt (F L)).bind λy=>(He T A F ts L).bind λys=>.ok (y::ys)else He T A F ts L
def yR(ix:List (Option Nat))(T:ye)(A:bW->Rs Bool)(F:bW->Rs Tr)(l:Rs (List Tr))(Y:bW):Rs Tr:=l.bind λts=>if ts.length<=cX then(He T A F ts (tY ix Y)).bind λys=>.ok (.lst ys)else .bad
def mP(B:fj)(D:Addr):fj:=⟨λb=>B.hd b||b==D,B.ix⟩
def ky{H:Hp}(I:H D=none):e_ (bJ B H) (bJ (mP B D) (upd H D o)):=⟨λb u e=>by
 have L:=bG b u e;have g:b≠D:=cB L I;have M:B.hd b=false:=by
  cases q:B.hd b with
  |false=>rfl
  |true=>
   have r:(if B.hd b=true then none else H b)=some u:=e;rw[q,ay rfl]at r;cases r
 rw[gM (show(B.hd b||b==D)=false by rw[M,jM g];rfl),aN g];exact L,λ_ _ e=>e⟩
def EY(h:HB B H)(g:H D=none):HB (mP B D) (upd H D o):=λb e=>by
 by_cases q:b=D
 .subst q;exact⟨o,bA⟩
 .have L:(B.hd b||b==D)=true:=e;rw[jM q,cK]at L;rw[aN q];exact h b L
def yS:(mP B D).hd D=true:=by show(B.hd D||D==D)=true;rw[aU,fF]
def t5:bJ (mP B D) (upd H D o)=bJ (mP B D) H:=by
 unfold bJ;congr 1;funext b;by_cases q:b=D
 .subst q;rw[ay yS,ay yS]
 .rw[aN q]
def EZ:vi B (mP B D):=⟨λb e=>by show(B.hd b||b==D)=true;rw[e,fq],λ_ _ e=>e⟩
def Bs:e_ (bJ (mP B D) H) (bJ B H):=xj EZ
def fY(Y:bW):Prop:=∀(i:Nat) (ts:List Tr),Y[i]? ≠some (.ow ts)
def qR(T:ye):Prop:=∀t Y L,fY Y->T t Y=.ok L->fY L
theorem fY.set (h:fY Y)(i:Nat)(t:Tr):fY (Y.set i (.sh t)):=λj ts e=>by
 rcases fB e with⟨_,_,q⟩|⟨_,q⟩
 .cases q
 .exact h j ts q
def ff(i:Nat):qR (gN i):=λt Y L h e=>by cases e;exact h.set i t
theorem E1:∀{is:List Nat} {ts:List Tr} {Y b:bW},fY Y->Ik is ts Y=.ok b->fY b
 |[],[],_,_,h,e=>by cases e;exact h
 |[],_::_,_,_,_,e=>by cases e
 |_::_,[],_,_,_,e=>by cases e
 |i::is,t::ts,_,_,h,e=>E1 (is:=is) (ts:=ts) (h.set i t) e
def Dt(is:List Nat):qR (gT is):=λt Y L h e=>by
 cases t with
 |tup ts=>exact E1 h e
 |_=>cases e
def vQ(ix:List (Option Nat))(Y:bW):fY (tY ix Y):=λi ts e=>by
 unfold tY at e;rw[b_]at e;cases q:ix[i]? with
 |none=>rw[q]at e;cases e
 |some o=>
  rw[q]at e;cases o with
  |none=>cases e
  |some j=>
   have L:(match Y[j]? with|some (Cell.sh t)=>Cell.sh t|_=>Cell.no)=.ow ts:=Option.some.inj e;split at L<;>cases L
def sv.eq {r:Rs α}{k:α->Prop}(h:sv b r k):sv b r λa=>r=.ok a/\k a:=by
 cases r with
 |ok a=>exact⟨rfl,h⟩
 |_=>exact h
def Du{r:Rs α}{k:α->Prop}(h:sv b (Nt r) k):∃a,r=.ok a/\k a:=by
 cases r with
 |ok a=>exact⟨a,rfl,h⟩
 |_=>exact h.elim
inductive Nu(K:Frag)(F:bW->Rs Tr)(Z:St)(H:Hp)(Q:VK):Prop
 |mk (B:fj) (Y:bW):HB B H->cc K B H Z Y->(∃t,F Y=.ok t/\∀v H',aI H H'->Rep K (bJ B H') v t->Q v H')->Nu K F Z H Q
inductive Nv(K:Frag)(F:bW->Rs Bool)(Z:St)(H:Hp)(Q:Bool->Hp->Prop):Prop
 |mk (B:fj) (Y:bW):HB B H->cc K B H Z Y->(∃b,F Y=.ok b/\∀H',aI H H'->Q b H')->Nv K F Z H Q
inductive Nw(K:Frag)(T:ye)(v:V)(Z:St)(H:Hp)(Q:St->Hp->Prop):Prop
 |mk (B:fj) (Y:bW) (t:Tr):HB B H->cc K B H Z Y->Rep K (bJ B H) v t->(∃g6,T t Y=.ok g6/\∀dy H',aI H H'->cc K B H' dy g6->Q dy H')->Nw K T v Z H Q
def O8{X:Cx}:Nu X.K F Z H Q->tP X F Z H Q:=λ⟨B,Y,hb,r,t,e,q⟩=>⟨B,Y,hb,r,by rwa[e]⟩
def O9{X:Cx}:Nv X.K F Z H Q->tQ X F Z H Q:=λ⟨B,Y,hb,r,t,e,q⟩=>⟨B,Y,hb,r,by rwa[e]⟩
def O_{X:Cx}:Nw X.K T v Z H Q->tG X T v Z H Q:=λ⟨B,Y,t,hb,r,rt,g6,e,q⟩=>⟨B,Y,t,hb,r,rt,by rwa[e]⟩
theorem vR{Q:Hp->Prop}(hT:qR T)(h0:fY Pa)(hb:HB B H)(gt:pE K B J H ts)(hz:ts.length<=cX)(r:cc K (mP B D) (upd H D (.lst [])) Wb Pa)(M:H D=none)
   (q:sv xc (He T A F ts Pa) k) (hQ:∀ys H',k ys->aI H H'->Rep K (bJ B H') (.ref D) (.lst ys)->Q H'):Wa J D Wb (upd H D (.lst [])) (Nw K T) (Nv K A) (Nu K F) Q:=by
 refine⟨λi m Z H'=>m=ts.length - i/\i<=ts.length/\aI H H'/\HB (mP B D) H'/\e_ (bJ B H) (bJ (mP B D) H')/\∃Y vs us,fY Y/\cc K (mP B D) H' Z Y/\H' D=some (.lst vs)/\vs.length<=i/\bp K (bJ (mP B D) H') vs us/\sv xc (He T A F (ts.drop i) Y) (λys=>k (us++ys)),
  ⟨_,rfl,hX _,aI.upd M,EY hb M,ky M,Pa,[],[],h0,r,bA,aZ _,.nil,q⟩,?_⟩
 rintro i m Z H' ⟨rfl,hi,sm,L,lQ,Y,vs,us,no,rs,hd,hl,rv,S⟩
 by_cases jP:i<ts.length
 .rw[v_ jP]at S;refine .inr ⟨gt.go i _ H' jP lQ L,λAF H2=>aI H H2/\HB (mP B D) H2/\e_ (bJ B H) (bJ (mP B D) H2)/\∃Y vs us,fY Y/\cc K (mP B D) H2 AF Y/\H2 D=some (.lst vs)/\vs.length<=i+1/\bp K (bJ (mP B D) H2) vs us/\sv xc (He T A F (ts.drop (i+1)) Y) (λys=>k (us++ys)),
   λAF H2 h=>⟨ts.length - (i+1),by omega,rfl,jP,h⟩,λx H2 hx=>?_⟩
  obtain⟨s2,t,et,rt⟩:=gt.Hz i _ H' x H2 jP lQ L hx;have Wh:ts[i]=t:=by rw[cI jP]at et;exact Option.some.inj et
  rw[Wh]at S;obtain⟨I,eT,q1⟩:=Du (sv.bind S);have Wi:=hT t Y I no eT;refine⟨_,Y,t,L.same s2,rs.same s2,rt,I,eT,λOl H3 s3 r3=>?_⟩;have Yp:=s2.trans s3;obtain⟨c,eA,qc⟩:=Du (sv.bind q1);refine⟨_,I,L.same Yp,r3,c,eA,λH4 s4=>?_⟩;have g:=Yp.trans s4;have g4:aI H H4:=sm.trans g;cases c with
  |false=>
   exact OX ⟨g4,L.same g,lQ.trans (bx g),I,vs,us,Wi,r3.same s4,g _ _ hd,by omega,rv.same (bx g),qc⟩
  |true=>
   obtain⟨y,eF,qy⟩:=Du (sv.bind qc);refine OY ⟨_,I,L.same g,r3.same s4,y,eF,λv H5 s5 r5=>?_⟩;have SW:=g.trans s5;refine⟨vs,SW _ _ hd,by rw[<-iN];omega,(sm.trans SW).Bc M,?_,?_,I,vs++[v],us++[y],Wi,?_,bA,by rw[dI];exact Nat.add_le_add_right hl 1,?_,?_⟩
   .intro b e;by_cases q:b=D
    .subst q;exact⟨_,bA⟩
    .rw[aN q];exact(L.same SW) b e
   .rw[t5];exact lQ.trans (bx SW)
   .have Wj:=(r3.same s4).same s5;refine⟨Wj.len,λi t e=>?_,λi ts e=>(Wi i ts e).elim,Wj.ap⟩;rw[t5];exact Wj.sh i t e
   .rw[t5];exact(rv.same (bx SW)).append (.cons r5 .nil)
   .exact(sv.bind qy).mono λys q=>by rwa[sL]
 .have e:i=ts.length:=by omega
  subst e;rw[wD]at S;refine .inl ⟨gt.stop _ H' lQ,hQ us H' (by have:=(show k (us++[])from S);rw[hW]at this;exact this) sm (.lst ?_ (rv.same Bs))⟩;rwa[gM (hb.free M)]
def vk:QF X [] (λ_=>.ok true):=⟨λU s Z H Q I ⟨B,Y,hb,r,q⟩=>OZ U s Z H Q I (q H (aI.refl H))⟩
def yT(h:QT X c A):QF X [c] A:=⟨O0 h.h⟩
def Bt{W:bW->Rs (List Tr)}(I:qR T)(q:tP X (λY=>yR ix T A F (W Y) Y) Z H Q):Rn (tI X W) ix (Nw X.K T) (Nv X.K A) (Nu X.K F) Z H Q:=by
 obtain⟨B,Y,hb,r,q⟩:=q;refine⟨B,Y,hb,r,q.bind.mono λts L J H1 s1 gt D g=>?_⟩;by_cases b:ts.length<=cX
 .rw[ay b]at L;exact vR I (vQ ix Y) (hb.same s1) gt b ((r.same s1).comp ix (ky g)) g (Fi.bind L) λys H' k M S=>k _ H' (s1.trans M) S
 .rw[aE b]at L;exact L.elim
structure Wk(X:Cx)(scope:Scope)(N':List Str)(tg elt:Expr)(ifs:List Expr)(T:ye)(A:bW->Rs Bool)(F:bW->Rs Tr):Prop where
 all:∀s H ex,PG (tT X scope N' s H ex) tg (tG (tT X scope N' s H ex) T)/\PF (tT X scope N' s H ex) ifs (tQ (tT X scope N' s H ex) A)/\PE (tT X scope N' s H ex) elt (tP (tT X scope N' s H ex) F)
def Bm.to (b:Bm X scope N' tg elt ifs T A F):Wk X scope N' tg elt ifs T A F:=
 ⟨λs H ex=>⟨(b.all s H ex).1.h,(b.all s H ex).2.1.h,(b.all s H ex).2.2.h⟩⟩
def Wk.Rp (h:Wk X scope N' tg elt ifs T A F):∀s H ex,PG (tT X scope N' s H ex) tg (Nw X.K T)/\PF (tT X scope N' s H ex) ifs (Nv X.K A)/\PE (tT X scope N' s H ex) elt (Nu X.K F):=λs H ex=>by
 obtain⟨L,h2,b⟩:=h.all s H ex;exact⟨λU s Z H v u Q I r q=>L U s Z H v u Q I r (O_ q),λU s Z H Q I q=>h2 U s Z H Q I (O9 q),λU s Z H Q I q=>b U s Z H Q I (O8 q)⟩
def Lv(b:ji X N' ix scope)(hi:QI X tg c7 W)(g:Bm X scope N' tg elt ifs T A F)(r:qR T)(I:X.calm=true:=by rfl) (hs:isSet c7=false:=by rfl):QE X (.ListComp elt [⟨tg,c7,ifs,0⟩] scope pos) (λY=>yR ix T A F (W Y) Y):=⟨(Ib b I hi.h g.to.Rp (iM hs)).weak λZ H Q q=>Bt r q⟩
def E2{i:Nat}(b:ji X N' ix scope)(hit:QI X tg c7 W)(g:Bm X scope N' tg elt ifs T A F)(I:qR T)(M:X.N.Nodup:=by assumption) (S:X.calm=true:=by rfl) (hi:X.N[i]?=some x:=by rfl) (hx:Loc X.env.scope x:=by first|exact Or.inl rfl|exact Or.inr rfl) (O1:swapsWith (.ListComp elt [⟨tg,c7,ifs,0⟩] scope pos) (some (.Name x px)) ah.line X.env=pure true:=by rfl) (hs:isSet c7=false:=by rfl) (hf:CV X x:=by first|exact .inl rfl|exact .inr rfl|assumption):QS X (.Assign [.Name x px] (.ListComp elt [⟨tg,c7,ifs,0⟩] scope pos) ah) (λY=>O7 i (yR ix T A F (W Y) Y) Y):=⟨(xi b S M hi hx hit.h g.to.Rp O1 (iM hs) hf).weak λD Z H ⟨C,B0,H0,B,Y,L,r,q⟩=>Bt I (ET (F:=λY=>yR ix T A F (W Y) Y) L r q.bind λt v H1 qt s1 Gp r1 rv=>qt _ B H1 Gp (r1.set i rv))⟩
def eI(r:Rs Out):Rs Tr:=r.bind λo=>match o with
 |.nx _=>.ok .bL
 |.ret t=>.ok t
 |_=>.bad
def yd.ZZ {fd:FuncData}{h:List Tr->Rs Tr}(Fn:yd K x qual st f fd)(S:gC N ps (bb st))(len:∀ts t,h ts=.ok t->ts.length=ps.length)
  (kr:∀(b:Value) (A:Around) (outer:List Env) (s:Shared) (H:Hp) (E:XK),cZ k (A.deeper (envOfC qual (bb st) s.heap.objs.size f b))->
   ∃G,yb (oN qX P w K mg base N qual (bb st) f b A outer s H E).Hd (fH st) (tS (oN qX P w K mg base N qual (bb st) f b A outer s H E).Hd G)/\∀ts t,h ts=.ok t->eI (G (startT N.length ts))=.ok t):fL P w K mg base qX (k+1) f fd ps (spT K h):=by
 refine Fn.ok S (λvs H Q E q=>?_) (λb A outer s H vs Q E hr q=>?_)
 .obtain⟨B,ts,hb,r,t,e,_⟩:=q;rw[r.length];exact len ts t e
 .obtain⟨B,ts,hb,r,t,e,q⟩:=q;obtain⟨G,hG,hE⟩:=kr b A outer s H E hr;refine⟨_,hG,B,B,H,B,startT N.length ts,gm.refl hb vi.refl,cc.start r,?_⟩;have L:=hE ts t e;cases I:G (startT N.length ts)with
  |ok o=>
   rw[I]at L;cases o with
   |nx Y=>cases L;exact λdy B' H' g M=>q .bL H' g.same .bL
   |ret u=>cases L;exact λv B' H' g M=>q v H' g.same M
   |_=>cases L
  |_=>rw[I]at L;cases L
theorem Lw:sr X (binaryOp .Add) (λx y H Q=>∃(a b:Addr) (xs ys:List V),x=.ref a/\y=.ref b/\mf X.K H a xs/\mf X.K H b ys/\xs.length+ys.length<=sizeLine/\(xs=[]->Q (.ref b) H)/\(ys=[]->Q (.ref a) H)/\∀p,H p=none->Q (.ref p) (upd H p (.tup (xs++ys)))):=by
 intro U s Z H x y v u Q I L g h;obtain⟨a,b,xs,ys,rfl,rfl,ha,hb,r,M,S,q3⟩:=h;by_cases q:xs=[]
 .subst q;cases(show v=Value.ref a from L);cases(show u=Value.ref b from g);obtain⟨i1,r1,p1,_⟩:=I.tuple ha;obtain⟨i2,r2,p2,_⟩:=I.tuple hb;cases r1;obtain⟨dd,n,sl,h1⟩:=yM p1;obtain⟨Rb,n2,UU,h2⟩:=yM p2;exact concat_meets ⟨_,h1,rfl⟩ ⟨_,h2,rfl⟩ noFill_tuple_add seq_tuple_add PySem.F.slot_tuple_add PySem.F.entry_tuple_add (PySem.F.args_tuple_add_2 _ _) (tuple_addW0 a b _ _ n n2 dd Rb sl UU rfl) ⟨h1,h2,⟨.ref b,H,I,rfl,M rfl⟩⟩
 .exact K9 U s Z H _ _ v u Q I L g ⟨a,b,xs,ys,rfl,rfl,ha,hb,q,r,S,λ_ p hp=>q3 p hp⟩
def Rep.up (r:Rep K (bJ B H) v t):Rep K (raw B H) v t:=r.same eX
def mf.up (h:mf K (bJ B H) a xs):mf K H a xs:=aI.tup bG h
def dO(h:bJ B H a=some o):H a=some o:=bG _ _ h
def Rep.Pc (hb:HB B H)(b:H p=none)(r:bp K (bJ B H) vs ts):Rep K (bJ B (upd H p (.tup vs))) (.ref p) (.tup ts):=.tup (.of (hb.new b)) (r.same (bx (aI.upd b)))
def Rep.zO (hb:HB B H)(b:H p=none)(r:bp K (bJ B H) vs ts):Rep K (bJ B (upd H p (.lst vs))) (.ref p) (.lst ts):=.lst (hb.new b) (r.same (bx (aI.upd b)))
def Bu(h:bp K H [] ts):ts=[]:=by cases h;rfl
def Pd{a b:Str}(h:a.length+b.length<=cy):(a++b).length<=cy:=by rwa[hU]
def oP:Tr->Tr->Rs Tr
 |.int i,.int j=>.ok (.int (i+j))
 |.str a,.str b=>if a.length+b.length<=cy then .ok (.str (a++b))else .bad
 |.tup a,.tup b=>if a.length+b.length<=cX then .ok (.tup (a++b))else .bad
 |.lst a,.lst b=>if a.length+b.length<=cX then .ok (.lst (a++b))else .bad
 |_,_=>.bad
def h_{c:Prop}[Decidable c]{t:α}{k:α->Prop}(h:Fi X H (if c then Rs.ok t else .bad) k):c/\k t:=by
 by_cases L:c
 .rw[ay L]at h;exact⟨L,h⟩
 .rw[aE L]at h;exact h.elim
def fI:Bi X (binaryOp .Add) oP:=by
 intro U s Z H x y v u Q I M S ⟨B,tx,ty,hb,r1,r2,q⟩;unfold oP at q;split at q
 .exact Oq U s Z H _ _ v u Q I M S ⟨_,_,r1.int_inv,r2.int_inv,q _ H (aI.refl H) (.int _)⟩
 .have f:=h_ q;exact C7 U s Z H _ _ v u Q I M S ⟨_,_,r1.str_inv.1,r2.str_inv.1,bI f.1 ll,f.2 _ H (aI.refl H) (.str _ (Pd f.1))⟩
 .have f:=h_ q;obtain⟨a,as,e1,h1,L⟩:=r1.eD;obtain⟨b,bs,e2,h2,g⟩:=r2.eD;exact Lw U s Z H _ _ v u Q I M S ⟨_,_,_,_,e1,e2,h1.up,h2.up,by rw[L.length,g.length,<-iN];exact f.1,λe=>f.2 _ H (aI.refl H) (by subst e;rwa[Bu L,<-e2]),λe=>f.2 _ H (aI.refl H) (by subst e;rwa[Bu g,hW,<-e1]),λp r=>f.2 _ _ (aI.upd r) (.Pc hb r (L.append g))⟩
 .have f:=h_ q;obtain⟨a,as,e1,h1,L⟩:=r1.lst_inv;obtain⟨b,bs,e2,h2,g⟩:=r2.lst_inv;exact OL U s Z H _ _ v u Q I M S ⟨_,_,_,_,e1,e2,dO h1,dO h2,by rw[L.length,g.length,<-iN];exact f.1,λp r=>f.2 _ _ (aI.upd r) (.zO hb r (L.append g))⟩
 .exact fe q
def Io:Tr->Tr->Rs Tr
 |.int i,.int j=>.ok (.int (i - j))
 |_,_=>.bad
def E3:Bi X (binaryOp .Sub) Io:=by
 intro U s Z H x y v u Q I L b ⟨B,tx,ty,hb,r1,r2,q⟩;unfold Io at q;split at q
 .exact Ot U s Z H _ _ v u Q I L b ⟨_,_,r1.int_inv,r2.int_inv,q _ H (aI.refl H) (.int _)⟩
 .exact fe q
noncomputable def Bv:Tr->Tr->Rs Tr
 |.int i,.int j=>if 0<j then .ok (.int (i % j))else .bad
 |_,_=>.bad
def yU:Bi X (binaryOp .Mod) Bv:=by
 intro U s Z H x y v u Q I L b ⟨B,tx,ty,hb,r1,r2,q⟩;unfold Bv at q;split at q
 .have f:=h_ q;exact Ov U s Z H _ _ v u Q I L b ⟨_,_,r1.int_inv,r2.int_inv,f.1,f.2 _ H (aI.refl H) (.int _)⟩
 .exact fe q
def xn(i j:Int):Prop:=(-18446744073709551616<i/\i<18446744073709551616)\/(-18446744073709551616<j/\j<18446744073709551616)
def xn.cm (h:xn i j):HE i j:=by
 unfold xn at h;unfold HE;omega
instance (i j:Int):Decidable (xn i j):=by unfold xn;infer_instance
def Dv:Tr->Tr->Rs Tr
 |.int i,.int j=>if xn i j then .ok (.int (i*j))else .bad
 |.str z,.int n=>if 0<=n/\n<=1000/\z.length<=1000 then .ok (.str (Txt.mul z n))else .bad
 |.lst ts,.int n=>if 0<=n/\n<=1000/\ts.length*n.toNat<=cX then .ok (.lst (List.replicate n.toNat ts).flatten)else .bad
 |_,_=>.bad
def Ly:sr X (binaryOp .Mult) (λx y H Q=>∃(l:Addr) (k:Int) (xs:List V),x=.ref l/\y=.int k/\H l=some (.lst xs)/\-(2 ^63)<=k/\k<2 ^63/\xs.length*k.toNat<=sizeLine/\∀p,H p=none->Q (.ref p) (upd H p (.lst (List.replicate k.toNat xs).flatten))):=OM
def Lz{z:Str}{n:Int}(h0:0<=n)(b:n<=1000)(g:z.length<=1000):(Txt.mul z n).length<=cy:=by
 have e:=PyProof.Rows.len_mul z n;split at e
 .have:((Txt.mul z n).length:Int)=0:=e;unfold cy;omega
 .have L:(z.length:Int)*n<=1000*1000:=Int.mul_le_mul (by omega) b h0 (by decide);have q:((Txt.mul z n).length:Int)=(z.length:Int)*n:=e;unfold cy;omega
def E4:Bi X (binaryOp .Mult) Dv:=by
 intro U s Z H x y v u Q I L b ⟨B,tx,ty,hb,r1,r2,q⟩;unfold Dv at q;split at q
 .have f:=h_ q;exact Ou U s Z H _ _ v u Q I L b ⟨_,_,r1.int_inv,r2.int_inv,f.1.cm,f.2 _ H (aI.refl H) (.int _)⟩
 .have f:=h_ q;exact Lj U s Z H _ _ v u Q I L b ⟨_,_,r1.str_inv.1,r2.int_inv,PyProof.Rows.mulOk_of 1000 1000 f.1.2.2 f.1.2.1 (Int.le_trans (by decide) f.1.1) (by decide) (by decide),f.2 _ H (aI.refl H) (.str _ (Lz f.1.1 f.1.2.1 f.1.2.2))⟩
 .have f:=h_ q;obtain⟨a,as,M,h1,g⟩:=r1.lst_inv;exact Ly U s Z H _ _ v u Q I L b ⟨_,_,_,M,r2.int_inv,dO h1,Int.le_trans (by decide) f.1.1,Int.lt_of_le_of_lt f.1.2.1 (by decide),by rw[g.length,<-iN];exact f.1.2.2,λp r=>f.2 _ _ (aI.upd r) (.zO hb r (g.rep _))⟩
 .exact fe q
mutual
noncomputable def eqT:Tr->Tr->Bool
 |.bL,.bL=>true
 |.bl a,.bl b=>a==b
 |.bl a,.int b=>(if a then 1 else 0)==b
 |.int a,.bl b=>a==(if b then 1 else 0)
 |.int a,.int b=>a==b
 |.str a,.str b=>a==b
 |.tup a,.tup b=>Dw a b
 |.lst a,.lst b=>Dw a b
 |_,_=>false
noncomputable def Dw:List Tr->List Tr->Bool
 |[],[]=>true
 |x::xs,y::ys=>eqT x y&&Dw xs ys
 |_,_=>false
end
mutual
noncomputable def rE:Tr->Bool
 |.bL=>true
 |.bl _=>true
 |.int _=>true
 |.str _=>true
 |.tup ts=>xo ts
 |.lst ts=>xo ts
 |_=>false
noncomputable def xo:List Tr->Bool
 |[]=>true
 |t::ts=>rE t&&xo ts
end
mutual
noncomputable def dT:Tr->Nat
 |.tup ts=>Pe ts+1
 |.lst ts=>Pe ts+1
 |_=>0
noncomputable def Pe:List Tr->Nat
 |[]=>0
 |t::ts=>max (dT t) (Pe ts)
end
theorem pF:∀{ts:List Tr},xo ts=true->∀t∈ts,rE t=true
 |[],_,t,h=>nomatch h
 |u::us,h,t,m=>by
  rw[xo,bC]at h;rcases a_.mp m with rfl|m
  .exact h.1
  .exact pF h.2 t m
theorem zP:∀{ts:List Tr},∀t∈ts,dT t<=Pe ts
 |[],t,h=>nomatch h
 |u::us,t,m=>by
  rw[Pe];rcases a_.mp m with rfl|m
  .exact Nat.le_max_left _ _
  .exact bI (zP t m) (Nat.le_max_right _ _)
theorem Bw:∀(xs ys:List Tr),((List.range (min xs.length ys.length)).all (λj=>eqT (xs.getD j .bL) (ys.getD j .bL))&&xs.length==ys.length)=Dw xs ys
 |[],[]=>rfl
 |[],y::ys=>rfl
 |x::xs,[]=>rfl
 |x::xs,y::ys=>by
  have L:=Bw xs ys;rw[Dw,<-L,dq,dq,Nat.succ_min_succ,List.range_succ_eq_map,i9,sT,Bool.and_assoc];congr 1;have b:(xs.length+1==ys.length+1)=(xs.length==ys.length):=by rw[kj,fG,fG];omega
  rw[b]
  rfl
def LA{v u:Value}{k:Bool}(g:∀b t,v≠Value.float b t)(hs:v=u->k=true)(h:SeqAt.RcAt A s v u k):SeqAt.EqAt A s v u k:=λprog w E Q L=>by
 unfold eqBool;refine jg ?_
 refine wpAny_ite_split (λq=>?_) (λ_=>?_)
 .rw[hs (eq_of_beq q)]at L;exact aM (wpAny_rule (bo L))
 .cases v with
  |float b t=>exact absurd rfl (g b t)
  |_=>exact aM (h prog w E _ (mr L))
theorem vm(I:Inv X U Z H s){ws:List V}(b:mf X.K H a vs)(g:H a=some (.lst ws)):False:=by
 obtain⟨_,_,⟨o,e,c,_⟩,_⟩:=I.tuple b;obtain⟨_,bM,n,_,L⟩:=I.cL a _ g;rw[e]at L;cases L;exact absurd c (by show¬(Value.type "list"=.type "tuple");decide)
noncomputable def vT:V->Tr
 |.bL=>.bL
 |.bl b=>.bl b
 |.int i=>.int i
 |.str z=>.str z
 |_=>.at 0
def pG(r:Rep K W x t)(p:rE t=true):(∃ts,t=.tup ts)\/(∃ts,t=.lst ts)\/t=vT x:=by
 cases r<;>first|(cases p;done)|exact .inr (.inr rfl)|exact .inl ⟨_,rfl⟩|exact .inr (.inl ⟨_,rfl⟩)
def t9{t:Tr}(e:t=vT x)(p:rE t=true)(g:rE t'=true)(b:Rep K W x t'):t=t':=by
 rcases pG b g with⟨ts,rfl⟩|⟨ts,rfl⟩|L
 .obtain⟨a,_,rfl,_⟩:=b.eD;rw[e]at p;cases p
 .obtain⟨a,_,rfl,_⟩:=b.lst_inv;rw[e]at p;cases p
 .rw[e,L]
theorem LC(I:Inv X U Z H s):∀(n:Nat) {x:V} {t t':Tr},dT t<=n->rE t=true->rE t'=true->Rep X.K (⟨H,sY⟩:Vw) x t->Rep X.K (⟨H,sY⟩:Vw) x t'->t=t':=by
 intro n
 induction n with
 |zero=>
  intro x t t' hd p L r b;rcases pG r p with⟨ts,rfl⟩|⟨ts,rfl⟩|e
  .exact absurd hd (Nat.not_succ_le_zero _)
  .exact absurd hd (Nat.not_succ_le_zero _)
  .exact t9 e p L b
 |succ n ih=>
  intro x t t' hd p L r b;have go:∀{vs:List V} {ts yV:List Tr},Pe ts<=n->xo ts=true->xo yV=true->bp X.K (⟨H,sY⟩:Vw) vs ts->bp X.K (⟨H,sY⟩:Vw) vs yV->ts=yV:=by
   intro vs ts yV k1 k2 k3;have M:=λt m=>bI (zP (ts:=ts) t m) k1;have S:=pF k2;have h3:=pF k3
   clear hd p L r b k1 k2 k3
   induction vs generalizing ts yV with
   |nil=>intro q q';cases q;cases q';rfl
   |cons v vs Z0=>
    intro(.cons qh qr) (.cons Z1 Z2);rw[List.forall_mem_cons]at M S h3;rw[ih M.1 S.1 h3.1 qh Z1,Z0 M.2 S.2 h3.2 qr Z2]
  rcases pG r p with⟨ts,rfl⟩|⟨ts,rfl⟩|e
  .rcases pG b L with⟨yV,rfl⟩|⟨yV,rfl⟩|e
   .obtain⟨a,vs,rfl,h,rr⟩:=r.eD;obtain⟨_,LD,e,h',g⟩:=b.eD;cases e;cases I.yC h h';rw[go (Nat.le_of_succ_le_succ hd) p L rr g]
   .obtain⟨a,vs,rfl,h,rr⟩:=r.eD;obtain⟨_,LD,e,h',g⟩:=b.lst_inv;cases e;exact(vm I h h').elim
   .exact(t9 e L p r).symm
  .rcases pG b L with⟨yV,rfl⟩|⟨yV,rfl⟩|e
   .obtain⟨a,vs,rfl,h,rr⟩:=r.lst_inv;obtain⟨_,LD,e,h',g⟩:=b.eD;cases e;exact(vm I h' h).elim
   .obtain⟨a,vs,rfl,h,rr⟩:=r.lst_inv;obtain⟨_,LD,e,h',g⟩:=b.lst_inv;cases e;cases h.symm.trans h';rw[go (Nat.le_of_succ_le_succ hd) p L rr g]
   .exact(t9 e L p r).symm
  .exact t9 e p L b
mutual
theorem Bx:∀{t:Tr},rE t=true->eqT t t=true
 |.bL,_=>rfl
 |.bl b,_=>by rw[eqT];exact aU b
 |.int i,_=>by rw[eqT];exact aU i
 |.str z,_=>by rw[eqT];exact aU z
 |.tup ts,h=>by rw[eqT];rw[rE]at h;exact uJ h
 |.lst ts,h=>by rw[eqT];rw[rE]at h;exact uJ h
 |.ty _,h=>by cases h
 |.vg _,h=>by cases h
 |.bh _,h=>by cases h
 |.at _,h=>by cases h
 |.vh _,h=>by cases h
 |.ob _ _,h=>by cases h
 |.yN _,h=>by cases h
theorem uJ:∀{ts:List Tr},xo ts=true->Dw ts ts=true
 |[],_=>rfl
 |t::ts,h=>by
  rw[xo,bC]at h;rw[Dw,Bx h.1,uJ h.2]
  rfl
end
def E5{l:List α}{x d:α}(h:l[aa]?=some x):l.getD aa d=x:=by rw[p9,h];rfl
inductive Sh(K:Frag)(G:Vw)(h:Heap):Tr->Value->Prop
 |bL:Sh K G h .bL .none
 |bl (b:Bool):Sh K G h (.bl b) (.bool b)
 |int (b:Int) (w:Tok):Sh K G h (.int b) (.int b w)
 |str (b:Str) (w:Tok):Sh K G h (.str b) (.str b w)
 |tup {a:Addr} {vs:List V} {ts:List Tr} {us:List Value} (q:h.IsTuple a us.toArray) (rr:bp K G vs ts) (rv:Vals vs us):Sh K G h (.tup ts) (.ref a)
 |lst {a:Addr} {vs:List V} {ts:List Tr} {us:List Value} (q:h.IsList a us.toArray) (rr:bp K G vs ts) (rv:Vals vs us):Sh K G h (.lst ts) (.ref a)
theorem zQ(I:Inv X U Z H s)(p:rE t=true)(r:Rep X.K (⟨H,sY⟩:Vw) x t)(g:RelV x v):Sh X.K ⟨H,sY⟩ s.heap t v:=by
 cases r with
 |bL=>cases(show v=Value.none from g);exact .bL
 |bl b=>cases(show v=Value.bool b from g);exact .bl b
 |int b=>obtain⟨w,rfl⟩:=(show∃t,v=Value.int b t from g);exact .int b w
 |str b _=>obtain⟨w,rfl⟩:=(show∃t,v=Value.str b t from g);exact .str b w
 |@tup a _ _ h L=>cases(show v=Value.ref a from g);obtain⟨_,rv,q,_⟩:=I.tuple h;exact .tup q L rv
 |@lst a _ _ h L=>cases(show v=Value.ref a from g);obtain⟨_,rv,q,_⟩:=I.list (.of h);exact .lst q.isList L rv
 |_=>cases p
def E6(I:Inv X U Z H s)(n:Nat)(hd:dT t<=n)(p:rE t=true)(M:rE t'=true)(r:Rep X.K (⟨H,sY⟩:Vw) x t)(S:Rep X.K (⟨H,sY⟩:Vw) y t')(g:RelV x v)(ry:RelV y u)(q:SeqAt.RcAt A s v u (eqT t t')):SeqAt.EqAt A s v u (eqT t t'):=by
 refine LA (λb t e=>?_) (λe=>?_) q
 .subst e;cases r<;>first|(obtain⟨_,z⟩:=g;cases z;done)|(cases g;done)
 subst e;rw[g.inj ry]at r;rw[<-LC I n hd p M r S];exact Bx p
def E7{A:Around}(S:Sh K G s.heap t v)(q:Sh K G s.heap t' u)(b:A.units<cLine):(SeqAt.RcAt A s v u (eqT t t')/\SeqAt.RcNeAt A s v u (!eqT t t'))\/∃ts g,(t=.tup ts/\t'=.tup g)\/(t=.lst ts/\t'=.lst g):=by
 cases S<;>cases q<;>first|exact .inr ⟨_,_,.inl ⟨rfl,rfl⟩⟩|exact .inr ⟨_,_,.inr ⟨rfl,rfl⟩⟩|(refine .inl ⟨?_,?_⟩<;>simp only[eqT,dJ,dM]<;>with_reducible first|exact .none_none|exact .none_bool _|exact .none_int _ _|exact .none_str _ _|exact .none_tuple ‹_› b|exact .none_list ‹_› b|exact .bool_none _|exact .bool_bool _ _|exact .bool_int _ _ _|exact .bool_str _ _ _|exact .bool_tuple _ ‹_› b|exact .bool_list _ ‹_› b|exact .int_none _ _|exact .int_bool _ _ _|exact .int_int _ _ _ _|exact .int_str _ _ _ _|exact .int_tuple _ _ ‹_› b|exact .int_list _ _ ‹_› b|exact .str_none _ _|exact .str_bool _ _ _|exact .str_int _ _ _ _|exact .str_str _ _ _ _|exact .str_tuple _ _ ‹_› b|exact .str_list _ _ ‹_› b|exact .tuple_none ‹_› b|exact .tuple_bool _ ‹_› b|exact .tuple_int _ _ ‹_› b|exact .tuple_str _ _ ‹_› b|exact .tuple_list ‹_› ‹_› b|exact .list_none ‹_› b|exact .list_bool _ ‹_› b|exact .list_int _ _ ‹_› b|exact .list_str _ _ ‹_› b|exact .list_tuple ‹_› ‹_› b)
theorem Pf(I:Inv X U Z H s):∀(n:Nat) {A:Around} {x y:V} {v u:Value} {t t':Tr},dT t<=n->rE t=true->rE t'=true->Rep X.K (⟨H,sY⟩:Vw) x t->Rep X.K (⟨H,sY⟩:Vw) y t'->RelV x v->RelV y u->A.units+n<cLine->SeqAt.RcAt A s v u (eqT t t')/\SeqAt.RcNeAt A s v u (!eqT t t'):=by
 intro n
 induction n with
 |zero=>
  intro A x y v u t t' hd p p' r r' rx ry hu;rcases E7 (zQ I p r rx) (zQ I p' r' ry) (A:=A) (by omega)with h|⟨_,_,⟨rfl,_⟩|⟨rfl,_⟩⟩
  .exact h
  all_goals exact absurd hd (by rw[dT];omega)
 |succ n ih=>
  intro A x y v u t t' hd p p' r r' rx ry hu;have M:A.units<cLine:=by omega
  have a9:∀{vs LD:List V} {us By:List Value} {ts yV:List Tr},Pe ts<=n->xo ts=true->xo yV=true->bp X.K (⟨H,sY⟩:Vw) vs ts->bp X.K (⟨H,sY⟩:Vw) LD yV->Vals vs us->Vals LD By->∀(j:Nat) (h1:j<us.toArray.size) (h2:j<By.toArray.size),
    SeqAt.EqAt A.in1 s us.toArray[j] By.toArray[j] (eqT (ts.getD j .bL) (yV.getD j .bL)):=by
   intro vs LD us By ts yV d1 q1 q2 b g rv L j h1 h2;replace h1:j<us.length:=h1;replace h2:j<By.length:=h2;have k1:=cI (Nat.lt_of_lt_of_eq h1 rv.length.symm);have k2:=cI (Nat.lt_of_lt_of_eq h2 L.length.symm);obtain⟨t1,e1,p1⟩:=b.Bf k1;obtain⟨t2,e2,p2⟩:=g.Bf k2;obtain⟨w1,f1,g1⟩:=rv.get k1;obtain⟨w2,f2,g2⟩:=L.get k2;rw[cI h1]at f1;rw[cI h2]at f2;rw[List.getElem_toArray,List.getElem_toArray,Option.some.inj f1,Option.some.inj f2,E5 e1,E5 e2];have m1:=eQ e1;have q2:=pF q2 _ (eQ e2);have q1:=pF q1 _ m1;have d:=bI (zP _ m1) d1;exact E6 I n d q1 q2 p1 p2 g1 g2 (ih d q1 q2 p1 p2 g1 g2 (by show A.units+1+n<cLine;omega)).1
  have S:=zQ I p r rx;have S':=zQ I p' r' ry;rcases E7 S S' M with h|⟨ts,yV,⟨rfl,rfl⟩|⟨rfl,rfl⟩⟩
  .exact h
  all_goals
   rw[dT]at hd;have it:=λ{vs LD us By}=>@a9 vs LD us By _ _ (Nat.le_of_add_le_add_right hd) p p';have e:=Bw ts yV;rw[eqT]
  .cases S with|tup q b rv=>
   cases S' with|tup q' g L=>
   rw[<-e,<-b.length,<-g.length,rv.length,L.length];exact⟨.tuples q q' M (it b g rv L),.tuples q q' M (it b g rv L)⟩
  cases S with|lst q b rv=>
  cases S' with|lst q' g L=>
  have l:=b.length;have l':=g.length;rw[rv.length]at l;rw[L.length]at l';by_cases hz:ts.length=yV.length
  .rw[hz,Nat.min_self,aU,mB,<-hz,<-l]at e;rw[<-e];exact⟨.lists q q' (by simp;omega) M (it b g rv L),.lists q q' (by simp;omega) M (it b g rv L)⟩
  .rw[jM hz,wL]at e;rw[<-e];exact⟨.lists_lengths q q' (by simp;omega) M,.lists_lengths q q' (by simp;omega) M⟩
def SX(a b:Tr):Rs Tr:=if rE a=true/\rE b=true/\dT a<=40 then .ok (.bl (eqT a b))else .bad
def cM{X:Cx}(b:X.A.units+40<cLine):Bi X (compareOp .Eq) SX:=by
 intro U s Z H x y v u Q I L g ⟨B,tx,ty,hb,r1,r2,q⟩;obtain⟨⟨p1,r,hd⟩,k⟩:=h_ q;exact(Pf I 40 hd p1 r r1.up r2.up L g b).1 _ _ _ _ ⟨.bl _,H,I,rfl,k _ H (aI.refl H) (.bl _)⟩
def Ip(I:Inv X U Z H s)(n:Nat){A:Around}(hd:dT t<=n)(p:rE t=true)(b:rE t'=true)(r:Rep X.K (⟨H,sY⟩:Vw) x t)(g:Rep X.K (⟨H,sY⟩:Vw) y t')(q:RelV x v)(M:RelV y u)(S:A.units+n<cLine):SeqAt.EqAt A s v u (eqT t t'):=
 E6 I n hd p b r g q M (Pf I n hd p b r g q M S).1
def Oa(a b:Tr):Rs Tr:=if rE a=true/\rE b=true/\dT a<=40 then .ok (.bl (!eqT a b))else .bad
def LF{X:Cx}(b:X.A.units+40<cLine):Bi X (compareOp .NotEq) Oa:=by
 intro U s Z H x y v u Q I L g ⟨B,tx,ty,hb,r1,r2,q⟩;obtain⟨⟨p1,r,hd⟩,k⟩:=h_ q;exact(Pf I 40 hd p1 r r1.up r2.up L g b).2 _ _ _ _ ⟨.bl _,H,I,rfl,k _ H (aI.refl H) (.bl _)⟩
noncomputable def Wl:Tr->Tr->Rs Tr
 |.int i,.int j=>.ok (.bl (decide (i<j)))
 |.str a,.str b=>.ok (.bl (decide (a.cps.toList<b.cps.toList)))
 |_,_=>.bad
noncomputable def Wm:Tr->Tr->Rs Tr
 |.int i,.int j=>.ok (.bl (decide (i<=j)))
 |.str a,.str b=>.ok (.bl (!(decide (b.cps.toList<a.cps.toList))))
 |_,_=>.bad
def Wn:Tr->Tr->Rs Tr
 |.int i,.int j=>.ok (.bl (decide (j<i)))
 |_,_=>.bad
def Wo:Tr->Tr->Rs Tr
 |.int i,.int j=>.ok (.bl (decide (j<=i)))
 |_,_=>.bad
def LG:Bi X (compareOp .Lt) Wl:=by
 intro U s Z H x y v u Q I L b ⟨B,tx,ty,hb,r1,r2,q⟩;unfold Wl at q;split at q
 .exact Sg U s Z H _ _ v u Q I L b ⟨_,_,r1.int_inv,r2.int_inv,q _ H (aI.refl H) (.bl _)⟩
 .exact Ga U s Z H _ _ v u Q I L b ⟨_,_,r1.str_inv.1,r2.str_inv.1,q _ H (aI.refl H) (.bl _)⟩
 .exact fe q
def Wq:Bi X (compareOp .LtE) Wm:=by
 intro U s Z H x y v u Q I L b ⟨B,tx,ty,hb,r1,r2,q⟩;unfold Wm at q;split at q
 .exact Si U s Z H _ _ v u Q I L b ⟨_,_,r1.int_inv,r2.int_inv,q _ H (aI.refl H) (.bl _)⟩
 .exact Gk U s Z H _ _ v u Q I L b ⟨_,_,r1.str_inv.1,r2.str_inv.1,q _ H (aI.refl H) (.bl _)⟩
 .exact fe q
def Dy:Bi X (compareOp .Gt) Wn:=by
 intro U s Z H x y v u Q I L b ⟨B,tx,ty,hb,r1,r2,q⟩;unfold Wn at q;split at q
 .exact Sj U s Z H _ _ v u Q I L b ⟨_,_,r1.int_inv,r2.int_inv,q _ H (aI.refl H) (.bl _)⟩
 .exact fe q
def SY:Bi X (compareOp .GtE) Wo:=by
 intro U s Z H x y v u Q I L b ⟨B,tx,ty,hb,r1,r2,q⟩;unfold Wo at q;split at q
 .exact Sk U s Z H _ _ v u Q I L b ⟨_,_,r1.int_inv,r2.int_inv,q _ H (aI.refl H) (.bl _)⟩
 .exact fe q
noncomputable def S0:Tr->Bool
 |.bL=>true
 |_=>false
def zR(r:Rep K H x t):decide (x=.bL)=S0 t:=by
 cases r<;>rfl
def LH:Tr->Tr->Rs Tr
 |a,.bL=>.ok (.bl (S0 a))
 |.bl a,.bl b=>.ok (.bl (a==b))
 |_,_=>.bad
def LJ:Tr->Tr->Rs Tr
 |a,.bL=>.ok (.bl (!S0 a))
 |.bl a,.bl b=>.ok (.bl (a !=b))
 |_,_=>.bad
def Pg:Bi X (compareOp .Is) LH:=by
 intro U s Z H x y v u Q I L b ⟨B,tx,ty,hb,r1,r2,q⟩;unfold LH at q;split at q
 .exact Ox U s Z H _ _ v u Q I L b ⟨r2.ER,by rw[zR r1];exact q _ H (aI.refl H) (.bl _)⟩
 .exact O2 U s Z H _ _ v u Q I L b ⟨_,_,r1.rD,r2.rD,q _ H (aI.refl H) (.bl _)⟩
 .exact fe q
def S1:Bi X (compareOp .IsNot) LJ:=by
 intro U s Z H x y v u Q I L b ⟨B,tx,ty,hb,r1,r2,q⟩;unfold LJ at q;split at q
 .exact KZ U s Z H _ _ v u Q I L b ⟨r2.ER,by rw[zR r1];exact q _ H (aI.refl H) (.bl _)⟩
 .exact Gm U s Z H _ _ v u Q I L b ⟨_,_,r1.rD,r2.rD,q _ H (aI.refl H) (.bl _)⟩
 .exact fe q
noncomputable def eM(bg:List (Key×Tr))(k:Key):Option Tr:=(bg.find? λL=>decide (L.1=k)).map (·.2)
noncomputable def kR:Tr->Option Key
 |.int i=>some (.inl i)
 |.str z=>some (.inr z)
 |_=>none
def nA(r:Rep K H x t)(e:kR t=some k):x=kV k:=by
 cases r with
 |int i=>cases e;rfl
 |str z h=>cases e;rfl
 |_=>cases e
theorem qA(k:Key):∀{kvs:List (Key×V)} {bg:List (Key×Tr)},kvs.map (·.1)=bg.map (·.1)->bp K H (kvs.map (·.2)) (bg.map (·.2))->(eM bg k=none/\mJ kvs k=none)\/∃t v,eM bg k=some t/\mJ kvs k=some v/\Rep K H v t
 |[],[],_,_=>.inl ⟨rfl,rfl⟩
 |[],_::_,e,_=>by cases e
 |_::_,[],e,_=>by cases e
 |(k1,v1)::kvs,(k2,L)::bg,e,r=>by
  rw[aX,aX]at e;injection e with b g
  have I:k1=k2:=b;subst I;cases r with
  |cons h r=>
   by_cases q:k1=k
   .refine .inr ⟨L,v1,?_,tK q,h⟩;unfold eM;rw[jL,dA (show(k1,L).1=k from q)]
    rfl
   .rw[tL q];have M:eM ((k1,L)::bg) k=eM bg k:=by
     unfold eM;rw[jL,fV (show¬(k1,L).1=k from q)]
    rw[M];exact qA k g r
def Bz{H:Vw}{t:Tr}(h:Rd H.H a (.dK kvs))(e:kvs.map (·.1)=ch.map (·.1))(r:bp K H (kvs.map (·.2)) (ch.map (·.2)))(b:Rep K H y t)(g:kR t=some k):
  ∃o,rq H a y o/\((eM ch k=none/\o=none)\/∃t v,eM ch k=some t/\o=some v/\Rep K H v t):=by
 have L:=nA b g;subst L;refine⟨_,.inl ⟨kvs,k,h,rfl,rfl⟩,?_⟩;rcases qA k e r with⟨h1,h2⟩|⟨t,v,h1,h2,q⟩
 .exact .inl ⟨h1,h2⟩
 .exact .inr ⟨t,v,h1,h2,q⟩
def qY:Tr->Bool
 |.bL=>true
 |.bl _=>true
 |.int _=>true
 |.str _=>true
 |_=>false
def eU(x:Tr)(u:Value):Bool:=match u with
 |.none=>eqT .bL x
 |.bool b=>eqT (.bl b) x
 |.int i _=>eqT (.int i) x
 |.str z _=>eqT (.str z) x
 |_=>false
theorem Dz(r:Rep K H y t)(f:qY t=true)(g:RelV y u):eU x u=eqT t x:=by
 cases r with
 |bL=>cases(show u=Value.none from g);rfl
 |bl b=>cases(show u=Value.bool b from g);rfl
 |int i=>obtain⟨w,rfl⟩:=(show∃t,u=Value.int i t from g);rfl
 |str z _=>obtain⟨w,rfl⟩:=(show∃t,u=Value.str z t from g);rfl
 |_=>cases f
theorem xp:∀{vs:List V} {ts:List Tr} {us:List Value},bp K H vs ts->ts.all qY=true->Vals vs us->us.any (eU x)=ts.any λy=>eqT y x
 |[],_,_,r,_,rv=>by cases r;cases rv;rfl
 |_::_,_,_,r,f,rv=>by
  cases r with
  |cons h r=>
   cases rv with
   |cons L rv=>
    rw[i9,bC]at f;rw[i8,i8,Dz h f.1 L,xp r f.2 rv]
def LL(f:qY t=true):dT t<=0/\rE t=true:=by cases t<;>first|exact⟨aZ _,rfl⟩|cases f
theorem pH{A:Around}(I:Inv X U Z H s)(b:A.units<cLine)(g:Rep X.K (⟨H,sY⟩:Vw) x t)(p:rE t=true)(M:RelV x v):∀{vs:List V} {ts:List Tr} {us:List Value},bp X.K (⟨H,sY⟩:Vw) vs ts->ts.all qY=true->Vals vs us->∀u∈us,SeqAt.EqAt A s u v (eU t u)
 |[],_,_,r,_,q=>λu m=>by cases q;cases m
 |_::_,_,_,r,f,q=>λu m=>by
  cases r with
  |cons h r=>
   cases q with
   |cons L q=>
    rw[i9,bC]at f;rcases a_.mp m with rfl|m
    .rw[Dz h f.1 L];obtain⟨S,p0⟩:=LL f.1;exact Ip I 0 S p0 p h g L M b
    .exact pH I b g p M r f.2 q u m
def yo(x:Tr)(ts:List Tr):Rs Bool:=if rE x=true/\ts.all qY=true then .ok (ts.any λy=>eqT y x)else .bad
def yW:Tr->Tr->Rs Tr
 |x,.tup ts=>Gn (yo x ts)
 |x,.lst ts=>Gn (yo x ts)
 |x,.bh bg=>match kR x with
  |some k=>.ok (.bl (eM bg k).isSome)
  |none=>.bad
 |.str i,.str j=>.ok (.bl (!(Builtin.Str.occurrences j i 0 j.length 1).isEmpty))
 |_,_=>.bad
def Gv:Tr->Tr->Rs Tr
 |x,.tup ts=>Gn (Dp (yo x ts))
 |x,.lst ts=>Gn (Dp (yo x ts))
 |x,.bh bg=>match kR x with
  |some k=>.ok (.bl (!(eM bg k).isSome))
  |none=>.bad
 |.str i,.str j=>.ok (.bl (!(!(Builtin.Str.occurrences j i 0 j.length 1).isEmpty)))
 |_,_=>.bad
def vS(q:Fi X H (yo x ts) k):rE x=true/\ts.all qY=true/\k (ts.any λy=>eqT y x):=by
 unfold yo at q;split at q
 .rename_i h;exact⟨h.1,h.2,q⟩
 .exact q.elim
def E8(r:Rep K (bJ B H) y (.bh bg))(b:Rep K (bJ B H) x q)(I:kR q=some k):∃a,y=.ref a/\∃o,rq H a x o/\o.isSome=(eM bg k).isSome:=by
 cases r with
 |bh h e L=>
  obtain⟨o,g,M⟩:=Bz (H:=raw _ _) (h.same bG) e (L.same eX) b.up I;refine⟨_,rfl,o,g,?_⟩;rcases M with⟨h1,rfl⟩|⟨_,_,h1,rfl,_⟩
  .rw[h1];rfl
  .rw[h1];rfl
theorem jR{X:Cx}(r:X.A.units+1<cLine):Bi X (compareOp .In) yW:=by
 intro U s Z H x y v u Q I L b ⟨B,tx,ty,hb,r1,r2,q⟩;unfold yW at q;split at q
 .have f:=vS (Fi.bind q);obtain⟨a,vs,rfl,h,rr⟩:=r2.eD;cases(show u=Value.ref a from b);obtain⟨bM,rv,pl,_⟩:=I.tuple h.up;refine SeqAt.in_tupleAt (eU tx) pl (λw hw=>pH I r r1.up f.1 L (rr.same eX) f.2.1 rv w (by simpa using hw)) ⟨.bl _,H,I,rfl,?_⟩;rw[show bM.toArray.any (eU tx)=bM.any (eU tx) by simp,xp rr f.2.1 rv];exact f.2.2 _ H (aI.refl H) (.bl _)
 .have f:=vS (Fi.bind q);obtain⟨a,vs,rfl,h,rr⟩:=r2.lst_inv;cases(show u=Value.ref a from b);obtain⟨bM,rv,pl,_⟩:=I.list (.of (dO h));refine SeqAt.in_listAt (eU tx) pl.isList (λw hw=>pH I r r1.up f.1 L (rr.same eX) f.2.1 rv w (by simpa using hw)) ⟨.bl _,H,I,rfl,?_⟩;rw[show bM.toArray.any (eU tx)=bM.any (eU tx) by simp,xp rr f.2.1 rv];exact f.2.2 _ H (aI.refl H) (.bl _)
 .split at q
  .rename_i M;obtain⟨a,rfl,g⟩:=E8 r2 r1 M;cases(show u=Value.ref a from b);obtain⟨o,g,S⟩:=g;refine V5 r I g L λs' I'=>⟨.bl _,H,I',rfl,?_⟩;rw[S];exact q _ H (aI.refl H) (.bl _)
  .exact fe q
 .exact Gb U s Z H _ _ v u Q I L b ⟨_,_,r1.str_inv.1,r2.str_inv.1,q _ H (aI.refl H) (.bl _)⟩
 .exact fe q
theorem vo{X:Cx}(r:X.A.units+1<cLine):Bi X (compareOp .NotIn) Gv:=by
 intro U s Z H x y v u Q I L b ⟨B,tx,ty,hb,r1,r2,q⟩;unfold Gv at q;split at q
 .have f:=vS (Fi.bind (Fi.bind q));obtain⟨a,vs,rfl,h,rr⟩:=r2.eD;cases(show u=Value.ref a from b);obtain⟨bM,rv,pl,_⟩:=I.tuple h.up;refine SeqAt.notIn_tupleAt (eU tx) pl (λw hw=>pH I r r1.up f.1 L (rr.same eX) f.2.1 rv w (by simpa using hw)) ⟨.bl _,H,I,rfl,?_⟩;rw[show bM.toArray.any (eU tx)=bM.any (eU tx) by simp,xp rr f.2.1 rv];exact f.2.2 _ H (aI.refl H) (.bl _)
 .have f:=vS (Fi.bind (Fi.bind q));obtain⟨a,vs,rfl,h,rr⟩:=r2.lst_inv;cases(show u=Value.ref a from b);obtain⟨bM,rv,pl,_⟩:=I.list (.of (dO h));refine SeqAt.notIn_listAt (eU tx) pl.isList (λw hw=>pH I r r1.up f.1 L (rr.same eX) f.2.1 rv w (by simpa using hw)) ⟨.bl _,H,I,rfl,?_⟩;rw[show bM.toArray.any (eU tx)=bM.any (eU tx) by simp,xp rr f.2.1 rv];exact f.2.2 _ H (aI.refl H) (.bl _)
 .split at q
  .rename_i M;obtain⟨a,rfl,g⟩:=E8 r2 r1 M;cases(show u=Value.ref a from b);obtain⟨o,g,S⟩:=g;refine Lc r I g L λs' I'=>⟨.bl _,H,I',rfl,?_⟩;rw[S];exact q _ H (aI.refl H) (.bl _)
  .exact fe q
 .exact zE U s Z H _ _ v u Q I L b ⟨_,_,r1.str_inv.1,r2.str_inv.1,q _ H (aI.refl H) (.bl _)⟩
 .exact fe q
noncomputable def kc{α:Type}:Option α->Rs α
 |some a=>.ok a
 |none=>.bad
def ib:Tr->Tr->Rs Tr
 |.tup ts,.int i=>kc (rn ts i)
 |.lst ts,.int i=>kc (rn ts i)
 |.str z,.int i=>(kc (rn z.cps.toList i)).bind λc=>.ok (.str ⟨#[c]⟩)
 |.vg ns,.int i=>(kc (rn ns i)).bind λn=>.ok (.int n)
 |.bh bg,t=>(kc (kR t)).bind λk=>kc (eM bg k)
 |_,_=>.bad
theorem bp.rn (r:bp K H vs ts)(e:L2.rn ts i=some t):∃v,L2.rn vs i=some v/\Rep K H v t:=by
 unfold L2.rn at e⊢;rw[r.length];cases q:Kx ts.length i with
 |none=>rw[q]at e;cases e
 |some j=>
  rw[q]at e;obtain⟨v,L,r1⟩:=r.get (show ts[j]?=some t from e);exact⟨v,L,r1⟩
def ig{o:Option α}{k:α->Prop}(h:Fi X H (kc o) k):∃a,o=some a/\k a:=by
 cases o with
 |none=>exact h.elim
 |some a=>exact⟨a,rfl,h⟩
def LM{β:Type}(f:α->β)(xs:List α)(i:Int):L2.rn (xs.map f) i=(L2.rn xs i).map f:=by
 unfold L2.rn;rw[aY];cases Kx xs.length i with
 |none=>rfl
 |some j=>show(xs.map f)[j]?=_;rw[b_];rfl
def LN(c:Nat):(⟨#[c]⟩:Str).length<=cy:=by show 1<=cy;decide
def LO(r:Rep K (bJ B H) x (.bh bg))(g:Rep K (bJ B H) y ty)(q:kR ty=some k)(b:eM bg k=some t):∃a w,x=.ref a/\rq H a y (some w)/\Rep K (bJ B H) w t:=by
 obtain⟨a,kvs,L,h,e,rr⟩:=r.qw;refine⟨a,?_⟩;rcases qA k e rr with⟨h1,_⟩|⟨t',w,h1,h2,I⟩
 .cases b.symm.trans h1
 .cases b.symm.trans h1;exact⟨w,L,.inl ⟨kvs,k,h.same bG,nA g q,h2.symm⟩,I⟩
theorem S2{X:Cx}(hu:X.A.units+1<cLine):Sv X (rT X ib):=by
 intro value slice U s Z H x y v u Q I b r ⟨B,tx,ty,hb,r1,r2,q⟩ hs;unfold ib at q;split at q
 .obtain⟨a,vs,e,h,rr⟩:=r1.eD;obtain⟨t,L,k⟩:=ig q;obtain⟨w,S,M⟩:=rr.rn L;exact OG value slice U s Z H _ _ v u Q I b r ⟨_,_,_,w,e,r2.int_inv,h.up,S,k w H (aI.refl H) M⟩ hs
 .obtain⟨a,vs,e,h,rr⟩:=r1.lst_inv;obtain⟨t,L,k⟩:=ig q;obtain⟨w,S,M⟩:=rr.rn L;exact EE value slice U s Z H _ _ v u Q I b r ⟨_,_,_,w,e,r2.int_inv,.of (dO h),S,k w H (aI.refl H) M⟩ hs
 .obtain⟨c,L,k⟩:=ig (Fi.bind q);exact OH value slice U s Z H _ _ v u Q I b r ⟨_,_,c,r1.str_inv.1,r2.int_inv,bI r1.str_inv.2 ll,L,k _ H (aI.refl H) (.str _ (LN c))⟩ hs
 .obtain⟨n,L,k⟩:=ig (Fi.bind q);obtain⟨a,e,h⟩:=r1.EO;exact EE value slice U s Z H _ _ v u Q I b r ⟨_,_,_,.int n,e,r2.int_inv,aI.seq bG h,by rw[LM,L];rfl,k _ H (aI.refl H) (.int n)⟩ hs
 .obtain⟨k,ek,qk⟩:=ig (Fi.bind q);obtain⟨t,L,qt⟩:=ig qk;obtain⟨a,w,rfl,g,M⟩:=LO r1 r2 ek L;cases(show v=Value.ref a from b);exact tail_any (A6 I g) PySem.F.slot_dict_getitem.lookup (Gh hu I g r λw' s' I' rv=>⟨w,H,I',rv,qt w H (aI.refl H) M⟩) hs
 .exact fe q
def bc{X:Cx}(g:X.A.units+1<cLine)(r:QE X a F)(hb:QE X b G)(hs:zH b:=by exact λ_ _=>rfl):QE X (.Subscript a b pos) (λY=>Ky ib (F Y) (G Y)):=⟨(Nk (S2 g) r.h hb.h hs).weak λ_ _ _ q=>tU q⟩
inductive tO(X:Cx)(P:bW->Rs (Option Int))(Z:St)(H:Hp)(Q:Option Int->Hp->Prop):Prop
 |mk (B:fj) (Y:bW):HB B H->cc X.K B H Z Y->(Fi X H (P Y) λo=>∀H',aI H H'->Q o H')->tO X P Z H Q
structure QO(X:Cx)(e:Option Expr)(F:bW->Rs (Option Int)):Prop where
 h:PO X e (tO X F)
def m9(r:Rs Tr):Rs (Option Int):=r.bind λt=>match t with
 |.int i=>.ok (some i)
 |_=>.bad
def nB:QO X none (λ_=>.ok none):=⟨λU s Z H Q I ⟨B,Y,hb,r,q⟩=>K7 U s Z H Q I (q H (aI.refl H))⟩
def iP(h:QE X e F):QO X (some e) (λY=>m9 (F Y)):=⟨λU s Z H Q I ⟨B,Y,hb,r,q⟩=>
 K8 h.h U s Z H Q I ⟨B,Y,hb,r,q.bind.mono λt L v H' b g=>by
  split at L
  .exact⟨_,g.int_inv,L H' b⟩
  .exact L.elim⟩⟩
def xq{α:Type}(xs:List α)(lo hi:Option Int):List α:=(xs.drop (HT.gL xs.length 0 lo)).take (HT.gL xs.length xs.length hi - HT.gL xs.length 0 lo)
def bp.cut (r:bp K H vs ts)(lo hi:Option Int):bp K H (AX vs lo hi) (xq ts lo hi):=by
 unfold AX xq;rw[r.length];exact(r.drop _).take _
def nC(n:Nat)(lo hi:Option Int):Bool:=HT.gL n 0 lo==0&&HT.gL n n hi==n
def Wr:Tr->Option Int->Option Int->Rs Tr
 |.tup ts,lo,hi=>if nC ts.length lo hi=true then .bad else .ok (.tup (xq ts lo hi))
 |.lst ts,lo,hi=>.ok (.lst (xq ts lo hi))
 |.str z,lo,hi=>if(Txt.slice z lo hi).length<=cy then .ok (.str (Txt.slice z lo hi))else .bad
 |_,_,_=>.bad
inductive Yq(X:Cx)(x:V)(lo:Option Int)(hi:Option Int)(H:Hp)(Q:VK):Prop
 |mk (B:fj) (t:Tr):HB B H->Rep X.K (bJ B H) x t->(Fi X H (Wr t lo hi) λt=>∀v H',aI H H'->Rep X.K (bJ B H') v t->Q v H')->Yq X x lo hi H Q
def Ws:Rj X (Yq X):=by
 intro U s Z H x v M S lo hi sl Q I rx hs pl pu ⟨B,t,hb,r,q⟩;cases r with
 |tup h b=>
  rename_i a vs ts;have g:Fi X H (if nC ts.length lo hi=true then Rs.bad else .ok (Tr.tup (xq ts lo hi))) _:=q;by_cases hw:nC ts.length lo hi=true
  .rw[ay hw]at g;exact fe g
  .rw[aE hw]at g;refine OF U s Z H _ v M S lo hi sl Q I rx hs pl pu ⟨_,_,rfl,h.up,λz=>hw ?_,λp L=>g _ _ (aI.upd L) (.Pc hb L (b.cut lo hi))⟩;rw[b.length]at z;unfold nC;rw[z.1,z.2,aU,aU];rfl
 |lst h b=>exact K' U s Z H _ v M S lo hi sl Q I rx hs pl pu ⟨_,_,rfl,.of (dO h),λp L=>q _ _ (aI.upd L) (.zO hb L (b.cut lo hi))⟩
 |str z hz=>
  obtain⟨h1,k⟩:=h_ q;exact O4 U s Z H _ v M S lo hi sl Q I rx hs pl pu ⟨z,rfl,bI hz ll,k _ H (aI.refl H) (.str _ h1)⟩
 |_=>exact fe q
noncomputable def LP:List Tr->Rs Tr
 |[.str z]=>.ok (.int (z.length:Int))
 |[.tup ts]=>.ok (.int (ts.length:Int))
 |[.lst ts]=>.ok (.int (ts.length:Int))
 |[.vg ns]=>.ok (.int (ns.length:Int))
 |_=>.bad
def S3:mL X (.builtin "len") LP:=by
 intro U s Z H xs us Q I L ⟨B,ts,hb,r,q⟩;unfold LP at q;split at q
 .obtain⟨x,e,r⟩:=fN r;exact tq U s Z H _ us Q I L ⟨_,_,e,by rw[r.str_inv.1];exact⟨bI r.str_inv.2 ll,rfl⟩,q _ H (aI.refl H) (.int _)⟩
 .obtain⟨x,e,r⟩:=fN r;obtain⟨a,vs,rfl,h,rr⟩:=r.eD;exact tq U s Z H _ us Q I L ⟨_,_,e,.inr ⟨_,h.up,rfl⟩,q _ H (aI.refl H) (by rw[rr.length];exact .int _)⟩
 .obtain⟨x,e,r⟩:=fN r;obtain⟨a,vs,rfl,h,rr⟩:=r.lst_inv;exact tq U s Z H _ us Q I L ⟨_,_,e,.inl ⟨_,.of (dO h),rfl⟩,q _ H (aI.refl H) (by rw[rr.length];exact .int _)⟩
 .obtain⟨x,e,r⟩:=fN r;obtain⟨a,rfl,h⟩:=r.EO;exact tq U s Z H _ us Q I L ⟨_,_,e,.inl ⟨_,aI.seq bG h,rfl⟩,q _ H (aI.refl H) (by rw[aY];exact .int _)⟩
 .exact fe q
noncomputable def Nx:List Tr->Rs Tr
 |[.tup ts]=>.ok (.lst ts)
 |[.lst ts]=>.ok (.lst ts)
 |_=>.bad
noncomputable def zS:List Tr->Rs Tr
 |[.tup ts]=>.ok (.tup ts)
 |[.lst ts]=>.ok (.tup ts)
 |_=>.bad
def zT:mL X (.type "tuple") zS:=by
 intro U s Z H xs us Q I L ⟨B,ts,hb,r,q⟩;unfold zS at q;split at q
 .obtain⟨x,e,r⟩:=fN r;obtain⟨a,vs,rfl,h,rr⟩:=r.eD;exact qU U s Z H _ us Q I L ⟨_,_,e,.inr ⟨h.up,q _ H (aI.refl H) (.tup h rr)⟩⟩
 .obtain⟨x,e,r⟩:=fN r;obtain⟨a,vs,rfl,h,rr⟩:=r.lst_inv;exact qU U s Z H _ us Q I L ⟨_,_,e,.inl ⟨.of (dO h),λp b=>q _ _ (aI.upd b) (.Pc hb b rr)⟩⟩
 .exact q.elim
noncomputable def Ny:Tr->String
 |.bL=>"NoneType"
 |.bl _=>"bool"
 |.int _=>"int"
 |.str _=>"str"
 |.ty _=>"type"
 |.tup _=>"tuple"
 |.lst _=>"list"
 |.vg _=>"list"
 |.bh _=>"dict"
 |.at _=>"object"
 |.vh _=>"dict"
 |.ob _ _=>"object"
 |.yN _=>"object"
def Yr(t:Tr)(c:String):Bool:=Ny t==c||(Ny t=="bool"&&c=="int")
noncomputable def kinds:List String:=["int","str","bool","tuple","list","dict"]
def LQ(K:Frag):∀a∈["NoneType","bool","int","str","tuple","list","dict"],∀c∈kinds,PySem.W.kitOne K (.type a) (.type c)=some (a==c||(a=="bool"&&c=="int")):=by
 intro a L c b;simp only[kinds,a_,dr,dt]at L b;rcases L with rfl|rfl|rfl|rfl|rfl|rfl|rfl<;>rcases b with rfl|rfl|rfl|rfl|rfl|rfl<;>first|rfl|(unfold PySem.W.kitOne;exact ay (by decide))
def S4:Tr->Bool
 |.ty _|.at _|.ob _ _|.yN _=>true
 |_=>false
def S5:List Tr->Rs Tr
 |[t,.ty c]=>if S4 t=false/\kinds.contains c=true then .ok (.bl (Yr t c))else .bad
 |_=>.bad
theorem LR{c:String}(I:Inv X U Z H s)(r:Rep X.K (⟨H,sY⟩:Vw) x t)(h0:S4 t=false)(g:RelV x u)(S:c∈kinds)(h:∀tk,ae (.bool (Yr t c)) {s with toks:=tk}):
  wpAny (model X.prog X.w) A (call (.builtin "isinstance") [u,.type c]) ae E s:=by
 have L:=λa ha=>LQ X.K a ha c S;cases r with
 |bL=>exact mI I g .bL (L _ (by decide)) h
 |bl b=>exact mI I g (.bl b) (L _ (by decide)) h
 |int i=>exact mI I g (.int i) (L _ (by decide)) h
 |str z hz=>exact mI I g (.str z) (L _ (by decide)) h
 |ty n=>cases h0
 |«at» h=>cases h0
 |ob h e M=>cases h0
 |yN h c=>cases h0
 |@vh a kvs bg q e M=>
  cases(show u=Value.ref a from g);obtain⟨_,_,xs,_,o,es,ep,h1,h2,_⟩:=(show cN X.prog X.w H s.heap a (.dT kvs)from I.cL a _ q);exact eV sJ I.nt ⟨o,h1,h2.1⟩ (L "dict" (by decide)) (λz=>nomatch z) h
 |@tup a vs ts q M=>
  cases(show u=Value.ref a from g);obtain⟨bM,rv,⟨o,h1,h2,_⟩,_⟩:=I.tuple q;exact eV PySem.W.kitx_tuple I.nt ⟨o,h1,h2⟩ (L "tuple" (by decide)) (λz=>nomatch z) h
 |lst q M=>exact mI I g (.lst q) (L _ (by decide)) h
 |@vg a ns q=>
  cases(show u=Value.ref a from g);obtain⟨bM,rv,⟨o,n,h1,h2,_⟩,_⟩:=I.list q;exact eV wx I.nt ⟨o,h1,h2⟩ (L "list" (by decide)) (λz=>nomatch z) h
 |@bh a kvs bg q e M=>
  cases(show u=Value.ref a from g);obtain⟨_,_,vs,_,p⟩:=(show cN X.prog X.w H s.heap a (.dK kvs)from q.ok I.cL);obtain⟨o,es,ep,h1,h2,_⟩:=p;exact eV sJ I.nt ⟨o,h1,h2.1⟩ (L "dict" (by decide)) (λz=>nomatch z) h
def S6:mL X (.builtin "isinstance") S5:=by
 intro U s Z H xs us Q I L ⟨B,ts,hb,r,q⟩;unfold S5 at q;split at q
 .obtain⟨⟨h0,h1⟩,k⟩:=h_ q;obtain⟨x,y,rfl,r1,r2⟩:=Bj r;obtain⟨v,u,rfl,v1,v2⟩:=vals2 L;cases r2;cases v2;exact LR I r1.up h0 v1 (by simpa using h1) λb=>⟨.bl _,H,I.tok _,rfl,k _ H (aI.refl H) (.bl _)⟩
 .exact q.elim
def mS(h:Str->List Tr->Rs Tr)(a:Rs Tr)(l:Rs (List Tr)):Rs Tr:=a.bind λt=>match t with
 |.str z=>l.bind (h z)
 |_=>.bad
inductive rM(X:Cx)(h:Str->List Tr->Rs Tr)(x:V)(xs:List V)(H:Hp)(Q:VK):Prop
 |mk (B:fj) (z:Str) (ts:List Tr):HB B H->x=.str z->z.length<=cy->bp X.K (bJ B H) xs ts->(Fi X H (h z ts) λt=>∀v H',aI H H'->Rep X.K (bJ B H') v t->Q v H')->rM X h x xs H Q
theorem Wt{cV:Pos}{id:String}(slot:Slot "str" name id)(g:typeOf (.builtin id)=pure (.type "method_descriptor"))(hm:Nj X id (rM X h))(I:QE X o F)(M:QA X (ag::af) L)(S:PlainAttrs "str":=by exact PySem.F.plainAttrs_str) (wZ:isCall o=false:=by rfl) (cU:bK (ag::af)=true:=by rfl) (hn:(ag::af).length<30:=by decide) (pB:(ah.endLine==cV.line)=true:=by rfl):QE X (.Call (.Attribute o name ah) (ag::af) [] cV) (λY=>mS h (F Y) (L Y)):=⟨(AY S slot g hm I.h M.h (h8 wZ) (by rw[hZ cU,dA (show(ag::af).length+([]:List Keyword).length+(if([]:List Keyword).isEmpty then 0 else 1)<30 from hn)];rfl) pB (bE _ _ (aK cU).1) (cq (aK cU).2)).weak λZ H Q ⟨B,Y,hb,r,q⟩=>⟨B,Y,hb,r,q.bind.mono λt b v H1 s1 r1=>by
  split at b
  .rename_i z;obtain⟨rfl,hz⟩:=r1.str_inv;exact⟨rfl,B,Y,hb.same s1,r.same s1,(Fi.bind b|>.same s1).mono λts qs vs H2 s2 r2=>⟨B,z,ts,hb.same (s1.trans s2),rfl,hz,r2,(qs.same (s1.trans s2)).mono λt b v H3 s3 r3=>b v H3 ((s1.trans s2).trans s3) r3⟩⟩
  .exact b.elim⟩⟩
def ox:List Tr->Rs (List Str)
 |[]=>.ok []
 |.str z::ts=>(ox ts).bind λzs=>.ok (z::zs)
 |_=>.bad
theorem BA:∀{ts:List Tr} {zs:List Str},ox ts=.ok zs->ts=zs.map Tr.str
 |[],zs,e=>by cases e;rfl
 |t::ts,zs,e=>by
  cases t with
  |str z=>
   rw[ox]at e;cases q:ox ts with
   |ok ys=>rw[q]at e;cases e;rw[BA q];rfl
   |_=>rw[q]at e;cases e
  |_=>cases e
theorem qZ:∀{zs:List Str} {vs:List V},bp K H vs (zs.map Tr.str)->vs=zs.map V.str
 |[],_,r=>by cases r;rfl
 |z::zs,_,r=>by
  cases r with
  |cons h r=>cases h;rw[qZ r];rfl
def joinM(z:Str):List Tr->Rs Tr
 |[.lst ts]=>(ox ts).bind λzs=>if JoinOk z zs=true/\(Txt.join z zs).length<=cy then .ok (.str (Txt.join z zs))else .bad
 |_=>.bad
theorem yX:∀{ts:List Tr} {c:Tr},ox ts≠ .exc c
 |[],_=>λe=>by cases e
 |t::ts,c=>λe=>by
  cases t with
  |str z=>
   rw[ox]at e;cases q:ox ts with
   |ok ys=>rw[q]at e;cases e
   |exc c=>exact yX q
   |bad=>rw[q]at e;cases e
  |_=>cases e
def Ph:Nj X "str.join" (rM X joinM):=by
 intro U s Z H x xs v us Q I L b ⟨B,z,ts,hb,e,hz,r,q⟩;subst e;unfold joinM at q;split at q
 .rename_i g;cases r with
  |cons h r=>
   cases r;cases h with
   |lst M S=>
    cases e:ox g with
    |ok zs=>
     rw[e]at q;obtain⟨⟨h1,h2⟩,k⟩:=h_ q;have e2:=BA e;subst e2;have e3:=qZ S;subst e3;exact Ll U s Z H _ _ v us Q I L b ⟨z,_,zs,rfl,rfl,.of (dO M),h1,k _ H (aI.refl H) (.str _ h2)⟩
    |exc c=>exact(yX e).elim
    |bad=>rw[e]at q;exact fe q
 .exact fe q
def S7:Tr->Rs Tr
 |.int i=>.ok (.int (-i))
 |_=>.bad
def Iq(b:QE X a F):QE X (.UnaryOp .USub a pos) (λY=>(F Y).bind S7):=⟨(Se Ow b.h).weak λZ H Q ⟨B,Y,hb,r,q⟩=>⟨B,Y,hb,r,q.bind.mono λt L v H' g I=>by
  cases I with
  |int i=>exact⟨i,rfl,L _ H' g (.int _)⟩
  |_=>exact fe L⟩⟩
def cD(b:cZ k A):A.units+40<cLine:=by have:=b.units;omega
def uK(n m:Nat)(G:bW->Rs Out)(ts:List Tr):Rs Tr:=if ts.length=n then eI (G (startT m ts))else .bad
def LU(h:uK n m G ts=.ok t):ts.length=n:=by
 unfold uK at h;split at h
 .assumption
 .cases h
def Pj(h:uK n m G ts=.ok t):eI (G (startT m ts))=.ok t:=by
 unfold uK at h;split at h
 .exact h
 .cases h
noncomputable def kz(bg:List (Key×Tr))(k:Key)(t:Tr):List (Key×Tr):=
 if(bg.any λL=>decide (L.1=k))=true then bg.map (λL=>if L.1=k then(L.1,t)else L)else bg++[(k,t)]
def lT(bg more:List (Key×Tr)):List (Key×Tr):=more.foldl (λacc L=>kz acc L.1 L.2) bg
structure dQ(K:Frag)(H:Vw)(kvs:List (Key×V))(bg:List (Key×Tr)):Prop where
 keys:kvs.map (·.1)=bg.map (·.1)
 vals:bp K H (kvs.map (·.2)) (bg.map (·.2))
theorem dQ.nil:dQ K H [] []:=⟨rfl,.nil⟩
theorem dQ.same (s:e_ H H')(h:dQ K H kvs bg):dQ K H' kvs bg:=⟨h.keys,h.vals.same s⟩
theorem dQ.cons {k:Key}(r:Rep K H v t)(h:dQ K H kvs bg):dQ K H ((k,v)::kvs) ((k,t)::bg):=⟨by rw[aX,aX,h.keys],.cons r h.vals⟩
def dQ.inv {k:Key}{v:V}{kvs:List (Key×V)}(h:dQ K H ((k,v)::kvs) bg):∃t r,bg=(k,t)::r/\Rep K H v t/\dQ K H kvs r:=by
 obtain⟨e,r⟩:=h
 match bg,e,r with
 |(k2,t)::L,e,r=>
  rw[aX,aX]at e;injection e with b g
  have q:k=k2:=b;subst q;cases r with
  |cons h1 h2=>exact⟨t,L,rfl,h1,g,h2⟩
theorem dQ.any (k:Key):∀{kvs:List (Key×V)} {bg:List (Key×Tr)},dQ K H kvs bg->(kvs.any λg=>decide (g.1=k))=bg.any λg=>decide (g.1=k)
 |[],bg,h=>by
  have e:=h.keys;cases bg with
  |nil=>rfl
  |cons a b=>cases e
 |(j,v)::kvs,bg,h=>by
  obtain⟨t,r,rfl,_,h2⟩:=h.inv;rw[i8,i8,dQ.any k h2]
theorem dQ.map (k:Key)(q:Rep K H y u):∀{kvs:List (Key×V)} {bg:List (Key×Tr)},dQ K H kvs bg->dQ K H (kvs.map λg=>if g.1=k then(g.1,y)else g) (bg.map λg=>if g.1=k then(g.1,u)else g)
 |[],bg,h=>by
  have e:=h.keys;cases bg with
  |nil=>exact .nil
  |cons a b=>cases e
 |(j,v)::kvs,bg,h=>by
  obtain⟨t,r,rfl,h1,h2⟩:=h.inv;rw[aX,aX];by_cases e:j=k
  .rw[ay (show(j,v).1=k from e),ay (show(j,t).1=k from e)];exact .cons q (dQ.map k q h2)
  .rw[aE (show¬(j,v).1=k from e),aE (show¬(j,t).1=k from e)];exact .cons h1 (dQ.map k q h2)
theorem dQ.snoc (k:Key)(g:Rep K H y u):∀{kvs:List (Key×V)} {bg:List (Key×Tr)},dQ K H kvs bg->dQ K H (kvs++[(k,y)]) (bg++[(k,u)])
 |[],bg,h=>by
  have e:=h.keys;cases bg with
  |nil=>exact .cons g .nil
  |cons a b=>cases e
 |(j,v)::kvs,bg,h=>by
  obtain⟨t,r,rfl,h1,h2⟩:=h.inv;exact .cons h1 (dQ.snoc k g h2)
def dQ.put (k:Key)(b:Rep K H y u)(h:dQ K H kvs bg):dQ K H (putK kvs k y) (kz bg k u):=by
 unfold putK kz;rw[h.any k];by_cases e:(bg.any λL=>decide (L.1=k))=true
 .rw[ay e,ay e];exact h.map k b
 .rw[aE e,aE e];exact h.snoc k b
theorem dQ.merge:∀{more:List (Key×V)} {DA:List (Key×Tr)} {kvs:List (Key×V)} {bg:List (Key×Tr)},dQ K H more DA->dQ K H kvs bg->dQ K H (iL kvs more) (lT bg DA)
 |[],DA,kvs,bg,h,q=>by
  have e:=h.keys;cases DA with
  |nil=>exact q
  |cons a b=>cases e
 |(k,v)::more,DA,kvs,bg,h,q=>by
  obtain⟨t,r,rfl,h1,h2⟩:=h.inv;exact dQ.merge (more:=more) (DA:=r) h2 (q.put k h1)
def cc.bar (h:cc K B H Z Y)(b:H p=none):cc K (mP B p) (upd H p o) Z Y:=by
 refine⟨h.len,λi t e=>?_,λi ts e=>?_,h.ap⟩
 .obtain⟨v,L,r⟩:=h.sh i t e;exact⟨v,L,r.same (ky b)⟩
 .obtain⟨D,ys,L,g,q,r⟩:=h.ow i ts e;exact⟨D,ys,L,EZ.hd _ g,by rwa[aN (cB q b)],r.same (ky b)⟩
def Ir(k v:Rs Tr)(r:Rs (List (Tr×Tr))):Rs (List (Tr×Tr)):=k.bind λx=>v.bind λy=>r.bind λps=>.ok ((x,y)::ps)
def xr:List (Tr×Tr)->Rs (List (Key×Tr))
 |[]=>.ok []
 |(k,t)::r=>(kc (kR k)).bind λk=>(xr r).bind λl=>.ok ((k,t)::l)
def S8(r:Rs (List (Tr×Tr))):Rs Tr:=r.bind λps=>if ps.length<=15 then(xr ps).bind λbg=>.ok (.bh (lT [] bg))else .bad
inductive BB(K:Frag)(H:Vw):List (V×V)->List (Tr×Tr)->Prop where
 |nil:BB K H [] []
 |cons {x y:V} {t u:Tr} {ps:List (V×V)} {qs:List (Tr×Tr)} (h1:Rep K H x t) (h2:Rep K H y u) (r:BB K H ps qs):BB K H ((x,y)::ps) ((t,u)::qs)
theorem BB.length (h:BB K H ps b):ps.length=b.length:=by
 induction h with
 |nil=>rfl
 |cons _ _ _ L=>rw[dq,dq,L]
def yY(h:BB K H ps g):Fi X H0 (xr g) k->∃kvs bg,k bg/\ps=kvs.map (λb=>(kV b.1,b.2))/\dQ K H kvs bg:=by
 induction h generalizing k with
 |nil=>exact λq=>⟨[],[],q,rfl,.nil⟩
 |cons L I r M=>
  intro q;obtain⟨key,S,q1⟩:=ig (Fi.bind q);obtain⟨kvs,bg,k1,e1,rd⟩:=M (Fi.bind q1);have e:=nA L S;subst e;exact⟨(key,_)::kvs,_,k1,by rw[aX,e1],.cons I rd⟩
structure QP(X:Cx)(pos:Pos)(keys:List (Option Expr))(vals:List Expr)(P:bW->Rs (List (Tr×Tr))):Prop where
 h:∃A8,Rl X pos keys vals A8/\∀Z H Q,(∃B Y,HB B H/\cc X.K B H Z Y/\Fi X H (P Y) λPk=>∀LV H',aI H H'->BB X.K (bJ B H') LV Pk->Q LV H')->w8 A8 Z H Q
def Nz:QP X pos [] [] λ_=>.ok []:=⟨[],EH,λZ H Q ⟨B,Y,hb,r,q⟩=>q [] H (aI.refl H) .nil⟩
def LW(b:PE X k (tP X F))(g:PE X c7 (tP X G))(I:QP X pos keys vals P):QP X pos (some k::keys) (c7::vals) λY=>Ir (F Y) (G Y) (P Y):=by
 obtain⟨A8,h1,h2⟩:=I.h;refine⟨_,A9 b g h1,λZ H Q ⟨B,Y,hb,r,q⟩=>?_⟩;refine⟨B,Y,hb,r,q.bind.mono λx L u H1 s1 M=>⟨B,Y,hb.same s1,r.same s1,(L.bind.same s1).mono λy S w H2 s2 r2=>h2 _ _ _ ⟨B,Y,hb.same (s1.trans s2),r.same (s1.trans s2),(S.bind.same (s1.trans s2)).mono λps qp LV H3 s3 r3=>?_⟩⟩⟩;exact qp _ H3 ((s1.trans s2).trans s3) (.cons (M.same (bx (s2.trans s3))) (r2.same (bx s3)) r3)
theorem Iu(h:QP X pos keys vals P)(S:keys.all (·.isSome)=true:=by rfl) (hl:keys.length=vals.length:=by rfl) (h0:keys.isEmpty=false:=by rfl) (OR:keys.length<=15:=by decide):QE X (.Dict keys vals pos) (λY=>S8 (P Y)):=⟨by
 obtain⟨A8,h1,h2⟩:=h.h;refine(EI h1 S hl (λz=>by rw[z]at h0;cases h0) OR).weak λZ H Q ⟨B,Y,hb,r,q⟩ p L=>?_
 refine h2 Z _ _ ⟨mP B p,Y,EY hb L,r.bar L,(q.bind.same (aI.upd L)).mono λPk b LV H2 s2 r2=>?_⟩;by_cases g:Pk.length<=15
 .rw[ay g]at b;obtain⟨kvs,bg,k1,I,rd⟩:=yY r2 (Fi.bind b);refine⟨s2 _ _ bA,kvs,I,?_,?_⟩
  .have M:=cR List.length I;rw[aY,r2.length]at M;rw[<-M];exact g
  .have Z3:=hb.free L;have rm:=(dQ.merge rd dQ.nil);refine k1 _ _ (((aI.upd L).trans s2).Bc L) (.bh (.inl (by rw[gM Z3];exact bA)) rm.keys (rm.vals.same ?_));have e3:bJ (mP B p) (upd H2 p (.dK (iL [] kvs)))=bJ (mP B p) H2:=t5;rw[<-e3];exact Bs
 .rw[aE g]at b;exact fe b⟩
def pI(a b c:Rs Tr):Rs Tr:=a.bind λx=>match x with
 |.bh bg=>b.bind λy=>c.bind λz=>(kc (kR y)).bind λk=>.ok ((eM bg k).getD z)
 |_=>.bad
def S9{cV:Pos}(hb:isCall o=false)(cU:bK [c7]=true)(b:(ah.endLine==cV.line)=true):M1 X o m ah c7 cV:=
 ⟨h8 hb,by rw[hZ cU];rfl,b,by rw[bE _ _ (aK cU).1,starEach];rfl⟩
def NA{cV:Pos}(hb:isCall o=false)(cU:bK [c7,ag]=true)(b:(ah.endLine==cV.line)=true):M2 X o m ah c7 ag cV:=
 ⟨h8 hb,by rw[hZ cU];rfl,b,by rw[bE _ _ (aK cU).1,bE _ _ (aK (aK cU).2).1,starEach];rfl⟩
def LX(g:rq (bJ B H) a y ov):rq H a y ov:=by
 rcases g with⟨kvs,k,L,q,r⟩|⟨kvs,k,b,L,q,r,I⟩
 .exact .inl ⟨kvs,k,L.same bG,q,r⟩
 .exact .inr ⟨kvs,k,b,L.same bG,q,bG _ _ r,I⟩
def Iw{X:Cx}{cV:Pos}(I:X.A.units+1<cLine)(b:QE X o F)(he:QE X e G)(hf:QE X f E)(hb:isCall o=false:=by rfl) (cU:bK [e,f]=true:=by rfl) (M:(ah.endLine==cV.line)=true:=by rfl):QE X (.Call (.Attribute o "get" ah) [e,f] [] cV) (λY=>pI (F Y) (G Y) (E Y)):=⟨have b:=b.h;(HV I b he.h hf.h (NA hb cU M)).weak λZ H Q ⟨B,Y,hb,r,q⟩=>⟨B,Y,hb,r,q.bind.mono λx L v H1 s1 S=>by
  split at L
  .obtain⟨_,_,rfl,h,e,rr⟩:=S.qw;refine⟨_,rfl,.inl ⟨_,h.same bG⟩,B,Y,hb.same s1,r.same s1,(Fi.bind L|>.same s1).mono λy qy w H2 s2 r2=>⟨B,Y,hb.same (s1.trans s2),r.same (s1.trans s2),(Fi.bind qy|>.same (s1.trans s2)).mono λz qz w3 H3 s3 r3=>?_⟩⟩;obtain⟨k,ek,qk⟩:=ig (Fi.bind qz);obtain⟨ov,g,b⟩:=Bz (Rd.same (bx (s2.trans s3)).h h) e (rr.same (bx (s2.trans s3))) (r2.same (bx s3)) ek;refine⟨ov,LX g,qk _ H3 ((s1.trans s2).trans s3) ?_⟩;rcases b with⟨h1,rfl⟩|⟨t,w',h1,rfl,h3⟩
   .rwa[h1]
   .rwa[h1]
  .exact L.elim⟩⟩
def DB(K:Frag)(w:World)(mg:Str->Option Value)(x:Str)(bg:List (Str×Tr)):Prop:=
 ∃a kvs,mg x=some (.ref a)/\Be K w a kvs/\∀z,(valueAt kvs z=none/\bg.lookup z=none)\/∃u v t,valueAt kvs z=some u/\RelV v u/\bg.lookup z=some t/\∀H,Rep K H v t
def S_(bg:List (Str×Tr)):Tr->Rs Tr
 |.str z=>kc (bg.lookup z)
 |_=>.bad
def Ta{X:Cx}(g:DB X.K X.w X.mg x bg)(I:QE X a F)(M:Gl X x:=by rfl) (hd:Db x:=by decide) (hs:OP a:=by exact λ_ _=>rfl):QE X (.Subscript (.Name x p) a pos) (λY=>(F Y).bind (S_ bg)):=⟨by
 obtain⟨ad,kvs,hm,D,S⟩:=g;refine(Ig (zC (v:=.ref ad) M hm rfl hd) I.h hs).weak λZ H Q ⟨B,Y,hb,r,q⟩=>?_
 refine⟨B,Y,hb,r,q.bind.mono λt L v H1 s1 r1=>?_⟩;unfold S_ at L;split at L
 .rename_i z;obtain⟨t,b,k⟩:=ig L;rcases S z with⟨h1,h2⟩|⟨u,v,t',h1,h3,h2,h4⟩
  .cases b.symm.trans h2
  .cases b.symm.trans h2;exact⟨ad,z,kvs,u,v,rfl,r1.str_inv.1,D,h1,h3,k v H1 s1 (h4 _)⟩
 .exact L.elim⟩
def DC:List Tr->Rs (List Bool)
 |[]=>.ok []
 |.bl b::ts=>(DC ts).bind λzs=>.ok (b::zs)
 |_=>.bad
theorem zU:∀{ts:List Tr} {vs:List V},bp K H vs ts->Fi X H0 (DC ts) k->∃bs,k bs/\vs=bs.map V.bl
 |[],_,r,q=>by cases r;exact⟨[],q,rfl⟩
 |t::ts,_,r,q=>by
  cases r with
  |cons h r=>
   cases h with
   |bl b=>
    obtain⟨bs,k1,e⟩:=zU (k:=λzs=>k (b::zs)) r (Fi.bind q);exact⟨b::bs,k1,by rw[e];rfl⟩
   |_=>exact fe q
def Tb:List Tr->Rs Tr
 |[.lst ts]=>(DC ts).bind λbs=>.ok (.bl (bs.all id))
 |_=>.bad
def Td{X:Cx}(b:X.calm=true):mL X (.builtin "all") Tb:=by
 intro U s Z H xs us Q I L ⟨B,ts,hb,r,q⟩;unfold Tb at q;split at q
 .obtain⟨x,rfl,h⟩:=fN r;obtain⟨a,vs,rfl,g,rr⟩:=h.lst_inv;obtain⟨bs,k,rfl⟩:=zU rr (Fi.bind q);exact Ic b U s Z H _ us Q I L ⟨_,bs,rfl,.of (dO g),k _ H (aI.refl H) (.bl _)⟩
 .exact fe q
inductive DD(K:Frag)(w:World):List DictEntry->List (Str×Value)->List (Str×Tr)->Prop
 |nil:DD K w [] [] []
 |cons {z:Str} {t:Tok} {v:V} {u:Value} {tr:Tr} {es:List DictEntry} {kvs:List (Str×Value)} {bg:List (Str×Tr)}:RelV v u->(∀H,Rep K H v tr)->DD K w es kvs bg->
   DD K w (⟨PyData.keyHash w.params z,.str z t,u⟩::es) ((z,u)::kvs) ((z,tr)::bg)
theorem DD.keys {w:World}{es:List DictEntry}(prog:Program)(h:DD K w es kvs bg):∀e∈es,∃k,(PySem.strKind prog w).is k e.key=true/\e.hash=(PySem.strKind prog w).hash k:=by
 induction h with
 |nil=>intro e he;cases he
 |@cons z t v u b es kvs bg _ _ _ L=>
  intro e he;rcases a_.mp he with rfl|he
  .exact⟨z,by simp[PySem.strKind,Value.isStrOf],rfl⟩
  .exact L e he
theorem DD.pairs {w:World}(prog:Program)(h:DD K w es kvs bg):Pairs (PySem.strKind prog w) es kvs:=by
 induction h with
 |nil=>exact .nil
 |cons _ _ _ L=>exact .cons (by simp[PySem.strKind,Value.isStrOf]) rfl L
theorem DD.at {w:World}(h:DD K w es kvs bg)(y:Str):(valueAt kvs y=none/\bg.lookup y=none)\/∃u v t,valueAt kvs y=some u/\RelV v u/\bg.lookup y=some t/\∀H,Rep K H v t:=by
 induction h with
 |nil=>exact .inl ⟨rfl,rfl⟩
 |@cons z t v u tr es kvs bg L b _ r=>
  by_cases e:z=y
  .subst e;exact .inr ⟨u,v,tr,by simp[valueAt],L,by simp[List.lookup],b⟩
  .have g:valueAt ((z,u)::kvs) y=valueAt kvs y:=by simp[valueAt,e]
   have q:List.lookup y ((z,tr)::bg)=bg.lookup y:=by
    have:(y==z)=false:=gB.mpr λk=>e k.symm;simp[List.lookup,this]
   rwa[g,q]
def DD.gd {w:World}{mg:Str->Option Value}(h:DD K w es kvs bg)(hm:mg x=some (.ref a))(b:K.lookup a=some ⟨.type "dict",none,.dict es.toArray ep,#[]⟩) (hs:(a==sysModules)=false) (hn:(kvs.map (·.1)).Nodup):DB K w mg x bg:=
 ⟨a,kvs,hm,⟨hs,_,_,_,b,⟨rfl,rfl,rfl⟩,rfl,λprog=>⟨λe he=>h.keys prog e (by simpa using he),h.pairs prog,hn⟩⟩,h.at⟩
inductive Ao where
 |lst (ts:List Tr)|bh (bg:List (Key×Tr))|ins (x:Str) (fs:List (Str×Tr))|vh (bg:List (List Key×Tr))|CN (x:Str)
abbrev Ab:=List Ao
def rG(K:Frag)(B:fj)(H:Hp)(a:Addr):Ao->Prop
 |.lst ts=>B.hd a=true/\∃vs,H a=some (.lst vs)/\bp K (bJ B H) vs ts
 |.bh bg=>B.hd a=true/\∃kvs,H a=some (.dK kvs)/\dQ K (bJ B H) kvs bg
 |.vh bg=>B.hd a=true/\∃kvs,H a=some (.dT kvs)/\kvs.map (·.1)=bg.map (·.1)/\bp K (bJ B H) (kvs.map (·.2)) (bg.map (·.2))
 |.ins x fs=>B.hd a=true/\∃dx L,H a=some (.ins (clsAt K x) dx L)/\H dx=some (.own a)/\B.ix dx=none/\L.map (·.1)=fs.map (·.1)/\bp K (bJ B H) (L.map (·.2)) (fs.map (·.2))
 |.CN x=>B.hd a=true/\∃b:Obj,H a=some (.ext λh=>h.get? a=some b)/\b.cls=.ref (clsAt K x)
structure HA(K:Frag)(B:fj)(A:Ab)(H:Hp):Prop where
 hb:HB B H
 ob:∀i o,A[i]?=some o->∃a,B.ix a=some i/\rG K B H a o
 inj:∀a b i,B.ix a=some i->B.ix b=some i->a=b
 lt:∀a i,B.ix a=some i->i<A.length
structure Grows(B:fj)(H:Hp)(B':fj)(H':Hp):Prop where
 lQ:e_ (bJ B H) (bJ B' H')
 kp:∀b o,B.ix b=none->H b=some o->H' b=some o
 hd:∀b,B.ix b=none->B.hd b=true->B'.hd b=true
 nw:∀b i,B'.ix b=some i->B.ix b=none->H b=none
theorem rG.same (h:rG K B H a o)(s:aI H H'):rG K B H' a o:=by
 cases o with
 |lst ts=>obtain⟨h0,vs,h1,h2⟩:=h;exact⟨h0,vs,s _ _ h1,h2.same (bx s)⟩
 |bh bg=>obtain⟨h0,vs,h1,h2⟩:=h;exact⟨h0,vs,s _ _ h1,h2.same (bx s)⟩
 |vh bg=>obtain⟨h0,vs,h1,h2,L⟩:=h;exact⟨h0,vs,s _ _ h1,h2,L.same (bx s)⟩
 |CN x=>obtain⟨h0,oe,h1,h2⟩:=h;exact⟨h0,oe,s _ _ h1,h2⟩
 |ins c fs=>obtain⟨h0,dx,g0,h1,h2,L,b,g⟩:=h;exact⟨h0,dx,g0,s _ _ h1,s _ _ h2,L,b,g.same (bx s)⟩
theorem rG.hd (h:rG K B H a o):B.hd a=true:=by cases o<;>exact h.1
def rG.mem (h:rG K B H a o):∃x,H a=some x/\(∀vs,x≠ .tup vs)/\∀b u,x≠ .kQ b u:=by
 cases o with
 |lst ts=>obtain⟨h0,vs,h1,h2⟩:=h;exact⟨_,h1,(λ_ e=>by cases e),(λ_ _ e=>by cases e)⟩
 |bh bg=>obtain⟨h0,vs,h1,h2⟩:=h;exact⟨_,h1,(λ_ e=>by cases e),(λ_ _ e=>by cases e)⟩
 |vh bg=>obtain⟨h0,vs,h1,h2⟩:=h;exact⟨_,h1,(λ_ e=>by cases e),(λ_ _ e=>by cases e)⟩
 |CN x=>obtain⟨h0,oe,h1,h2⟩:=h;exact⟨_,h1,(λ_ e=>by cases e),(λ_ _ e=>by cases e)⟩
 |ins c fs=>obtain⟨h0,dx,g0,h1,h2⟩:=h;exact⟨_,h1,(λ_ e=>by cases e),(λ_ _ e=>by cases e)⟩
theorem HA.same (h:HA K B A H)(s:aI H H'):HA K B A H':=
 ⟨h.hb.same s,λi o e=>by obtain⟨a,h1,h2⟩:=h.ob i o e;exact⟨a,h1,h2.same s⟩,h.inj,h.lt⟩
def HA.get (h:HA K B A H)(e:B.ix a=some i)(q:A[i]?=some o):rG K B H a o:=by
 obtain⟨b,h1,h2⟩:=h.ob i o q;rwa[h.inj a b i e h1]
def HA.ex (h:HA K B A H)(e:B.ix a=some i):∃o,A[i]?=some o/\rG K B H a o:=by
 have l:=h.lt a i e;exact⟨A[i],cI l,h.get e (cI l)⟩
def HA.free (h:HA K B A H)(b:H p=none):B.ix p=none:=by
 cases e:B.ix p with
 |none=>rfl
 |some i=>
  obtain⟨o,_,q⟩:=h.ex e;obtain⟨x,L,_⟩:=q.mem;rw[b]at L;cases L
def Grows.of (s:aI H H'):Grows B H B H':=⟨bx s,λb o _ e=>s b o e,λ_ _ e=>e,λb i e n=>by rw[n]at e;cases e⟩
theorem Grows.refl:Grows B H B H:=.of (aI.refl H)
theorem Grows.trans {B1:fj}(hb:HB B H)(a:Grows B H B1 H1)(b:Grows B1 H1 B2 H2):Grows B H B2 H2:=by
 have key:∀c,B.ix c=none->(∃o,H c=some o)->B1.ix c=none:=λc n ⟨o,e⟩=>by
  cases q:B1.ix c with
  |none=>rfl
  |some i=>have:=a.nw c i q n;rw[e]at this;cases this
 refine⟨a.lQ.trans b.lQ,λc o n e=>b.kp c o (key c n ⟨o,e⟩) (a.kp c o n e),λc n e=>?_,λc i e n=>?_⟩
 .exact b.hd c (key c n (hb c e)) (a.hd c n e)
 .cases q:B1.ix c with
  |none=>
   have:=b.nw c i e q;cases L:H c with
   |none=>rfl
   |some o=>rw[a.kp c o n L]at this;cases this
  |some j=>exact a.nw c j q n
noncomputable def pJ(B:fj)(p:Addr)(i:Nat):fj:=⟨λb=>B.hd b||b==p,λb=>if b=p then some i else B.ix b⟩
def qB:(pJ B p i).hd p=true:=by show(B.hd p||p==p)=true;rw[aU,fF]
def ij:(pJ B p i).ix p=some i:=ay rfl
def ik{p b:Addr}(h:b≠p):(pJ B p i).ix b=B.ix b:=aE h
def t_{p b:Addr}(h:b≠p):(pJ B p i).hd b=B.hd b:=by show(B.hd b||b==p)=_;rw[jM h,cK]
def Iy{B:fj}{H:Hp}(I:H p=none)(M:B.ix p=none)(s:aI H H'):e_ (bJ B H) (bJ (pJ B p i) H'):=⟨λb u e=>by
 have g:=bG b u e;have L:b≠p:=cB g I;have S:B.hd b=false:=by
  cases q:B.hd b with
  |false=>rfl
  |true=>
   have r:(if B.hd b=true then none else H b)=some u:=e;rw[q,ay rfl]at r;cases r
 rw[gM (by rwa[t_ L])];exact s b u g,λb j e=>by
 have L:b≠p:=λz=>by rw[z]at e;rw[show(bJ B H).ix p=B.ix p from rfl,M]at e;cases e
 show(pJ B p i).ix b=some j;rwa[ik L]⟩
theorem HA.push (h:HA K B A H)(hp:H p=none)(s:aI H H')(ho:rG K (pJ B p A.length) H' p o):Grows B H (pJ B p A.length) H'/\HA K (pJ B p A.length) (A++[o]) H':=by
 have hx:=h.free hp;have r:e_ (bJ B H) (bJ (pJ B p A.length) H'):=Iy hp hx s;have up:∀{a:Addr} {u:Ao},a≠p->rG K B H a u->rG K (pJ B p A.length) H' a u:=λ{a u} S q=>by
  have I:(pJ B p A.length).hd a=true:=by rw[t_ S];exact q.hd
  cases u with
  |lst ts=>obtain⟨h0,vs,h1,h2⟩:=q;exact⟨I,vs,s _ _ h1,h2.same r⟩
  |bh bg=>obtain⟨h0,vs,h1,h2⟩:=q;exact⟨I,vs,s _ _ h1,h2.same r⟩
  |vh bg=>obtain⟨h0,vs,h1,h2,h3⟩:=q;exact⟨I,vs,s _ _ h1,h2,h3.same r⟩
  |CN x=>obtain⟨h0,oe,h1,h2⟩:=q;exact⟨I,oe,s _ _ h1,h2⟩
  |ins c fs=>
   obtain⟨h0,dx,g0,h1,h2,h3,h4,h5⟩:=q;exact⟨I,dx,g0,s _ _ h1,s _ _ h2,by rwa[ik (cB h2 hp)],h4,h5.same r⟩
 refine⟨⟨r,λb u _ e=>s b u e,λb _ e=>?_,λb i e n=>?_⟩,⟨λb e=>?_,λi u e=>?_,λa b i g L=>?_,λa i e=>?_⟩⟩
 .show(B.hd b||b==p)=true;rw[e,fq]
 .by_cases q:b=p
  .rwa[q]
  .rw[ik q,n]at e;cases e
 .by_cases q:b=p
  .rw[q];obtain⟨x,L,_⟩:=ho.mem;exact⟨x,L⟩
  .rw[t_ q]at e;obtain⟨x,L⟩:=h.hb b e;exact⟨x,s _ _ L⟩
 .by_cases q:i<A.length
  .rw[p_ q]at e;obtain⟨a,g,L⟩:=h.ob i u e;have S:a≠p:=λz=>by rw[z,hx]at g;cases g
   exact⟨a,by rwa[ik S],up S L⟩
  .rw[v9 (Nat.le_of_not_lt q)]at e;have hi:i - A.length=0:=by
    cases z:i - A.length with
    |zero=>rfl
    |succ k=>rw[z]at e;cases e
   rw[hi]at e;cases e;have:i=A.length:=by omega
   subst this;exact⟨p,ij,ho⟩
 .by_cases q1:a=p
  .by_cases M:b=p
   .rw[q1,M]
   .rw[q1,ij]at g;cases g;rw[ik M]at L;exact absurd (h.lt b _ L) (fE _)
  .by_cases M:b=p
   .rw[M,ij]at L;cases L;rw[ik q1]at g;exact absurd (h.lt a _ g) (fE _)
   .rw[ik q1]at g;rw[ik M]at L;exact h.inj a b i g L
 .rw[dI,List.length_singleton];by_cases q:a=p
  .rw[q,ij]at e;cases e;exact sO _
  .rw[ik q]at e;exact wy (h.lt a i e)
def jb{B:fj}(h:B.hd a=true):bJ B (upd H a u)=bJ B H:=by
 unfold bJ;congr 1;funext b;by_cases q:b=a
 .subst q;rw[ay h,ay h]
 .rw[aN q]
def HA.write (h:HA K B A H)(e:B.ix a=some i)(S:rG K B (upd H a u) a o):Grows B H B (upd H a u)/\HA K B (A.set i o) (upd H a u):=by
 have hd:B.hd a=true:=S.hd;have g:bJ B (upd H a u)=bJ B H:=jb hd;refine⟨⟨by rw[g];exact e_.refl _,λb x n q=>?_,λ_ _ q=>q,λb j q n=>by rw[n]at q;cases q⟩,⟨λb q=>?_,λj x q=>?_,h.inj,λb j q=>by rw[ki];exact h.lt b j q⟩⟩
 .have L:b≠a:=λz=>by rw[z,e]at n;cases n
  rwa[aN L]
 .by_cases z:b=a
  .subst z;exact⟨u,bA⟩
  .rw[aN z];exact h.hb b q
 .rcases fB q with⟨rfl,_,rfl⟩|⟨Bg,q⟩
  .exact⟨a,e,S⟩
  .obtain⟨b,M,r⟩:=h.ob j x q;have L:b≠a:=λz=>by rw[z,e]at M;cases M;exact Bg rfl
   refine⟨b,M,?_⟩;cases x with
   |lst ts=>obtain⟨h0,vs,h1,h2⟩:=r;exact⟨h0,vs,by rwa[aN L],by rwa[g]⟩
   |bh bg=>obtain⟨h0,vs,h1,h2⟩:=r;exact⟨h0,vs,by rwa[aN L],by rwa[g]⟩
   |vh bg=>obtain⟨h0,vs,h1,h2,I⟩:=r;exact⟨h0,vs,by rwa[aN L],h2,by rwa[g]⟩
   |CN x=>obtain⟨h0,oe,h1,h2⟩:=r;exact⟨h0,oe,by rwa[aN L],h2⟩
   |ins c fs=>
    obtain⟨h0,dx,g0,h1,h2,I,h4,h5⟩:=r;have Wu:dx≠a:=λz=>by rw[z,e]at I;cases I
    exact⟨h0,dx,g0,by rwa[aN L],by rwa[aN Wu],I,h4,by rwa[g]⟩
mutual
def ua:Tr->Bool
 |.at _=>false
 |.tup ts=>fm ts
 |.lst ts=>fm ts
 |.bh bg=>E9 bg
 |.vh bg=>E_ bg
 |.ob _ fs=>Fb fs
 |_=>true
def fm:List Tr->Bool
 |[]=>true
 |t::ts=>ua t&&fm ts
def E9:List (Key×Tr)->Bool
 |[]=>true
 |p::r=>NB p&&E9 r
def NB:Key×Tr->Bool
 |(_,t)=>ua t
def E_:List (List Key×Tr)->Bool
 |[]=>true
 |p::r=>NC p&&E_ r
def NC:List Key×Tr->Bool
 |(_,t)=>ua t
def Fb:List (Str×Tr)->Bool
 |[]=>true
 |p::r=>ND p&&Fb r
def ND:Str×Tr->Bool
 |(_,t)=>ua t
end
theorem yZ:∀(bg:List (Key×Tr)),E9 bg=fm (bg.map (·.2))
 |[]=>rfl
 |(k,t)::r=>by rw[E9,NB,aX,fm,yZ r]
theorem y0:∀(bg:List (List Key×Tr)),E_ bg=fm (bg.map (·.2))
 |[]=>rfl
 |(k,t)::r=>by rw[E_,NC,aX,fm,y0 r]
theorem y1:∀(bg:List (Str×Tr)),Fb bg=fm (bg.map (·.2))
 |[]=>rfl
 |(k,t)::r=>by rw[Fb,ND,aX,fm,y1 r]
mutual
noncomputable def Hg:Tr->Bool
 |.bL=>true
 |.bl _=>true
 |.int _=>true
 |.str _=>true
 |.ty _=>true
 |.at _=>true
 |.tup ts=>jT ts
 |_=>false
noncomputable def jT:List Tr->Bool
 |[]=>true
 |t::ts=>Hg t&&jT ts
end
def aJ:Nat->Ab->Tr->Tr
 |0,_,t=>t
 |n+1,A,.at i=>match A[i]? with
  |some (.lst ts)=>.lst (ts.map (aJ n A))
  |some (.bh bg)=>.bh (bg.map λp=>(p.1,aJ n A p.2))
  |some (.vh bg)=>.vh (bg.map λp=>(p.1,aJ n A p.2))
  |some (.ins c fs)=>.ob c (fs.map λp=>(p.1,aJ n A p.2))
  |some (.CN x)=>.yN x
  |none=>.at i
 |_+1,_,t=>t
def fj.un (B:fj):fj:=⟨λb=>B.hd b&&(B.ix b).isNone,B.ix⟩
def NF{B:fj}:vi B.un B:=⟨λb e=>by
 have L:(B.hd b&&(B.ix b).isNone)=true:=e;rw[bC]at L;exact L.1,λ_ _ e=>e⟩
def iQ:e_ (bJ B H) (bJ B.un H):=xj NF
def BC(h:HB B H):HB B.un H:=λb e=>h b (NF.hd b e)
def BD{B:fj}(e:B.ix a=some i):(bJ B.un H).H a=H a:=gM (by show(B.hd a&&(B.ix a).isNone)=false;rw[e];exact wL _)
theorem mQ{f:Tr->Tr}(h:∀{v t},Rep K W v t->Rep K W' v (f t)):∀{vs:List V} {ts:List Tr},bp K W vs ts->bp K W' vs (ts.map f)
 |[],_,r=>by cases r;exact .nil
 |_::_,_,r=>by cases r with|cons L r=>exact .cons (h L) (mQ h r)
theorem il(g:HA K B A H):∀(n:Nat) {v:V} {t:Tr},Rep K (bJ B H) v t->Rep K (bJ B.un H) v (aJ n A t)
 |0,v,t,r=>by rw[aJ];exact r.same iQ
 |n+1,v,t,r=>by
  cases r with
  |@«at» a i h=>
   have e:B.ix a=some i:=h;obtain⟨o,q,L⟩:=g.ex e;rw[aJ,q];cases o with
   |lst ts=>
    obtain⟨h0,vs,h1,h2⟩:=L;exact .lst (by rwa[BD e]) (mQ (λr=>il g n r) h2)
   |bh bg=>
    obtain⟨h0,kvs,h1,h2⟩:=L;refine .bh (.inl (by rwa[BD e])) (by rw[h2.keys,cp];rfl) ?_
    have:=mQ (λr=>il g n r) h2.vals;rw[cp]at this⊢;exact this
   |CN x=>obtain⟨h0,oe,h1,h2⟩:=L;exact .yN (by rwa[BD e]) h2
   |vh bg=>
    obtain⟨h0,kvs,h1,h2,I⟩:=L;refine .vh (by rwa[BD e]) (by rw[h2,cp];rfl) ?_
    have:=mQ (λr=>il g n r) I;rw[cp]at this⊢;exact this
   |ins c fs=>
    obtain⟨h0,dx,g0,h1,h2,I,M,S⟩:=L;refine .ob (by rwa[BD e]) (by rw[M,cp];rfl) ?_
    have:=mQ (λr=>il g n r) S;rw[cp]at this⊢;exact this
  |bL=>exact .bL
  |bl b=>exact .bl b
  |int i=>exact .int i
  |str z h=>exact .str z h
  |ty m=>exact .ty m
  |vg h=>exact .vg (iQ.h.seq h)
  |tup h r=>exact .tup (iQ.h.tup h) (r.same iQ)
  |lst h r=>exact .lst (iQ.h _ _ h) (r.same iQ)
  |bh h e r=>exact .bh (h.same iQ.h) e (r.same iQ)
  |vh h e r=>exact .vh (iQ.h _ _ h) e (r.same iQ)
  |ob h e r=>exact .ob (iQ.h _ _ h) e (r.same iQ)
  |yN h c=>exact .yN (iQ.h _ _ h) c
def Pl(g:HA K B A H)(e:(bJ B.un H).H a=some x)(r:(∃vs,x=.tup vs)\/∃o u,x=.kQ o u):(bJ B H).H a=some x:=by
 have I:=bG a x e;cases q:B.hd a with
 |false=>rwa[gM q]
 |true=>
  cases z:B.ix a with
  |none=>
   have L:(if B.un.hd a=true then none else H a)=some x:=e;rw[show B.un.hd a=(B.hd a&&(B.ix a).isNone)from rfl,q,z]at L;cases L
  |some i=>
   obtain⟨o,_,M⟩:=g.ex z;obtain⟨y,b,S,n2⟩:=M.mem;rw[I]at b;cases b;rcases r with⟨vs,rfl⟩|⟨o,u,rfl⟩
   .exact absurd rfl (S vs)
   .exact absurd rfl (n2 o u)
structure mR(W W':Vw):Prop where
 h:∀a x,W.H a=some x->((∃vs,x=.tup vs)\/∃o u,x=.kQ o u)->W'.H a=some x
 x:∀a i,W.ix a=some i->W'.ix a=some i
theorem mR.un (b:HA K B A H):mR (bJ B.un H) (bJ B H):=⟨λa x e L=>Pl b e L,λ_ _ e=>e⟩
def mR.trans (a:mR W W1)(b:mR W1 W2):mR W W2:=⟨λc x e L=>b.h c x (a.h c x e L) L,λc i e=>b.x c i (a.x c i e)⟩
def mR.new {B:fj}{H:Hp}{p:Addr}{i:Nat}{x:HO}(r:B.ix p=none)(I:H p=some x)(M:∀vs,x≠ .tup vs)(S:∀o u,x≠ .kQ o u):mR (bJ B H) (bJ (pJ B p i) H):=⟨λa y e hy=>by
 have L:=bG a y e;have b:a≠p:=λz=>by
  rw[z,I]at L;cases L;rcases hy with⟨vs,z⟩|⟨o,u,z⟩
  .exact M vs z
  .exact S o u z
 have hB:B.hd a=false:=by
  cases q:B.hd a with
  |false=>rfl
  |true=>
   have g:(if B.hd a=true then none else H a)=some y:=e;rw[q,ay rfl]at g;cases g
 rw[gM (by rw[t_ b];exact hB)];exact L,λa j e=>by
 have b:a≠p:=λz=>by rw[z]at e;rw[show(bJ B H).ix p=B.ix p from rfl,r]at e;cases e
 show(pJ B p i).ix a=some j;rw[ik b];exact e⟩
def Fc(s:mR W W')(h:Rep K W v t):Hg t=true->Rep K W' v t:=by
 refine Rep.rec (motive_1:=λv t _=>Hg t=true->Rep K W' v t) (motive_2:=λvs ts _=>jT ts=true->bp K W' vs ts) ?_ ?_ ?_ ?_ ?_ ?_ ?_ ?_ ?_ ?_ ?_ ?_ ?_ ?_ ?_ h
 .exact λ_=>.bL
 .exact λb _=>.bl b
 .exact λi _=>.int i
 .exact λz h _=>.str z h
 .exact λn _=>.ty n
 .exact λh f=>nomatch f
 .intro a vs ts h _ L f;refine .tup ?_ (L f)
  rcases h with(h|⟨o,h⟩)|h
  .exact .inl (.inl (s.h _ _ h (.inl ⟨_,rfl⟩)))
  .exact .inl (.inr ⟨o,s.h _ _ h (.inr ⟨_,_,rfl⟩)⟩)
  .exact .inr h
 .exact λh _ _ f=>nomatch f
 .exact λh _ _ _ f=>nomatch f
 .exact λh _=>.at (s.x _ _ h)
 .exact λh _ _ _ f=>nomatch f
 .exact λh _ _ _ f=>nomatch f
 .exact λh c f=>nomatch f
 .exact λ_=>.nil
 .intro v t vs ts _ _ g q f;rw[jT,bC]at f;exact .cons (g f.1) (q f.2)
theorem ub(s:mR W W'):∀{vs:List V} {ts:List Tr},bp K W vs ts->jT ts=true->bp K W' vs ts
 |[],_,r,_=>by cases r;exact .nil
 |_::_,_,r,f=>by
  cases r with
  |cons h r=>
   rw[jT,bC]at f;exact .cons (Fc s h f.1) (ub s r f.2)
def uL(b:HA K B A H)(h:Rep K (bJ B.un H) v t)(f:Hg t=true):Rep K (bJ B H) v t:=Fc (.un b) h f
def Rep.Iz {W W':Vw}(s:aI W.H W'.H)(h:Rep K W v t):ua t=true->Rep K W' v t:=by
 refine Rep.rec (motive_1:=λv t _=>ua t=true->Rep K W' v t) (motive_2:=λvs ts _=>fm ts=true->bp K W' vs ts) ?_ ?_ ?_ ?_ ?_ ?_ ?_ ?_ ?_ ?_ ?_ ?_ ?_ ?_ ?_ h
 .exact λ_=>.bL
 .exact λb _=>.bl b
 .exact λi _=>.int i
 .exact λz h _=>.str z h
 .exact λn _=>.ty n
 .exact λh _=>.vg (s.seq h)
 .exact λh _ L f=>.tup (s.tup h) (L f)
 .exact λh _ L f=>.lst (s _ _ h) (L f)
 .intro a kvs bg h e _ L f;refine .bh (Rd.same s h) e (L ?_);rw[ua,yZ]at f;exact f
 .exact λh f=>nomatch f
 .intro a kvs bg h e _ L f;refine .vh (s _ _ h) e (L ?_);rw[ua,y0]at f;exact f
 .intro a c dx r fs h e _ L f;refine .ob (s _ _ h) e (L ?_);rw[ua,y1]at f;exact f
 .exact λh c _=>.yN (s _ _ h) c
 .exact λ_=>.nil
 .intro v t vs ts _ _ g q f;rw[fm,bC]at f;exact .cons (g f.1) (q f.2)
theorem bp.Iz {W W':Vw}(s:aI W.H W'.H):∀{vs:List V} {ts:List Tr},bp K W vs ts->fm ts=true->bp K W' vs ts
 |[],_,r,_=>by cases r;exact .nil
 |_::_,_,r,f=>by
  cases r with
  |cons h r=>
   rw[fm,bC]at f;exact .cons (h.Iz s f.1) (bp.Iz s r f.2)
def Te(A:Ab):Cell->Cell
 |.sh t=>.sh (aJ 5 A t)
 |c=>c
def eJ(A:Ab)(Y:bW):bW:=Y.map (Te A)
theorem cc.Pm (b:HA K B A H)(n:fY Y)(h:cc K B H Z Y):cc K B.un H Z (eJ A Y):=by
 have no:∀i ts,(eJ A Y)[i]? ≠some (Cell.ow ts):=λi ts e=>by
  unfold eJ at e;rw[b_]at e;cases q:Y[i]? with
  |none=>rw[q]at e;cases e
  |some c=>
   rw[q]at e;cases c with
   |no=>cases e
   |sh t=>cases e
   |ow us=>exact n i us q
 refine⟨by unfold eJ;rw[aY];exact h.len,λi t e=>?_,λi ts e=>absurd e (no i ts),λi j ts us D _ e=>absurd e (no i ts)⟩;unfold eJ at e;rw[b_]at e;cases q:Y[i]? with
 |none=>rw[q]at e;cases e
 |some c=>
  rw[q]at e;cases c with
  |no=>cases e
  |ow us=>exact absurd q (n i us)
  |sh u=>
   obtain⟨v,L,r⟩:=h.sh i u q;have g:aJ 5 A u=t:=by
    have I:=Option.some.inj e;exact(Cell.sh.inj I)
   rw[<-g];exact⟨v,L,il b 5 r⟩
def cc.grow (h:cc K B H Z Y)(n:fY Y)(g:Grows B H B' H'):cc K B' H' Z Y:=
 ⟨h.len,λi t e=>by obtain⟨v,L,r⟩:=h.sh i t e;exact⟨v,L,r.same g.lQ⟩,λi ts e=>absurd e (n i ts),λi j ts us D _ e=>absurd e (n i ts)⟩
theorem cN.get (x:cN P w H h a o):∃u,h.get? a=some u:=by
 cases o with
 |lst xs=>obtain⟨_,_,_,_,e⟩:=x;exact⟨_,e⟩
 |tup xs=>obtain⟨_,_,_,o,e,_⟩:=x;exact⟨o,e⟩
 |dK kvs=>obtain⟨_,_,_,_,o,_,_,e,_⟩:=x;exact⟨o,e⟩
 |dT kvs=>obtain⟨_,_,_,_,o,_,_,e,_⟩:=x;exact⟨o,e⟩
 |set S n=>obtain⟨o,_,_,_,e,_⟩:=x;exact⟨o,e⟩
 |ins C dx fs=>obtain⟨_,_,_,e,_⟩:=x;exact⟨_,e⟩
 |own y=>exact x
 |xd fs=>obtain⟨_,⟨_,_,_,e,_⟩,_⟩:=x;exact⟨_,e⟩
 |KH lo hi=>obtain⟨_,_,_,e⟩:=x;exact⟨_,e⟩
 |kQ L u=>obtain⟨e,_⟩:=x;exact⟨_,e⟩
 |M9 ps=>exact⟨_,(show h.get? a=some _ from x)⟩
 |met f y=>exact⟨_,(show h.get? a=some _ from x)⟩
 |ext b=>obtain⟨_,e,_⟩:=x;exact e
structure NG(h0:Heap)(H:Hp)(h:Heap)(a:Addr)(cls:Value):Prop where
 ob:∃oe vs a0,h.get? a=some oe/\oe.cls=cls/\oe.data=.fields vs/\vs[0]?=some a0/\
  (vs[1]?=some .none\/∃T oT ts,vs[1]?=some (.ref T)/\T≠a/\h0.get? T=none/\H T=none/\h.get? T=some oT/\oT.data=.fields ts/\ts[3]?=some .none)
 fr:H a=none
 nw:h0.get? a=none
def XS(X:Cx)(H:Hp)(cls e:Value)(s:Shared):Prop:=∃a U Z h0,e=.ref a/\Inv X U Z H s/\NG h0 H s.heap a cls/\(∀b,h0.get? b=none->X.g_.heap.get? b=none)/\(∀p∈X.pn,∃o,h0.get? p.1=some o)/\∀b,s.heap.get? b=none->h0.get? b=none
def EX(X:Cx):XK:=λcls _ H=>∀e s,XS X H cls e s->X.xe e s
def y2(P:Program)(w:World):K4:=λouter H s E e L=>∃a cls H',e=.ref a/\L.os=s.os/\AllBare L.gens/\Un (jB outer) [] H H' s.heap L.heap/\ri P w H' L.heap/\NG s.heap H' L.heap a cls/\E cls none H'
def NG.Tf {h0:Heap}(u:NG h1 H h a cls)(k:∀b,h1.get? b=none->h0.get? b=none):NG h0 H h a cls:=by
 obtain⟨⟨g,vs,a0,q,r,I,M,L⟩,f,n⟩:=u;refine⟨⟨g,vs,a0,q,r,I,M,?_⟩,f,k a n⟩;rcases L with L|⟨T,oT,ts,S,q2,q3,q4⟩
 .exact .inl L
 .exact .inr ⟨T,oT,ts,S,q2,k T q3,q4⟩
def Inv.BE (I:Inv X U Z H s)(g:X.ex=[]){b:Addr}(n:s.heap.get? b=none):X.g_.heap.get? b=none:=by
 cases q:X.g_.heap.get? b with
 |none=>rfl
 |some o=>
  obtain⟨L,e⟩:=I.base.there b o q (by rw[g];simp);rw[n]at e;cases e
def mT{X:Cx}(g:X.ex=[]):Passes (y2 X.prog X.w) X (EX X):=by
 intro U Z H s e s' I z;obtain⟨a,cls,H',rfl,os,bare,un,cL,Fd,q⟩:=z;have ce:CE X.stack X.prog X.w H s (λ_ H2=>H2=H') .none s':=⟨.bL,H',os,bare,un,cL,rfl,rfl⟩;obtain⟨v,H2,L,_,rfl⟩:=I.after ce;exact q (.ref a) s' ⟨a,U,Z,s.heap,rfl,L,Fd,λb n=>I.BE g n,λp r=>⟨_,(I.pin p (gA _ r)).1⟩,λb n=>by
  cases z:s.heap.get? b with
  |none=>rfl
  |some o=>obtain⟨M,e⟩:=un.there b o z (by simp);rw[n]at e;cases e⟩
theorem IA(x:XS (oN (y2 P w) P w K mg base N qual scope f cd A outer s H E) H' cls e s')(q:E cls none H'):(oN (y2 P w) P w K mg base N qual scope f cd A outer s H E).xe e s':=by
 obtain⟨a,U,Z,h00,rfl,I,Wx,old,_,_⟩:=x;have Fd:=Wx.Tf (h0:=s.heap) old;obtain⟨⟨oe,vs,a0,he,zB,hd,h0,h1⟩,fr,nw⟩:=Fd
 let env:=envOfC qual scope s.heap.objs.size f cd
 have Ys:(A.deeper env).frames=some (env::outer):=I.ok.frames;have hk:s'.heap.FunFrames base (env::outer):=I.stack;have Rq:∀L∈jB (env::outer),H' L=none/\∃o,s'.heap.get? L=some o/\∀ws,o.data≠ .fields ws:=λL M=>⟨I.vO L M,(hk.mem M).2⟩;have haf:a∉jB (env::outer):=λm=>by
  obtain⟨_,o,g,r⟩:=Rq a m;rw[he]at g;cases g;exact r vs hd
 have fin:∀(hs:List Addr) (h':Heap),(∀b∈hs,H' b=none/\(b∈jB (env::outer)\/s.heap.get? b=none))->(∀b∈jB (env::outer),b∈hs)->a∈hs->(∀b∈hs,b∈jB (env::outer)\/b=a\/H' b=none)->
   Heap.LeftW (PySem.W.hideAll s'.heap hs) (env::outer) a cls a0 s'.heap h'->y2 P w outer H s E (.ref a) {s' with heap:=h'}:=by
  intro hs h' hh Z4 Z5 _ ⟨k1,k2,k3,k4⟩;have kp:∀b o,b∉hs->s'.heap.get? b=some o->h'.get? b=some o:=λb o nb e=>k1 b o (qa _ e nb);have old:∀b o,s.heap.get? b=some o->b∉jB outer->b∉hs:=λb o e S m=>by
   rcases(hh b m).2 with z|z
   .unfold jB at z;rw[oX]at z;have z':b∈s.heap.objs.size::jB outer:=z;rcases a_.mp z' with z'|z'
    .exact absurd (bD e) (by rw[z'];exact fE _)
    .exact S z'
   .rw[e]at z;cases z
  have sl:∀b o,s'.heap.get? b=some o->b∈jB outer->∃sl,h'.get? b=some {o with slots:=sl}:=λb o e m=>by
   obtain⟨_,o2,r,S⟩:=Rq b (by unfold jB at m⊢;rw[oX];exact cw _ m);rw[e]at r;cases r;exact k4 b o e S
  have pins:Un (jB outer) [] H H' s.heap s'.heap:=I.base;refine⟨a,cls,H',rfl,I.os,I.bare,⟨λb o e n S nx=>?_,λb o e n m nx=>?_,pins.free,λb o e nx=>?_,pins.oM,pins.mG,pins.pq⟩,λb o e=>?_,⟨?_,fr,nw⟩,q⟩
  .exact kp b o (old b o e S) (pins.keep b o e n S nx)
  .obtain⟨s1,g⟩:=pins.slot b o e n m nx;obtain⟨s2,r⟩:=sl b _ g m;exact⟨s2,r⟩
  .obtain⟨o1,g⟩:=pins.there b o e nx;by_cases m:b∈jB outer
   .obtain⟨s2,r⟩:=sl b o1 g m;exact⟨_,r⟩
   .exact⟨o1,kp b o1 (old b o e m) g⟩
  .refine(I.cL b o e).sZ (λc u hc z=>kp c u (λm=>?_) z) (λ_ z=>z) λ_ _ z=>z;have n:=(hh c m).1;rcases hc with rfl|hc
   .rw[n]at e;cases e
   .rw[n]at hc;cases hc
  .obtain⟨Z6,Wy,T,oT,ts,q1,⟨q2,q3⟩,q4,q5,q6,q7,q8,q9,Wz⟩:=k3;refine⟨Z6,Wy,a0,q1,q2,q4,q3,.inr ⟨T,oT,ts,q5,q7,?_,?_,q8,q9,Wz⟩⟩
   .by_cases m:T∈hs
    .rcases(hh T m).2 with z|z
     .obtain⟨o3,e3,n3⟩:=(k2.mem z).2;rw[q8]at e3;cases e3;exact absurd q9 (n3 ts)
     .exact z
    .cases z:s.heap.get? T with
     |none=>rfl
     |some o=>
      obtain⟨o1,g⟩:=pins.there T o z (by simp);rw[qa _ g m]at q6;cases q6
   .by_cases m:T∈hs
    .exact(hh T m).1
    .cases z:H' T with
     |none=>rfl
     |some o=>
      obtain⟨u,g⟩:∃u,s'.heap.get? T=some u:=(I.cL T o z).get;rw[qa _ g m]at q6;cases q6
 have rB:∀e∈(env::outer),∀b,e.frame=some b->b∈jB (env::outer):=λe he b hb=>nj.mpr ⟨e,he,hb⟩;show wpAny (model P w) (A.deeper env) (leaving env (.ref a)) (λ_ OE=>y2 P w outer H s E (.ref a) OE) _ s';rcases h1 with h1|⟨T,oT,ts,h1,WA,WB,Ve,hT,Vf,h3⟩
 .let hs:=a::jB (env::outer)
  refine wpAny_leaving_firstW (base:=PySem.W.hideAll s'.heap hs) Ys (sx hk λe he b hb=>cw _ (rB e he b hb)) rfl he (λb o z=>qg _ z) (kX _ (cJ ..)) hd h1 h0 λh' M=>?_
  rw[zB]at M;refine fin hs h' (λb m=>?_) (λb m=>cw _ m) (cJ ..) (λb m=>?_) M
  .rcases a_.mp m with rfl|m
   .exact⟨fr,.inr nw⟩
   .exact⟨(Rq b m).1,.inl m⟩
  .rcases a_.mp m with rfl|m
   .exact .inr (.inl rfl)
   .exact .inl m
 .let hs:=a::T::jB (env::outer)
  refine wpAny_leaving_nextW (base:=PySem.W.hideAll s'.heap hs) (cls:=cls) (a0:=a0) Ys (sx hk λe he b hb=>cw _ (cw _ (rB e he b hb))) rfl
   ⟨oe,vs,T,oT,ts,he,⟨zB,h0⟩,hd,h1,kX _ (cw _ (cJ ..)),WA,hT,Vf,h3⟩ (λb o z=>qg _ z) (kX _ (cJ ..)) λh' M=>?_
  refine fin hs h' (λb m=>?_) (λb m=>cw _ (cw _ m)) (cJ ..) (λb m=>?_) M
  .rcases a_.mp m with rfl|m
   .exact⟨fr,.inr nw⟩
   .rcases a_.mp m with rfl|m
    .exact⟨Ve,.inr WB⟩
    .exact⟨(Rq b m).1,.inl m⟩
  .rcases a_.mp m with rfl|m
   .exact .inr (.inl rfl)
   .rcases a_.mp m with rfl|m
    .exact .inr (.inr Ve)
    .exact .inl m
inductive Rz(α:Type) where
 |bad|ok (a:α) (A:Ab)|exc (c:Tr) (A:Ab)
noncomputable def Rz.bind {α β:Type}(r:Rz α)(f:α->Ab->Rz β):Rz β:=match r with
 |.ok a A=>f a A
 |.exc c A=>.exc c A
 |.bad=>.bad
def ip(b:Tr->Ab->Prop){α:Type}(r:Rz α)(k:α->Ab->Prop):Prop:=match r with
 |.ok a A=>k a A
 |.exc c A=>b c A
 |.bad=>False
def ip.mono {r:Rz α}{k k':α->Ab->Prop}(h:ip b r k)(w:∀a A,k a A->k' a A):ip b r k':=by
 cases r with
 |ok a A=>exact w a A h
 |_=>exact h
def ip.imp {r:Rz α}{k:α->Ab->Prop}{b:Tr->Ab->Prop}(h:ip xc r k)(w:∀c A,xc c A->b c A):ip b r k:=by
 cases r with
 |ok a A=>exact h
 |exc c A=>exact w c A h
 |bad=>exact h
theorem ip.bind {β:Type}{r:Rz α}{f:α->Ab->Rz β}{k:β->Ab->Prop}(h:ip b (r.bind f) k):ip b r λa A=>ip b (f a A) k:=by
 cases r with
 |_=>exact h
def lx{α:Type}(r:Rs α)(A:Ab):Rz α:=match r with
 |.ok a=>.ok a A
 |_=>.bad
def pK{r:Rs α}{k:α->Ab->Prop}(q:ip b (lx r A) k):Fi X H r λa=>k a A:=by
 cases r with
 |ok a=>exact q
 |exc c=>exact fe q
 |bad=>exact q
def Tg(K:Frag):Tr->Value
 |.str x=>.ref (clsAt K x)
 |_=>.none
def XE(X:Cx)(B:fj)(H:Hp):Tr->Ab->Prop:=λc A=>∀B' H',Grows B H B' H'->HA X.K B' A H'->EX X (Tg X.K c) none H'
def XE.grow (hb:HB B H)(h:XE X B H c A)(g:Grows B H B' H'):XE X B' H' c A:=λB2 H2 g2 L=>h B2 H2 (g.trans hb g2) L
inductive tE(X:Cx)(F:bW->Ab->Rz Tr)(Z:St)(H:Hp)(Q:VK):Prop
 |mk (B:fj) (A:Ab) (Y:bW):HA X.K B A H->cc X.K B H Z Y->fY Y->(ip (XE X B H) (F Y A) λt A'=>∀v B' H',Grows B H B' H'->HA X.K B' A' H'->Rep X.K (bJ B' H') v t->Q v H')->tE X F Z H Q
structure ZE(X:Cx)(e:Expr)(F:bW->Ab->Rz Tr):Prop where
 h:PE X e (tE X F)
structure ZO(X:Cx)(e:Expr)(F:bW->Ab->Rz Tr):Prop where
 h:PE X e (tE X F)
inductive WC(X:Cx)(F:bW->Ab->Rz Bool)(Z:St)(H:Hp)(Q:Bool->Hp->Prop):Prop
 |mk (B:fj) (A:Ab) (Y:bW):HA X.K B A H->cc X.K B H Z Y->fY Y->(ip (XE X B H) (F Y A) λb A'=>∀B' H',Grows B H B' H'->HA X.K B' A' H'->Q b H')->WC X F Z H Q
structure ZT(X:Cx)(e:Expr)(F:bW->Ab->Rz Bool):Prop where
 h:PT X e (WC X F)
inductive Rr(X:Cx)(F:bW->Ab->Rz (List Tr))(Z:St)(H:Hp)(Q:List V->Hp->Prop):Prop
 |mk (B:fj) (A:Ab) (Y:bW):HA X.K B A H->cc X.K B H Z Y->fY Y->(ip (XE X B H) (F Y A) λts A'=>∀vs B' H',Grows B H B' H'->HA X.K B' A' H'->bp X.K (bJ B' H') vs ts->Q vs H')->Rr X F Z H Q
structure ZL(X:Cx)(e:List Expr)(F:bW->Ab->Rz (List Tr)):Prop where
 h:PA X e (Rr X F)
def Pn(H H':Hp)(p:Addr):Prop:=H p=none/\∀o u,H' p≠some (.kQ o u)
theorem Pn.lst {H:Hp}(h:H p=none)(r:Rep K (bJ B H') (.ref p) (.lst ts)):Pn H H' p:=by
 cases r with
 |lst e _=>exact⟨h,λo u z=>by rw[bG _ _ e]at z;cases z⟩
theorem Pn.upd {H:Hp}{x:HO}(h:H p=none)(b:∀o u,x≠ .kQ o u):Pn H (L2.upd H1 p x) p:=⟨h,λo u z=>by rw[bA]at z;cases z;exact b _ _ rfl⟩
inductive tF(X:Cx)(F:bW->Rs Tr)(Z:St)(H:Hp)(Q:VK):Prop
 |mk (B:fj) (Y:bW):HB B H->cc X.K B H Z Y->(Fi X H (F Y) λt=>∀v H',aI H H'->Rep X.K (bJ B H') v t->(∀p,v=.ref p->Pn H H' p)->Q v H')->tF X F Z H Q
structure NE(X:Cx)(e:Expr)(F:bW->Rs Tr):Prop where
 h:PE X e (tF X F)
def lU(r:Rs Tr)(A:Ab):Rz Tr:=match r with
 |.ok t=>if Hg t=true then .ok t A else .bad
 |_=>.bad
def uM(r:Rs Tr)(A:Ab):Rz Tr:=match r with
 |.ok (.lst ts)=>if jT ts=true then .ok (.at A.length) (A++[.lst ts])else .bad
 |.ok (.bh bg)=>if jT (bg.map (·.2))=true then .ok (.at A.length) (A++[.bh bg])else .bad
 |.ok (.vh bg)=>if jT (bg.map (·.2))=true then .ok (.at A.length) (A++[.vh bg])else .bad
 |_=>.bad
def BF{F:bW->Rs Tr}(q:tE X (λY A=>lx (F Y) A) Z H Q):tP X F Z H Q:=by
 obtain⟨B,A,Y,ha,r,_,q⟩:=q;exact⟨B,Y,ha.hb,r,(pK q).mono λt L v H' s b=>L v B H' (.of s) (ha.same s) b⟩
def av(h:QE X e F):ZE X e (λY A=>lx (F Y) A):=⟨h.h.weak λZ H Q q=>BF q⟩
def az(h:QE X e F):ZE X e (λY A=>lU (F (eJ A Y)) A):=⟨h.h.weak λZ H Q ⟨B,A,Y,ha,r,n,q⟩=>⟨B.un,eJ A Y,BC ha.hb,r.Pm ha n,by
  have q:ip (XE X B H) (lU (F (eJ A Y)) A) _:=q;cases e:F (eJ A Y)with
  |bad=>rw[e]at q;exact q
  |exc c=>rw[e]at q;exact fe q
  |ok t=>
   rw[e]at q;intro v H' s b;by_cases f:Hg t=true
   .have L:ip _ (if Hg t=true then Rz.ok t A else .bad) _:=q;rw[ay f]at L;exact L v B H' (.of s) (ha.same s) (uL (ha.same s) b f)
   .have L:ip _ (if Hg t=true then Rz.ok t A else .bad) _:=q;rw[aE f]at L;exact fe L⟩⟩
def ba(h:QT X e P):ZT X e (λY A=>lx (P (eJ A Y)) A):=⟨h.h.weak λZ H Q ⟨B,A,Y,ha,r,n,q⟩=>⟨B.un,eJ A Y,BC ha.hb,r.Pm ha n,(pK q).mono λt L H' s=>L B H' (.of s) (ha.same s)⟩⟩
def g7{c:Prop}[Decidable c]{r:Rz α}{k:α->Ab->Prop}(h:ip b (if c then r else .bad) k):c/\ip b r k:=by
 by_cases q:c
 .rw[ay q]at h;exact⟨q,h⟩
 .rw[aE q]at h;exact fe h
def rH{F:bW->Rs Tr}(q:tE X (λY A=>uM (F (eJ A Y)) A) Z H Q):tF X F Z H Q:=by
  obtain⟨B,A,Y,ha,r,n,q⟩:=q;refine⟨B.un,eJ A Y,BC ha.hb,r.Pm ha n,?_⟩;have q:ip (XE X B H) (uM (F (eJ A Y)) A) _:=q;cases e:F (eJ A Y)with
  |bad=>rw[e]at q;exact q
  |exc c=>rw[e]at q;exact fe q
  |ok t=>
   rw[e]at q;intro v H' s rv fr;have M:=ha.same s;cases rv with
   |@lst p vs ts h b=>
    have L:=(fr p rfl).1;obtain⟨f,I⟩:=g7 q;have h1:H' p=some (.lst vs):=bG _ _ h;obtain⟨g,h2⟩:=ha.push (o:=.lst ts) L s ⟨qB,vs,h1,ub ((mR.un M).trans (.new (ha.free L) h1 (λ_ z=>by cases z) λ_ _ z=>by cases z)) b f⟩;exact I _ _ H' g h2 (.at ij)
   |@bh p kvs bg h S b=>
    have L:=(fr p rfl).1;obtain⟨f,I⟩:=g7 q;have h1:H' p=some (.dK kvs):=by
     rcases h.same bG with h|⟨o,h⟩
     .exact h
     .exact((fr p rfl).2 _ _ h).elim
    obtain⟨g,h2⟩:=ha.push (o:=.bh bg) L s ⟨qB,kvs,h1,S,ub ((mR.un M).trans (.new (ha.free L) h1 (λ_ z=>by cases z) λ_ _ z=>by cases z)) b f⟩;exact I _ _ H' g h2 (.at ij)
   |@vh p kvs bg h S b=>
    have L:=(fr p rfl).1;obtain⟨f,I⟩:=g7 q;have h1:H' p=some (.dT kvs):=bG _ _ h;obtain⟨g,h2⟩:=ha.push (o:=.vh bg) L s ⟨qB,kvs,h1,S,ub ((mR.un M).trans (.new (ha.free L) h1 (λ_ z=>by cases z) λ_ _ z=>by cases z)) b f⟩;exact I _ _ H' g h2 (.at ij)
   |_=>exact fe q
def fx(h:NE X e F):ZE X e (λY A=>uM (F (eJ A Y)) A):=⟨h.h.weak λZ H Q q=>rH q⟩
def y3(X:Cx)(D:Ends)(B0:fj)(H0:Hp):Out->Ab->Prop
 |.nx Y,A=>∀L B' H',Grows B0 H0 B' H'->HA X.K B' A H'->cc X.K B' H' L Y->fY Y->D.nx L H'
 |.ret t,A=>∀v B' H',Grows B0 H0 B' H'->HA X.K B' A H'->Rep X.K (bJ B' H') v t->D.rt v H'
 |.bk Y,A=>∀L B' H',Grows B0 H0 B' H'->HA X.K B' A H'->cc X.K B' H' L Y->fY Y->D.bk L H'
 |.ct Y,A=>∀L B' H',Grows B0 H0 B' H'->HA X.K B' A H'->cc X.K B' H' L Y->fY Y->D.ct L H'
inductive tZ(X:Cx)(G:bW->Ab->Rz Out)(D:Ends)(Z:St)(H:Hp):Prop
 |mk (B0:fj) (H0:Hp) (B:fj) (A:Ab) (Y:bW):HB B0 H0->Grows B0 H0 B H->HA X.K B A H->cc X.K B H Z Y->fY Y->ip (XE X B0 H0) (G Y A) (y3 X D B0 H0)->tZ X G D Z H
structure ZS(X:Cx)(e:Stmt)(F:bW->Ab->Rz Out):Prop where
 h:PS X e (tZ X F)
structure ZB(X:Cx)(e:List Stmt)(F:bW->Ab->Rz Out):Prop where
 h:yb X e (tZ X F)
def zV(r:Rz Out)(G:bW->Ab->Rz Out):Rz Out:=r.bind λo A=>match o with
 |.nx Y=>G Y A
 |.ret t=>.ok (.ret t) A
 |.bk Y=>.ok (.bk Y) A
 |.ct Y=>.ok (.ct Y) A
def bS:ZB X [] (λY A=>.ok (.nx Y) A):=⟨Ey.weak λD Z H ⟨B0,H0,B,A,Y,hb,g,ha,r,n,q⟩=>q Z B H g ha r n⟩
def aC(b:ZS X st G)(I:ZB X M S):ZB X (st::M) (λY A=>zV (G Y A) S):=⟨(AR b.h I.h).weak λD Z H ⟨B0,H0,B,A,Y,hb,g,ha,r,n,q⟩=>⟨B0,H0,B,A,Y,hb,g,ha,r,n,q.bind.mono λo A1 L=>by
  cases o with
  |nx g6=>exact λdy B' H' g' lP r' n'=>⟨B0,H0,B',A1,g6,hb,g',lP,r',n',L⟩
  |ret t=>exact L
  |bk g6=>exact L
  |ct g6=>exact L⟩⟩
def aL(b:ZS X st G):ZB X [st] G:=⟨Ez b.h⟩
def pL{X:Cx}{F:bW->Ab->Rz Tr}{B0:fj}(hb:HB B0 H0)(g:Grows B0 H0 B H)(ha:HA X.K B A H)(r:cc X.K B H Z Y)(n:fY Y)(q:ip (XE X B0 H0) (F Y A) k){Q:VK}
  (b:∀t A' v B' H',k t A'->Grows B0 H0 B' H'->HA X.K B' A' H'->cc X.K B' H' Z Y->Rep X.K (bJ B' H') v t->Grows B H B' H'->Q v H'):tE X F Z H Q:=
 ⟨B,A,Y,ha,r,n,(q.imp λc A' x=>x.grow hb g).mono λt A' L v B' H' g' I M=>b t A' v B' H' L (g.trans hb g') I (r.grow n g') M g'⟩
def Po{X:Cx}{P:bW->Ab->Rz Bool}{B0:fj}(hb:HB B0 H0)(g:Grows B0 H0 B H)(ha:HA X.K B A H)(r:cc X.K B H Z Y)(n:fY Y)(q:ip (XE X B0 H0) (P Y A) k){Q:Bool->Hp->Prop}
  (b:∀t A' B' H',k t A'->Grows B0 H0 B' H'->HA X.K B' A' H'->cc X.K B' H' Z Y->Q t H'):WC X P Z H Q:=
 ⟨B,A,Y,ha,r,n,(q.imp λc A' x=>x.grow hb g).mono λt A' L B' H' g' I=>b t A' B' H' L (g.trans hb g') I (r.grow n g')⟩
def Gw(i:Nat)(r:Rz Tr)(Y:bW):Rz Out:=r.bind λt A=>.ok (.nx (Y.set i (.sh t))) A
def eO{i:Nat}(he:ZE X e F)(b:X.N.Nodup:=by assumption) (hi:X.N[i]?=some x:=by rfl) (I:Loc X.env.scope x:=by first|exact Or.inl rfl|exact Or.inr rfl) (hs:zJ e=false:=by rfl) (hf:CV X x:=by first|exact .inl rfl|exact .inr rfl|assumption):ZS X (.Assign [.Name x pos'] e pos) (λY A=>Gw i (F Y A) Y):=⟨(Hy b hi I he.h (xk hs) hf).weak λD Z H ⟨B0,H0,B,A,Y,hb,g,ha,r,n,q⟩=>pL hb g ha r n q.bind λt A' v B' H' L g' M S rv _=>L _ B' H' g' M (S.set i rv) (n.set i t)⟩
def Gx(r:Rz Tr):Rz Out:=r.bind λt A=>.ok (.ret t) A
def eB(he:ZE X e F):ZS X (.Return (some e) pos) (λY A=>Gx (F Y A)):=⟨(Hv he.h).weak λD Z H ⟨B0,H0,B,A,Y,hb,g,ha,r,n,q⟩=>pL hb g ha r n q.bind λt A' v B' H' L g' b M I _=>L v B' H' g' b I⟩
def Pp:ZS X (.Return none pos) (λ_ A=>.ok (.ret .bL) A):=⟨KR.weak λD Z H ⟨B0,H0,B,A,Y,hb,g,ha,r,n,q⟩=>q .bL B H g ha .bL⟩
def oy(r:Rz Tr)(Y:bW):Rz Out:=r.bind λ_ A=>.ok (.nx Y) A
def aS(he:ZE X e F)(hs:zJ e=false:=by rfl):ZS X (.Expr e pos) (λY A=>oy (F Y A) Y):=⟨(KQ he.h (xk hs)).weak λD Z H ⟨B0,H0,B,A,Y,hb,g,ha,r,n,q⟩=>pL hb g ha r n q.bind λt A' v B' H' L g' b I M _=>L _ B' H' g' b I n⟩
def WD(c:Rz Bool)(a b:Ab->Rz Out):Rz Out:=c.bind λk A=>if k then a A else b A
def dg(M:ZT X c P)(S:ZB X ys G)(h2:ZB X ns G'):ZS X (.If c ys ns pos) (λY A=>WD (P Y A) (G Y) (G' Y)):=⟨(Nb M.h S.h h2.h).weak λD Z H ⟨B0,H0,B,A,Y,hb,g,ha,r,n,q⟩=>Po hb g ha r n q.bind λk A' B' H' L g' b I=>by
  cases k with
  |true=>exact OY ⟨B0,H0,B',A',Y,hb,g',b,I,n,L⟩
  |false=>exact OX ⟨B0,H0,B',A',Y,hb,g',b,I,n,L⟩⟩
def Gy(T:ye)(r:Rz Tr)(Y:bW):Rz Out:=r.bind λt A=>(lx (T t Y) A).bind λL A=>.ok (.nx L) A
def NH{X:Cx}{B0:fj}(M:qR T)(hb:HB B0 H0)(g:Grows B0 H0 B H)(ha:HA X.K B A H)(r:cc X.K B H Z Y)(n:fY Y)(rv:Rep X.K (bJ B H) v t)(q:ip xc (lx (T t Y) A) k){Q:St->Hp->Prop}
  (S:∀b I H',k b A->Grows B0 H0 B H'->HA X.K B A H'->cc X.K B H' I b->fY b->aI H H'->Q I H'):tG X T v Z H Q:=by
 refine⟨B,Y,t,ha.hb,r,rv,?_⟩;cases e:T t Y with
 |ok b=>rw[e]at q;exact λI H' s L=>S b I H' q (g.trans hb (.of s)) (ha.same s) L (M t Y b n e) s
 |exc c=>rw[e]at q;exact fe q
 |bad=>rw[e]at q;exact q
def IB(b:QG X tg T)(I:qR T)(he:ZE X e F)(hs:swapsWithSole [tg] e ah.line X.env=pure false:=by rfl) (hw:swappedStores [tg] e X.env=pure none:=by rfl) (M:(assignEach [tg] X.env).map (·.2)=[assign tg X.env]:=by rfl):ZS X (.Assign [tg] e ah) (λY A=>Gy T (F Y A) Y):=⟨(Hx he.h b.h hs hw M).weak λD Z H ⟨B0,H0,B,A,Y,hb,g,ha,r,n,q⟩=>pL hb g ha r n q.bind λt A' v B' H' L g' S r' rv _=>
  NH I hb g' S r' n rv (ip.bind L) λgO AF H2 q2 g2 pM r2 n2 _=>q2 AF B' H2 g2 pM r2 n2⟩
def mU(T:ye)(G:bW->Ab->Rz Out):List Tr->bW->Ab->Rz Out
 |[],Y,A=>.ok (.nx Y) A
 |t::ts,Y,A=>(lx (T t Y) A).bind λb A=>(G b A).bind λo A=>match o with
  |.nx L=>mU T G ts L A
  |.ct L=>mU T G ts L A
  |.bk L=>.ok (.nx L) A
  |.ret t=>.ok (.ret t) A
def IC(T:ye)(G:bW->Ab->Rz Out)(l:Rz (List Tr))(Y:bW):Rz Out:=l.bind λts A=>mU T G ts Y A
theorem y4(hi:QI X tg c7 W)(hg:QG X tg T)(hT:qR T)(hb:ZB X body G)(hp:PassesOwn (model X.prog X.w) X.A X.env X.xe:=by first|exact PassesOwn.never|exact PassesOwn.leaving) (hc:X.calm=true:=by rfl) (hs:isSet c7=false:=by rfl):ZS X (.For tg c7 body [] pos) (λY A=>IC T G (lx (W Y) A) Y):=⟨have hi:=hi.h;(Oj hp hc hi hg.h hb.h (iM hs)).weak λD Z H ⟨B0,H0,B,A,Y,Hh,g,ha,r,n,q⟩=>⟨B,Y,ha.hb,r,(pK (ip.bind q)).mono λts qt J H1 s1 gt=>by
  have g1:Grows B0 H0 B H1:=g.trans Hh (.of s1);have WE:HB B H1:=ha.hb.same s1;refine⟨λi m dy H'=>m=ts.length - i/\i<=ts.length/\∃B' A' g6,Grows B H1 B' H'/\HA X.K B' A' H'/\cc X.K B' H' dy g6/\fY g6/\ip (XE X B0 H0) (mU T G (ts.drop i) g6 A') (y3 X D B0 H0),⟨_,rfl,hX _,B,A,Y,.refl,ha.same s1,r.same s1,n,qt⟩,?_⟩
  rintro i m dy H' ⟨rfl,hi,B',A',g6,g',lP,r',n',q'⟩
  by_cases jP:i<ts.length
  .rw[v_ jP]at q';refine .inr ⟨gt.go i B' H' jP g'.lQ lP.hb,λAF H2=>∃B2 A2 L,Grows B H1 B2 H2/\HA X.K B2 A2 H2/\cc X.K B2 H2 AF L/\fY L/\ip (XE X B0 H0) (mU T G (ts.drop (i+1)) L A2) (y3 X D B0 H0),
    λAF H2 x=>⟨ts.length - (i+1),by omega,rfl,jP,x⟩,λx H2 hx=>?_⟩
   obtain⟨s2,t,et,rt⟩:=gt.Hz i B' H' x H2 jP g'.lQ lP.hb hx;have Wh:ts[i]=t:=by rw[cI jP]at et;exact Option.some.inj et
   rw[Wh]at q';have g2:Grows B H1 B' H2:=g'.trans WE (.of s2);refine NH hT WE g2 (lP.same s2) (r'.same s2) n' rt (ip.bind q') λjq Ol H3 q1 g3 Hi r3 n3 _=>?_
   refine⟨B,H1,B',A',jq,WE,g3,Hi,r3,n3,((ip.bind q1).imp λc A'' x=>x.grow Hh g1).mono λo A4 qo=>?_⟩;cases o with
   |nx L=>exact λWG b H4 I M S n4=>⟨b,A4,L,I,M,S,n4,qo⟩
   |ct L=>exact λWG b H4 I M S n4=>⟨b,A4,L,I,M,S,n4,qo⟩
   |bk L=>exact λWG b H4 I M S n4=>qo WG b H4 (g1.trans Hh I) M S n4
   |ret t=>exact λv b H4 I M S=>qo v b H4 (g1.trans Hh I) M S
  .have e:i=ts.length:=by omega
   subst e;rw[wD]at q';exact .inl ⟨gt.stop B' H' g'.lQ,q' dy B' H' (g1.trans Hh g') lP r' n'⟩⟩⟩
def Fe(r:Rz Tr)(l:Ab->Rz (List Tr)):Rz (List Tr):=r.bind λx A=>(l A).bind λxs A=>.ok (x::xs) A
def ID:PA X [] (Rr X λ_ A=>.ok [] A):=wY.weak λZ H Q ⟨B,A,Y,ha,r,n,q⟩=>q [] B H .refl ha .nil
def Ff(b:PE X ag (tE X F))(g:PA X es (Rr X L))(hs:isStar ag=false:=by rfl):PA X (ag::es) (Rr X λY A=>Fe (F Y A) (L Y)):=
 (qm b g (bE _ _ hs)).weak λZ H Q ⟨B,A,Y,ha,r,n,q⟩=>⟨B,A,Y,ha,r,n,q.bind.mono λx I M v B1 H1 g1 S r1=>⟨B1,I,Y,S,r.grow n g1,n,((ip.bind M).imp λc A' x=>x.grow ha.hb g1).mono λxs A2 qs vs B2 H2 g2 pM r2=>qs _ B2 H2 (g1.trans ha.hb g2) pM (.cons (r1.same g2.lQ) r2)⟩⟩
def Yt(X:Cx)(r:V->List V->Hp->VK->Prop)(h:Nat->List Tr->Ab->Rz Tr):Prop:=
 ∀(B:fj) (A:Ab) (H:Hp) (a:Addr) (i:Nat) (xs:List V) (ts:List Tr) (Q:VK),HA X.K B A H->B.ix a=some i->bp X.K (bJ B H) xs ts->
  ip (XE X B H) (h i ts A) (λt A'=>∀v B' H',Grows B H B' H'->HA X.K B' A' H'->Rep X.K (bJ B' H') v t->Q v H')->r (.ref a) xs H Q
def Th(A:Ab)(i:Nat):Bool:=match A[i]? with
 |some (.lst _)=>true
 |_=>false
def Pt(b:HA K B A H)(e:B.ix a=some i)(h:Th A i=true):∃xs,H a=some (.lst xs):=by
 obtain⟨o,L,g⟩:=b.ex e;unfold Th at h;rw[L]at h;cases o with
 |lst ts=>obtain⟨_,vs,h1,_⟩:=g;exact⟨vs,h1⟩
 |_=>cases h
def Yu(h:Nat->List Tr->Ab->Rz Tr)(r:Rz Tr)(l:Ab->Rz (List Tr)):Rz Tr:=r.bind λt A=>match t with
 |.at i=>if Th A i=true then(l A).bind λts A=>h i ts A else .bad
 |_=>.bad
theorem xt{cV:Pos}{id:String}(slot:Slot "list" name id)(M:typeOf (.builtin id)=pure (.type "method_descriptor"))(hm:V0 X id r)(S:Yt X r h)(ho:ZO X o F)(ha:ZL X (ag::af) L)(pa:PlainAttrs "list":=by exact PySem.F.plainAttrs_list) (wZ:isCall o=false:=by rfl) (cU:bK (ag::af)=true:=by rfl) (hn:(ag::af).length<30:=by decide) (pB:(ah.endLine==cV.line)=true:=by rfl):ZE X (.Call (.Attribute o name ah) (ag::af) [] cV) (λY A=>Yu h (F Y A) (L Y)):=⟨have ha:=ha.h;(AY pa slot M hm ho.h ha (h8 wZ) (by rw[hZ cU,dA (show(ag::af).length+([]:List Keyword).length+(if([]:List Keyword).isEmpty then 0 else 1)<30 from hn)];rfl) pB (bE _ _ (aK cU).1) (cq (aK cU).2)).weak λZ H Q ⟨B,A,Y,ha,r,n,q⟩=>⟨B,A,Y,ha,r,n,q.bind.mono λt A1 b v B1 H1 g1 g rv=>by
  split at b
  .rename_i i;obtain⟨a,rfl,I⟩:=rv.ny;obtain⟨hl,q2⟩:=g7 b;obtain⟨xs,WH⟩:=Pt g I hl;exact⟨.inl ⟨rfl,xs,lj.of WH⟩,B1,A1,Y,g,r.grow n g1,n,((ip.bind q2).imp λc A' x=>x.grow ha.hb g1).mono λts A2 qs vs B2 H2 g2 pM rs=>S B2 A2 H2 a i vs ts Q pM (g2.lQ.x _ _ I) rs ((qs.imp λc A' x=>x.grow ha.hb (g1.trans ha.hb g2)).mono λt A3 b v B3 H3 g3 Hi r3=>b v B3 H3 ((g1.trans ha.hb g2).trans ha.hb g3) Hi r3)⟩
  .exact b.elim⟩⟩
def Pu(i:Nat):List Tr->Ab->Rz Tr
 |[t],A=>match A[i]? with
  |some (.lst ts)=>if ts.length<cX then .ok .bL (A.set i (.lst (ts++[t])))else .bad
  |_=>.bad
 |_,_=>.bad
def rJ:Yt X EF Pu:=by
 intro B A H a i xs ts Q L b rs q;unfold Pu at q;split at q
 .obtain⟨y,rfl,r1⟩:=fN rs;split at q
  .rename_i r;obtain⟨M,q⟩:=g7 q;obtain⟨hd,vs,h1,h2⟩:=L.get b r;obtain⟨g,I⟩:=L.write (o:=.lst (_++[_])) (u:=.lst (vs++[y])) b ⟨hd,_,bA,by rw[jb hd];exact h2.append (.cons r1 .nil)⟩;exact⟨a,vs,y,rfl,rfl,h1,by rwa[h2.length,<-iN],q .bL B _ g I .bL⟩
  .exact q.elim
 .exact q.elim
def mV(r:Rz Out):Rs Tr:=match r with
 |.ok (.nx _) _=>.ok .bL
 |.ok (.ret t) A=>if ua (aJ 3 A t)=true then .ok (aJ 3 A t)else .bad
 |_=>.bad
def xu:fY (startT n ts):=λi us e=>by
 rcases qv e with q|⟨u,_,q⟩<;>cases q
theorem yd.Z7 {fd:FuncData}{h:List Tr->Rs Tr}(Fn:yd K x qual st f fd)(S:gC N ps (bb st))(len:∀ts t,h ts=.ok t->ts.length=ps.length)
  (kr:∀(I:Value) (A:Around) (outer:List Env) (s:Shared) (H:Hp) (E:XK),cZ k (A.deeper (envOfC qual (bb st) s.heap.objs.size f I))->
   ∃G,yb (oN qX P w K mg base N qual (bb st) f I A outer s H E).Hd (fH st) (tZ (oN qX P w K mg base N qual (bb st) f I A outer s H E).Hd G)/\∀ts t,h ts=.ok t->fm ts=true/\mV (G (startT N.length ts) [])=.ok t):fL P w K mg base qX (k+1) f fd ps (spT K h):=by
 refine Fn.ok S (λvs H Q E q=>?_) (λI A outer s H vs Q E hr q=>?_)
 .obtain⟨B,ts,hb,r,t,e,_⟩:=q;rw[r.length];exact len ts t e
 .obtain⟨B,ts,hb,r,t,e,q⟩:=q;obtain⟨G,hG,hE⟩:=kr I A outer s H E hr;obtain⟨na,L⟩:=hE ts t e
  let B0:fj:=⟨B.hd,λ_=>none⟩
  have Hh:HB B0 H:=hb;have Z8:HA K B0 [] H:=⟨Hh,λi o z=>by simp at z,(λa b i z=>by cases(show(none:Option Nat)=some i from z)),(λa i z=>by cases(show(none:Option Nat)=some i from z))⟩;have r0:bp K (bJ B0 H) vs ts:=bp.Iz (W:=bJ B H) (W':=bJ B0 H) (λ_ _ e=>e) r na;have sm:∀{B':fj} {H':Hp},Grows B0 H B' H'->aI H H':=λg b o z=>g.kp b o rfl z;refine⟨_,hG,B0,H,B0,[],startT N.length ts,Hh,.refl,Z8,cc.start r0,xu,?_⟩;cases eo:G (startT N.length ts) []with
  |ok o A1=>
   rw[eo]at L;cases o with
   |nx Y=>cases L;exact λdy B' H' g ha r' n'=>q .bL H' (sm g) .bL
   |ret u=>
    have M:(if ua (aJ 3 A1 u)=true then Rs.ok (aJ 3 A1 u)else .bad)=.ok t:=L;by_cases z:ua (aJ 3 A1 u)=true
    .rw[ay z]at M;cases M;intro v B' H' g ha r';refine q v H' (sm g) (Rep.Iz (λb o z=>?_) (il ha 3 r') z);have z1:=bG b o z;cases hB:B.hd b with
     |false=>rwa[gM hB]
     |true=>
      have h2:B'.hd b=true:=g.hd b rfl hB;have h3:B'.ix b=none:=by
       cases h4:B'.ix b with
       |none=>rfl
       |some i=>have h5:=g.nw b i h4 rfl;obtain⟨o2,h6⟩:=hb b hB;rw[h5]at h6;cases h6
      have z2:(if B'.un.hd b=true then none else H' b)=some o:=z;rw[show B'.un.hd b=(B'.hd b&&(B'.ix b).isNone)from rfl,h2,h3]at z2;cases z2
    .rw[aE z]at M;cases M
   |_=>cases L
  |_=>rw[eo]at L;cases L
def vH(n m:Nat)(G:bW->Ab->Rz Out)(ts:List Tr):Rs Tr:=if ts.length=n/\fm ts=true then mV (G (startT m ts) [])else .bad
def IE(h:vH n m G ts=.ok t):ts.length=n:=by
 unfold vH at h;split at h
 .rename_i z;exact z.1
 .cases h
def LY(h:vH n m G ts=.ok t):fm ts=true/\mV (G (startT m ts) [])=.ok t:=by
 unfold vH at h;split at h
 .rename_i z;exact⟨z.2,h⟩
 .cases h
def xw(h:QA X es L):NE X (.List es pos) (λY=>Bl (L Y)):=⟨(HJ h.h).weak λZ H Q ⟨B,Y,hb,r,q⟩=>⟨B,Y,hb,r,q.bind.mono λts b vs H1 s1 I=>by
  by_cases M:ts.length<=cX
  .rw[ay M]at b;refine⟨by rwa[I.length,<-iN],λp g=>b (.ref p) _ (s1.Bc (s1.free g)) (.lst ((hb.same s1).new g) (I.same (bx (aI.upd g)))) λS e=>by cases e;exact .upd (s1.free g) (λ_ _ z=>by cases z)⟩
  .rw[aE M]at b;exact b.elim⟩⟩
def kA:NE X (.Dict [] [] pos) (λ_=>.ok (.bh [])):=⟨HU.weak λZ H Q ⟨B,Y,hb,r,q⟩ p L=>q (.ref p) _ (aI.upd L) (.bh (.inl (hb.new L)) rfl .nil) λb e=>by cases e;exact .upd L (λ_ _ z=>by cases z)⟩
def y6{W:bW->Rs (List Tr)}(M:qR T)(q:tF X (λY=>yR ix T A F (W Y) Y) Z H Q):Rn (tI X W) ix (Nw X.K T) (Nv X.K A) (Nu X.K F) Z H Q:=by
 obtain⟨B,Y,hb,r,q⟩:=q;refine⟨B,Y,hb,r,q.bind.mono λts L J H1 s1 gt D b=>?_⟩;by_cases g:ts.length<=cX
 .rw[ay g]at L;exact vR M (vQ ix Y) (hb.same s1) gt g ((r.same s1).comp ix (ky b)) b (Fi.bind L) λys H' k S I=>k _ H' (s1.trans S) I λp e=>by cases e;exact .lst (s1.free b) I
 .rw[aE g]at L;exact L.elim
def Pw(b:ji X N' ix scope)(hi:QI X tg c7 W)(g:Bm X scope N' tg elt ifs T A F)(r:qR T)(I:X.calm=true:=by rfl) (hs:isSet c7=false:=by rfl):NE X (.ListComp elt [⟨tg,c7,ifs,0⟩] scope pos) (λY=>yR ix T A F (W Y) Y):=⟨(Ib b I hi.h g.to.Rp (iM hs)).weak λZ H Q q=>y6 r q⟩
def LZ{i:Nat}(b:ji X N' ix scope)(hit:QI X tg c7 W)(I:Bm X scope N' tg elt ifs T A F)(M:qR T)(S:X.N.Nodup:=by assumption) (hc:X.calm=true:=by rfl) (hi:X.N[i]?=some x:=by rfl) (hx:Loc X.env.scope x:=by first|exact Or.inl rfl|exact Or.inr rfl) (O1:swapsWith (.ListComp elt [⟨tg,c7,ifs,0⟩] scope pos) (some (.Name x px)) ah.line X.env=pure true:=by rfl) (hs:isSet c7=false:=by rfl) (hf:CV X x:=by first|exact .inl rfl|exact .inr rfl|assumption):ZS X (.Assign [.Name x px] (.ListComp elt [⟨tg,c7,ifs,0⟩] scope pos) ah) (λY A'=>Gw i (uM (yR ix T A F (W (eJ A' Y)) (eJ A' Y)) A') Y):=⟨(xi b hc S hi hx hit.h I.to.Rp O1 (iM hs) hf).weak λD Z H ⟨B0,H0,B,A',Y,hb,g,ha,r,n,q⟩=>y6 M (rH (F:=λY=>yR ix T A F (W Y) Y) (pL (F:=λY A'=>uM (yR ix T A F (W (eJ A' Y)) (eJ A' Y)) A') hb g ha r n q.bind λt A2 v B' H' L g' lP r' rv _=>L _ B' H' g' lP (r'.set i rv) (n.set i t)))⟩
inductive rF(X:Cx)(h:List Tr->Rs Tr)(xs:List V)(H:Hp)(Q:VK):Prop
 |mk (B:fj) (ts:List Tr):HB B H->bp X.K (bJ B H) xs ts->(Fi X H (h ts) λt=>∀v H',aI H H'->Rep X.K (bJ B H') v t->(∀p,v=.ref p->Pn H H' p)->Q v H')->rF X h xs H Q
def xx{e:Expr}(g:gY X (.type T) (rF X h))(hm:X.mg x=none)(I:QA X (e::af) L)(M:bootBuiltins x=some (.type T):=by rfl) (S:Gl X x:=by rfl) (hn:x≠"__name__":=by decide) (iH:Db x:=by decide) (cU:bK (e::af)=true:=by rfl):NE X (.Call (.Name x p) (e::af) [] pos) (λY=>gn h (L Y)):=⟨(qq g S hm M I.h hn iH (bE _ _ (aK cU).1) (cq (aK cU).2)).weak λZ H Q ⟨B,Y,hb,r,q⟩=>⟨B,Y,hb,r,q.bind.mono λts b vs H1 s1 r1=>⟨B,ts,hb.same s1,r1,(b.same s1).mono λt b v H2 s2 r2 fr=>b v H2 (s1.trans s2) r2 λp e=>⟨s1.free (fr p e).1,(fr p e).2⟩⟩⟩⟩
def L3:gY X (.type "list") (rF X Nx):=by
 intro U s Z H xs us Q I b ⟨B,ts,hb,r,q⟩;unfold Nx at q;split at q
 .obtain⟨x,e,r1⟩:=fN r;obtain⟨a,vs,rfl,h,rr⟩:=r1.eD;exact tH U s Z H _ us Q I b ⟨_,_,e,.inr h.up,λp L=>q _ _ (aI.upd L) (.zO hb L rr) λg e=>by cases e;exact .upd L (λ_ _ z=>by cases z)⟩
 .obtain⟨x,e,r1⟩:=fN r;obtain⟨a,vs,rfl,h,rr⟩:=r1.lst_inv;exact tH U s Z H _ us Q I b ⟨_,_,e,.inl (.of (dO h)),λp L=>q _ _ (aI.upd L) (.zO hb L rr) λg e=>by cases e;exact .upd L (λ_ _ z=>by cases z)⟩
 .exact q.elim
theorem Inv.frozen (I:Inv X U Z H s)(g:H a=some (.dK kvs))(r:s.heap.get? a=some o):Inv X U Z (upd H a (.kQ o (.dK kvs))) s:=by
 have ne:∀{b:Addr} {u:HO},H b=some u->u≠ .dK kvs->b≠a:=λ{b u} e d z=>by subst z;rw[g]at e;cases e;exact d rfl
 have nn:∀{b:Addr},H b=none->b≠a:=λ{b} e z=>by subst z;rw[g]at e;cases e
 refine⟨I.ok,I.os,I.bare,⟨I.base.keep,I.base.slot,λb L e n M=>?_,I.base.there,λb xs e=>?_,λb L u e=>?_,λb ps e=>?_⟩,I.loc,I.cell,?_,λx c e=>?_,λp S=>?_,λb u e=>?_,I.len⟩
 .have q:=I.base.free b L e n M;rwa[aN (nn q)]
 .have q:=I.base.oM b xs e;rwa[aN (ne q (λz=>by cases z))]
 .have q:=I.base.mG b L u e;rwa[aN (ne q (λz=>by cases z))]
 .obtain⟨m,q⟩:=I.base.pq b ps e;exact⟨m,by rwa[aN (ne q (λz=>by cases z))]⟩
 .rw[aN (nn I.free)];exact I.free
 .rw[aN (nn (I.gv x c e))];exact I.gv x c e
 .obtain⟨p1,p2,p3⟩:=I.pin p S;exact⟨p1,by rwa[aN (nn p2)],p3⟩
 .have ow:∀c d,H c=some (.own d)->upd H a (.kQ o (.dK kvs)) c=some (.own d):=λc d q=>by rwa[aN (ne q (λz=>by cases z))]
  have tu:∀c xs,H c=some (.tup xs)->upd H a (.kQ o (.dK kvs)) c=some (.tup xs):=λc d q=>by rwa[aN (ne q (λz=>by cases z))]
  by_cases z:b=a
  .subst z;rw[bA]at e;cases e;exact⟨r,(I.cL b _ g).sZ (λ_ _ _ q=>q) (λc q=>ow c b q) tu⟩
  .rw[aN z]at e;exact(I.cL b u e).sZ (λ_ _ _ q=>q) (λc q=>ow c b q) tu
theorem Inv.Px (I:Inv X U Z H s)(g:H a=some (.kQ o (.dK kvs)))(h0:∀r u,X.AN a≠some (.kQ r u)):Inv X U Z (upd H a (.dK kvs)) s:=by
 have ne:∀{b:Addr} {u:HO},H b=some u->u≠ .kQ o (.dK kvs)->b≠a:=λ{b u} e d z=>by subst z;rw[g]at e;cases e;exact d rfl
 have nn:∀{b:Addr},H b=none->b≠a:=λ{b} e z=>by subst z;rw[g]at e;cases e
 refine⟨I.ok,I.os,I.bare,⟨I.base.keep,I.base.slot,λb L e n M=>?_,I.base.there,λb xs e=>?_,λb L u e=>?_,λb ps e=>?_⟩,I.loc,I.cell,?_,λx c e=>?_,λp S=>?_,λb u e=>?_,I.len⟩
 .have q:=I.base.free b L e n M;rwa[aN (nn q)]
 .have q:=I.base.oM b xs e;rwa[aN (ne q (λz=>by cases z))]
 .have q:=I.base.mG b L u e;rwa[aN (λz=>by subst z;exact h0 _ _ e)]
 .obtain⟨m,q⟩:=I.base.pq b ps e;exact⟨m,by rwa[aN (ne q (λz=>by cases z))]⟩
 .rw[aN (nn I.free)];exact I.free
 .rw[aN (nn (I.gv x c e))];exact I.gv x c e
 .obtain⟨p1,p2,p3⟩:=I.pin p S;exact⟨p1,by rwa[aN (nn p2)],p3⟩
 .have ow:∀c d,H c=some (.own d)->upd H a (.dK kvs) c=some (.own d):=λc d q=>by rwa[aN (ne q (λz=>by cases z))]
  have tu:∀c xs,H c=some (.tup xs)->upd H a (.dK kvs) c=some (.tup xs):=λc d q=>by rwa[aN (ne q (λz=>by cases z))]
  by_cases z:b=a
  .subst z;rw[bA]at e;cases e;exact(I.cL b _ g).2.sZ (λ_ _ _ q=>q) (λc q=>ow c b q) tu
  .rw[aN z]at e;exact(I.cL b u e).sZ (λ_ _ _ q=>q) (λc q=>ow c b q) tu
structure y8(H H':Hp)(a:Addr)(u u':HO)(kvs:List (Key×V)):Prop where
 fr:H a=some u
 to:H'=upd H a u'
 ok:(u=.dK kvs/\∃o,u'=.kQ o (.dK kvs))\/(u'=.dK kvs/\∃o,u=.kQ o (.dK kvs))
def y8.uc (w:y8 H H' a u u' kvs)(e:H b=some x)(g:∀k,x≠ .dK k)(q:∀o k,x≠ .kQ o (.dK k)):H' b=some x:=by
 rw[w.to,aN ?_]
 .exact e
 .intro z;subst z;rw[w.fr]at e;cases e;rcases w.ok with⟨L,_⟩|⟨_,o,L⟩
  .exact g _ L
  .exact q _ _ L
def lV{H':Hp}(e:(bJ B H).H b=some x)(h:H b=some x->H' b=some x):(bJ B H').H b=some x:=by
 have L:(if B.hd b=true then none else H b)=some x:=e;show(if B.hd b=true then none else H' b)=some x;split at L
 .cases L
 .rename_i n;rw[aE n];exact h L
def y8.seq (w:y8 H H' a u u' kvs)(h:lj K (bJ B H).H b xs):lj K (bJ B H').H b xs:=by
 rcases h with(h|⟨o,h⟩)|h
 .exact .inl (.inl (lV h λe=>w.uc e (λ_ z=>by cases z) λ_ _ z=>by cases z))
 .exact .inl (.inr ⟨o,lV h λe=>w.uc e (λ_ z=>by cases z) λ_ _ z=>by cases z⟩)
 .exact .inr h
def y8.tup (w:y8 H H' a u u' kvs)(h:mf K (bJ B H).H b xs):mf K (bJ B H').H b xs:=by
 rcases h with(h|⟨o,h⟩)|h
 .exact .inl (.inl (lV h λe=>w.uc e (λ_ z=>by cases z) λ_ _ z=>by cases z))
 .exact .inl (.inr ⟨o,lV h λe=>w.uc e (λ_ z=>by cases z) λ_ _ z=>by cases z⟩)
 .exact .inr h
def y8.bh (w:y8 H H' a u u' kvs)(h:Rd (bJ B H).H b (.dK ks)):Rd (bJ B H').H b (.dK ks):=by
 by_cases z:b=a
 .subst z;have hb:B.hd b=false:=by
   cases q:B.hd b with
   |false=>rfl
   |true=>
    have n:(bJ B H).H b=none:=by show(if B.hd b=true then none else H b)=none;rw[ay q]
    rcases h with h|⟨o,h⟩<;>(rw[n]at h;cases h)
  have h':Rd H b (.dK ks):=by unfold Rd at h⊢;rw[gM hb]at h;exact h
  have g:ks=kvs:=by
   rcases h' with h|⟨o,h⟩<;>rw[w.fr]at h<;>rcases w.ok with⟨L,_⟩|⟨_,o',L⟩<;>rw[L]at h<;>cases h<;>rfl
  subst g;unfold Rd;rw[gM hb,w.to,bA];rcases w.ok with⟨_,o',L⟩|⟨L,_⟩
  .rw[L];exact .inr ⟨o',rfl⟩
  .rw[L];exact .inl rfl
 .have r:(bJ B H').H b=(bJ B H).H b:=by
   show(if B.hd b=true then none else H' b)=(if B.hd b=true then none else H b);rw[w.to,aN z]
  unfold Rd;rwa[r]
def y8.rep (w:y8 H H' a u u' kvs)(h:Rep K (bJ B H) v t):Rep K (bJ B H') v t:=by
 refine Rep.rec (motive_1:=λv t _=>Rep K (bJ B H') v t) (motive_2:=λvs ts _=>bp K (bJ B H') vs ts) ?_ ?_ ?_ ?_ ?_ ?_ ?_ ?_ ?_ ?_ ?_ ?_ ?_ ?_ ?_ h
 .exact .bL
 .exact λb=>.bl b
 .exact λi=>.int i
 .exact λz h=>.str z h
 .exact λn=>.ty n
 .exact λh=>.vg (w.seq h)
 .exact λh _ r=>.tup (w.tup h) r
 .exact λh _ r=>.lst (lV h λe=>w.uc e (λ_ z=>by cases z) λ_ _ z=>by cases z) r
 .exact λh e _ r=>.bh (w.bh h) e r
 .exact λh=>.at h
 .exact λh e _ r=>.vh (lV h λe=>w.uc e (λ_ z=>by cases z) λ_ _ z=>by cases z) e r
 .exact λh e _ r=>.ob (lV h λe=>w.uc e (λ_ z=>by cases z) λ_ _ z=>by cases z) e r
 .exact λh c=>.yN (lV h λe=>w.uc e (λ_ z=>by cases z) λ_ _ z=>by cases z) c
 .exact .nil
 .exact λ_ _ h r=>.cons h r
theorem y8.Ti (w:y8 H H' a u u' kvs):∀{vs:List V} {ts:List Tr},bp K (bJ B H) vs ts->bp K (bJ B H') vs ts
 |[],_,h=>by cases h;exact .nil
 |_::_,_,h=>by cases h with|cons h r=>exact .cons (w.rep h) (y8.Ti w r)
def y8.IF (w:y8 H H' a u u' kvs)(h:cc K B H Z Y):cc K B H' Z Y:=
 ⟨h.len,λi t e=>by obtain⟨v,L,r⟩:=h.sh i t e;exact⟨v,L,w.rep r⟩,
   λi ts e=>by obtain⟨D,ys,L,b,g,r⟩:=h.ow i ts e;exact⟨D,ys,L,b,w.uc g (λ_ z=>by cases z) (λ_ _ z=>by cases z),w.Ti r⟩,h.ap⟩
def y8.hb (w:y8 H H' a u u' kvs)(h:HB B H):HB B H':=λb e=>by
 obtain⟨o,q⟩:=h b e;by_cases z:b=a
 .subst z;rw[w.to];exact⟨_,bA⟩
 .exact⟨o,by rwa[w.to,aN z]⟩
def Gz(X:Cx)(B:fj)(H H':Hp):Prop:=aI H H'\/∃H1 a o kvs,aI H H1/\B.hd a=false/\H1 a=some (.dK kvs)/\H'=upd H1 a (.kQ o (.dK kvs))/\∀o u,X.AN a≠some (.kQ o u)
def kB(X:Cx)(H:Hp)(k:Hp->Prop):Prop:=k H\/∃a o kvs,H a=some (.kQ o (.dK kvs))/\(∀o u,X.AN a≠some (.kQ o u))/\k (upd H a (.dK kvs))
def kB.inv (q:kB X H k)(I:Inv X U Z H s):∃H',Inv X U Z H' s/\k H':=by
 rcases q with q|⟨a,o,kvs,e,h0,q⟩
 .exact⟨H,I,q⟩
 .exact⟨_,I.Px e h0,q⟩
def PE.Tj (h:PE X e t):PE X e (λZ H Q=>t Z H λv H'=>kB X H' (Q v)):=λU s Z H Q I q=>
 ej (h U s Z H _ I q) λu M ⟨v,H',L,r,z⟩=>by
  obtain⟨H2,b,g⟩:=z.inv L;exact⟨v,H2,b,r,g⟩
def Ends.Tj (X:Cx)(D:Ends):Ends:=⟨λZ H=>kB X H (D.nx Z),λv H=>kB X H (D.rt v),λZ H=>kB X H (D.bk Z),λZ H=>kB X H (D.ct Z)⟩
theorem PS.Tj (h:PS X st t):PS X st (λD Z H=>t (D.Tj X) Z H):=λU s Z H D I q=>
 ej (h U s Z H _ I q) λf M z=>by
  cases f with
  |next=>obtain⟨dy,H',L,z⟩:=z;obtain⟨H2,b,g⟩:=kB.inv z L;exact⟨dy,H2,b,g⟩
  |brk=>obtain⟨dy,H',L,z⟩:=z;obtain⟨H2,b,g⟩:=kB.inv z L;exact⟨dy,H2,b,g⟩
  |cont=>obtain⟨dy,H',L,z⟩:=z;obtain⟨H2,b,g⟩:=kB.inv z L;exact⟨dy,H2,b,g⟩
  |ret u=>obtain⟨v,dy,H',L,r,z⟩:=z;obtain⟨H2,b,g⟩:=kB.inv z L;exact⟨v,dy,H2,b,r,g⟩
theorem Gz.IF (h:Gz X B H H')(r:cc K B H Z Y):cc K B H' Z Y:=by
 rcases h with s|⟨H1,a,o,kvs,s,L,ha,rfl,h0⟩
 .exact r.same s
 .exact y8.IF (u:=.dK kvs) ⟨ha,rfl,.inl ⟨rfl,o,rfl⟩⟩ (r.same s)
theorem Gz.hb (h:Gz X B H H')(r:HB B H):HB B H':=by
 rcases h with s|⟨H1,a,o,kvs,s,L,ha,rfl,h0⟩
 .exact r.same s
 .exact y8.hb (u:=.dK kvs) ⟨ha,rfl,.inl ⟨rfl,o,rfl⟩⟩ (r.same s)
theorem Gz.free (h:Gz X B H H')(e:H' p=none):H p=none:=by
 rcases h with s|⟨H1,a,o,kvs,s,L,ha,rfl,h0⟩
 .exact s.free e
 .refine s.free ?_
  by_cases z:p=a
  .subst z;rw[bA]at e;cases e
  .rw[aN z]at e;exact e
def Gz.back (h:Gz X B H H')(g:gm C B H' B2 H2):∃I,gm C B H B2 I/\(∀{K:Frag} {M:fj} {v:V} {t:Tr},Rep K (bJ M H2) v t->Rep K (bJ M I) v t)/\(∀{K:Frag} {Z:St} {Y:bW},cc K B2 H2 Z Y->cc K B2 I Z Y)/\∀k:Hp->Prop,k I->kB X H2 k:=by
 rcases h with s|⟨H1,a,o,kvs,s,hv,ha,rfl,h0⟩
 .exact⟨H2,⟨λb o c e=>g.kp b o c (s _ _ e),(bx s).trans g.lQ,g.sub,g.hb⟩,λr=>r,λr=>r,λk q=>.inl q⟩
 .have e1:(bJ B (upd H1 a (.kQ o (.dK kvs)))).H a=some (.kQ o (.dK kvs)):=by rw[gM hv];exact bA
  have L:=g.lQ.h _ _ e1;have S:H2 a=some (.kQ o (.dK kvs)):=bG _ _ L;have w:y8 H2 (upd H2 a (.dK kvs)) a (.kQ o (.dK kvs)) (.dK kvs) kvs:=⟨S,rfl,.inr ⟨rfl,o,rfl⟩⟩;have Z9:B2.hd a=false:=by
   cases q:B2.hd a with
   |false=>rfl
   |true=>
    have n:(bJ B2 H2).H a=none:=by show(if B2.hd a=true then none else H2 a)=none;rw[ay q]
    rw[n]at L;cases L
  refine⟨upd H2 a (.dK kvs),⟨λb ob c e=>?_,⟨λb ob e=>?_,λb i e=>?_⟩,g.sub,w.hb g.hb⟩,λr=>w.rep r,λr=>w.IF r,λk q=>.inr ⟨a,o,kvs,S,h0,q⟩⟩
  .have q:=s _ _ e;by_cases z:b=a
   .subst z;rw[ha]at q;cases q;exact bA
   .rw[aN z];exact g.kp b ob c (by rw[aN z];exact q)
  .by_cases z:b=a
   .subst z;have q:=s _ _ (bG _ _ e);rw[ha]at q;cases q;rw[gM Z9];exact bA
   .have q:(bJ B (upd H1 a (.kQ o (.dK kvs)))).H b=some ob:=lV e λe=>by rw[aN z];exact s _ _ e
    exact lV (g.lQ.h _ _ q) λe=>by rw[aN z];exact e
  .exact g.lQ.x b i e
def Gz.NI (h:Gz X B H H')(hb:HB B H)(s2:aI H' H2):∃g,aI H g/\(∀{K:Frag} {q:fj} {v:V} {t:Tr},Rep K (bJ q H2) v t->Rep K (bJ q g) v t)/\∀k:Hp->Prop,k g->kB X H2 k:=by
 obtain⟨g,L,r,_,k⟩:=h.back (C:=B) (B2:=B) (H2:=H2) ⟨λb o _ e=>s2 _ _ e,bx s2,.refl,(h.hb hb).same s2⟩;exact⟨g,L.same,r,k⟩
def WI(a:Addr)(o:Obj)(kvs:List (Key×V)):It:=
 ⟨λi H=>H a=some (.kQ o (.dK kvs))/\i<kvs.length,λi H x H'=>H'=H/\∃k v,kvs[i]?=some (k,v)/\x=kV k,λi H=>H a=some (.kQ o (.dK kvs))/\kvs.length<=i⟩
def DE(r:KV kvs vs){k:Key}{v:V}(e:kvs[aa]?=some (k,v)):∃u,vs[aa]?=some (k,u):=by
 have L:Paired _ kvs vs:=r
 clear r
 induction L generalizing aa with
 |nil=>simp at e
 |cons h t b=>
  cases aa with
  |zero=>
   simp at e;subst e;rename_i q _ _;obtain⟨I,g⟩:=q;cases h.1;exact⟨g,rfl⟩
  |succ j=>exact b (by simpa using e)
def uN{kvs:List (α×V)}{vs:List (α×Value)}(r:KV kvs vs):kvs.length=vs.length:=by
 have L:Paired _ kvs vs:=r
 clear r
 induction L with
 |nil=>rfl
 |cons h t b=>rw[dq,dq,b]
theorem GA(a it:Addr)(o:Obj)(kvs:List (Key×V))(es:Array DictEntry)(ep:Nat)(hd:o.data=.dict es ep):Turn P w K tg (WI a o kvs) [it] it (λi h=>h.IsKeyIter it a i kvs.length ep) where
 mem:=by simp
 obj:=λi h st b hb=>by
  have e:b=it:=by simpa using hb
  subst e;obtain⟨o,e,c,d⟩:=st;exact⟨o,e,λv z=>by rw[d]at z;cases z⟩
 keep:=λi h h' st k=>by
  obtain⟨o,e,c⟩:=st;exact⟨o,k it (by simp) o e,c⟩
 item:=by
  intro X r hw M hc i U s Z H E I hf st ⟨S,hi⟩;subst r hw M;obtain⟨L,hz,hs,vs,rv,o',RY,Ob,h1,h2,g,h4⟩:=(show cN X.prog X.w H s.heap a (.kQ o (.dK kvs))from I.cL a _ S);rw[L]at h1;cases h1;rw[hd]at g;cases g;obtain⟨f0,f1,f2,f3,f4,f5⟩:=hf it (by simp);have q:=uN rv;have ex:kvs[i]?=some (kvs[i].1,kvs[i].2):=by simp[hi]
  obtain⟨u,hu⟩:=DE rv ex;rw[q]at st;refine wpAny_pyNext_dict_item (knd:=bQ X.prog X.w) st ⟨o,es,L,h2,hd,h4⟩ hu λkey h' hk zD sb=>?_
  have I1:Inv X U Z H {s with heap:=h'}:=I.turned (t':=s.toks) (λb o hb e=>(sb.2 b hb).trans e) f0 f1 f3 f4 f5;obtain⟨oi,e,c,d⟩:=id zD;refine⟨key,rfl,yD (s:={s with heap:=h'}) e c d (by decide) ⟨kV kvs[i].1,H,I1,?_,⟨rfl,_,_,ex,rfl⟩,by rwa[q],λb hb=>(hf b hb).1⟩⟩;rcases dE hk with⟨j,t,e1,e2⟩|⟨y,t,e1,e2⟩
  .rw[e1,e2];exact⟨t,rfl⟩
  .rw[e1,e2];exact⟨t,rfl⟩
 done:=by
  intro X r hw M hc i U s Z H E I hf st ⟨S,hi⟩;subst r hw M;obtain⟨L,hz,hs,vs,rv,o',RY,Ob,h1,h2,g,h4⟩:=(show cN X.prog X.w H s.heap a (.kQ o (.dK kvs))from I.cL a _ S);rw[L]at h1;cases h1;rw[hd]at g;cases g;obtain⟨f0,f1,f2,f3,f4,f5⟩:=hf it (by simp);have q:=uN rv;rw[q]at st;exact wpAny_pyNext_dict_end (knd:=bQ X.prog X.w) (I.ok.hd hc) st ⟨o,es,L,h2,hd,h4⟩ (List.getElem?_eq_none (by rwa[<-q])) λh' eb=>⟨rfl,I.turned (t':=s.toks) (λb o hb e=>eb b o hb e) f0 f1 f3 f4 f5⟩
 self:=λ_ _ _ _ _ st h=>wpAny_pyIter_keyiter st h
def y9:Key->Tr
 |.inl i=>.int i
 |.inr z=>.str z
def keyOk:Key->Bool
 |.inl _=>true
 |.inr z=>decide (z.length<=cy)
def y_(h:keyOk k=true):Rep K W (kV k) (y9 k):=by
 cases k with
 |inl i=>exact .int i
 |inr z=>exact .str z (fo h)
def BG(bg:List (Key×Tr)):Rs (List Tr):=if bg.all (λp=>keyOk p.1)=true then .ok (bg.map λp=>y9 p.1)else .bad
def Tn(r:Rs Tr):Rs (List Tr):=r.bind λt=>match t with
 |.bh bg=>BG bg
 |_=>.bad
inductive tJ(X:Cx)(W:bW->Rs (List Tr))(Z:St)(H:Hp)(R:It->Hp->Prop):Prop
 |mk (B:fj) (Y:bW):HB B H->cc X.K B H Z Y->(Fi X H (W Y) λts=>∀J H',Gz X B H H'->pE X.K B J H' ts->R J H')->tJ X W Z H R
structure QJ(X:Cx)(tg e:Expr)(F:bW->Rs (List Tr)):Prop where
 h:PI X tg e (tJ X F)
theorem DF(h:(bJ B H).H a=some (.kQ o (.dK kvs)))(e:kvs.map (·.1)=ch.map (·.1))(I:ch.all (λp=>keyOk p.1)=true):pE K B (WI a o kvs) H (ch.map λp=>y9 p.1):=by
 have g:kvs.length=ch.length:=by have q:=cR List.length e;rw[aY,aY]at q;exact q
 refine⟨λi B' H' hi s hb=>⟨bG _ _ (s.h _ _ h),by rw[aY]at hi;rwa[g]⟩,λi B' H' x Ls hi s hb ⟨M,k,v,S,ex⟩=>?_,λB' H' s=>⟨bG _ _ (s.h _ _ h),by rw[aY,g];exact aZ _⟩⟩;subst M ex;have L:(kvs.map (·.1))[i]?=some k:=by rw[b_,S];rfl
 rw[e,b_]at L;cases b:ch[i]? with
 |none=>rw[b]at L;cases L
 |some p=>
  rw[b]at L;have r:p.1=k:=Option.some.inj L;refine⟨aI.refl _,y9 k,by rw[b_,b,<-r];rfl,y_ ?_⟩;rw[<-r];exact fU.mp I p (eQ b)
theorem Fg(S:QE X l F):QJ X tg l (λY=>Tn (F Y)):=⟨by
 have S:=S.h;intro U s Z H R I ⟨B,Y,hb,r,q⟩;refine ej (S U s Z H (λx H1=>∃(a:Addr) (kvs:List (Key×V)) (bg:List (Key×Tr)),x=.ref a/\aI H H1/\Rd (bJ B H1).H a (.dK kvs)/\kvs.map (·.1)=bg.map (·.1)/\bg.all (λp=>keyOk p.1)=true/\∀J H',Gz X B H H'->pE X.K B J H' (bg.map λp=>y9 p.1)->R J H') I ⟨B,Y,hb,r,q.bind.mono λt qt v H1 s1 r1=>?_⟩) λv s1 ⟨x,H1,g,r1,a,kvs,bg,ex,sm,rd,ek,hk,k⟩=>?_
 .skip
  split at qt
  .obtain⟨a,kvs,e0,h,e,rr⟩:=r1.qw;obtain⟨z,q1⟩:=h_ qt;exact⟨a,kvs,_,e0,s1,h,e,z,q1⟩
  .exact qt.elim
 .subst ex;cases r1;have Yv:Rd H1 a (.dK kvs):=rd.same bG;have hv:B.hd a=false:=by
   cases z:B.hd a with
   |false=>rfl
   |true=>
    have n:(bJ B H1).H a=none:=by show(if B.hd a=true then none else H1 a)=none;rw[ay z]
    rcases rd with h|⟨o,h⟩<;>(rw[n]at h;cases h)
  obtain⟨hz,hs,vs,rv,o,es,ep,h1,h2,h3,h4⟩:=(show cN X.prog X.w H1 s1.heap a (.dK kvs)from Yv.ok g.cL);refine wpAny_pyIter_dict (knd:=bQ X.prog X.w) hs ⟨o,es,h1,h2,h3,h4⟩ ?_
  have fin:∀{H2:Hp},Inv X U Z H2 s1->H2 a=some (.kQ o (.dK kvs))->Gz X B H H2->U0 X U Z tg R (.ref s1.heap.objs.size) {s1 with heap:=s1.heap.push {cls:=.type "dict_keyiterator",data:=.fields #[.ref a,.int 0 0,.int vs.length 0,.int ep 0]}}:=λ{H2} I2 e2 tf=>
   ⟨s1.heap.objs.size,[s1.heap.objs.size],_,WI a o kvs,H2,rfl,I2.kept (t':=s1.toks) λb o e=>cu _ e,GA a _ o kvs es ep h3,⟨_,cQ _ rfl,rfl,by rw[uN rv];rfl⟩,λb hb=>by
    have e:b=s1.heap.objs.size:=by simpa using hb
    subst e;exact I2.CW (aZ _) (I2.cL.fresh (aZ _)),k _ H2 tf (DF (by rwa[gM hv]) ek hk)⟩
  rcases Yv with L|⟨M,L⟩
  .refine fin (g.frozen L h1) bA (.inr ⟨H1,a,o,kvs,sm,hv,L,rfl,λM u e0=>?_⟩);have q:=g.base.mG a M u e0;rw[L]at q;cases q
  .have eo:M=o:=by
    have q:=(show cN X.prog X.w H1 s1.heap a (.kQ M (.dK kvs))from g.cL a _ L).1;rw[h1]at q;cases q;rfl
   subst eo;exact fin g L (.inl sm)⟩
def GB{W:bW->Rs (List Tr)}(M:qR T)(q:tP X (λY=>yR ix T A F (W Y) Y) Z H Q):Rn (tJ X W) ix (Nw X.K T) (Nv X.K A) (Nu X.K F) Z H (λv H'=>kB X H' (Q v)):=by
 obtain⟨B,Y,hb,r,q⟩:=q;refine⟨B,Y,hb,r,q.bind.mono λts L J H1 b gt D I=>?_⟩;by_cases g:ts.length<=cX
 .rw[ay g]at L;exact vR M (vQ ix Y) (b.hb hb) gt g ((b.IF r).comp ix (ky I)) I (Fi.bind L) λys H' k S rp=>by
   obtain⟨Hu,su,ru,ku⟩:=b.NI hb S;exact ku _ (k _ Hu su (ru rp))
 .rw[aE g]at L;exact L.elim
def IG(b:ji X N' ix scope)(hi:QJ X tg c7 W)(g:Bm X scope N' tg elt ifs T A F)(r:qR T)(I:X.calm=true:=by rfl) (hs:isSet c7=false:=by rfl):QE X (.ListComp elt [⟨tg,c7,ifs,0⟩] scope pos) (λY=>yR ix T A F (W Y) Y):=⟨(Ib b I hi.h g.to.Rp (iM hs)).Tj.weak λZ H Q q=>GB r q⟩
noncomputable def BH(a b:Str):Bool:=!decide (b.cps.toList<a.cps.toList)
def vU:BH a b=true↔a.cps.toList<=b.cps.toList:=by
 unfold BH;rw[oZ,gz];exact Iff.rfl
theorem y'(g:BH a b=true)(q:BH b c=true):BH a c=true:=by
 rw[vU]at*;exact List.le_trans g q
theorem GC(a b:Str):(BH a b||BH b a)=true:=by
 rw[Bool.or_eq_true,vU,vU];exact List.le_total _ _
theorem IH(g:BH a b=true)(q:BH b a=true):a=b:=by
 rw[vU]at*;exact ext_toList (List.le_antisymm g q)
def kC(ss:List Str):List Str:=ss.mergeSort BH
def nD(ss:List Str):(kC ss).Perm ss:=List.mergeSort_perm ss _
def DG(ss:List Str):(kC ss).Pairwise (λa b=>BH a b=true):=List.pairwise_mergeSort (le:=BH) (λa b c L g=>y' L g) GC ss
theorem vp:∀(p:Str) (l:List Str),risingS p l=true->(p::l).Pairwise (λa b=>BH a b=true)
 |p,[],_=>List.pairwise_singleton _ _
 |p,x::r,h=>by
  have h':(!ltCps x.cps.toList p.cps.toList&&risingS x r)=true:=h;rw[bC,ltCps_eq]at h';have g:=vp x r h'.2;have q:BH p x=true:=h'.1;refine List.pairwise_cons.mpr ⟨λy L=>?_,g⟩;rcases a_.mp L with rfl|L
  .exact q
  .exact y' q (List.rel_of_pairwise_cons g L)
theorem BI:∀l:List Str,sortedS l=true->l.Pairwise (λa b=>BH a b=true)
 |[],_=>List.Pairwise.nil
 |x::r,h=>vp x r h
def BJ{a b:List Str}(g:a.Perm b)(q:a.Pairwise (λa b=>BH a b=true))(hb:b.Pairwise (λa b=>BH a b=true)):a=b:=
 g.eq_of_pairwise (λx y _ _ L r=>IH L r) q hb
def xy{b:List Str}(g:b.Perm ss)(hs:sortedS b=true):b=kC ss:=BJ (g.trans (nD ss).symm) (BI _ hs) (DG ss)
theorem uO:∀{vs:List Value} {ss:List Str},StrsAre vs ss->Vals (ss.map V.str) vs
 |_,_,.nil=>.nil
 |_,_,.cons y t r=>.cons ⟨t,rfl⟩ (uO r)
theorem uP:∀{ss:List Str} {vs:List Value},Vals (ss.map V.str) vs->StrsAre vs ss
 |[],_,.nil=>.nil
 |y::r,_,.cons L b=>by
  obtain⟨t,rfl⟩:=(show∃t,_=Value.str y t from L);exact .cons y t (uP b)
theorem zW:gY X (.builtin "sorted") (λxs H Q=>∃(a:Addr) (ss:List Str),xs=[.ref a]/\lj X.K H a (ss.map V.str)/\ss.length<64/\∀D,H D=none->Q (.ref D) (upd H D (.lst ((kC ss).map V.str)))):=by
 intro U s Z H xs us Q I r h;obtain⟨a,ss,rfl,ha,Py,q⟩:=h;obtain⟨u,rfl,g⟩:=vals1 r;cases(show u=Value.ref a from g);obtain⟨bM,rv,pl,_⟩:=I.list ha;have cU:=uP rv;have c6:bM.length=ss.length:=by have e:=rv.length;rw[aY]at e;exact e.symm
 refine sorted_strs pl.isList cU (by omega) λout II M S h3=>?_
 have e:=xy S h3;subst e;obtain⟨n,hg⟩:=sortedAll_at s.heap bM out;have L:s.heap.objs.size<=s.heap.objs.size+1:=sW _;have hf:H (s.heap.objs.size+1)=none:=I.cL.fresh L;have hz:((kC ss).map V.str).length<=sizeLine:=by
  rw[aY,(nD ss).length_eq,eW];omega
 exact⟨.ref (s.heap.objs.size+1),_,I.laid (t':=s.toks) (o:=.lst ((kC ss).map V.str)) (λb o e=>sortedAll_old e) L ⟨hz,out.toList,n,uO M,by rwa[sH]⟩,rfl,q _ hf⟩
def Inv.uQ {h':Heap}{ch:List Addr}{t':Nat}(I:Inv X U Z H s)(g:∀b∈ch,pw X U H b)(k:∀b o,b∉ch->s.heap.get? b=some o->h'.get? b=some o):Inv X U Z H {s with heap:=h',toks:=t'}:=by
 have r:∀b u,H b=some u->b∉ch:=λb u e m=>by rw[(g b m).1]at e;cases e
 refine I.step (g':=s.gens) (d':=s.drawn) (ch:=ch) (λb hb=>?_) (λb o _ _ L e _=>k b o L e) (λb o _ _ L e _=>⟨o.slots,k b o L e⟩) (λb o _ e n=>n) (λb o L e=>⟨o,k b o L e⟩) (λb xs e=>e) (λb o u e=>e) (λb ps e=>⟨#[],by rw[e];simp⟩) (λm hm=>?_) (λb u e=>?_) I.bare
 .obtain⟨_,M,_,S,x4,x5⟩:=g b hb;exact⟨S,M,x4,x5⟩
 .exact hm.at' λo e=>k _ o (λz=>(g _ z).2.1 rfl) e
 .refine(I.cL b u e).sZ (λc v L q=>k c v ?_ q) (λc q=>q) λc xs q=>q;rcases L with rfl|L
  .exact r c u e
  .exact r c _ L
def L4:Tr->Rs Tr
 |.str z=>.ok (.str z)
 |.int i=>if i.natAbs.log2<1920/\(Str.ofString (toString i)).length<=cy then .ok (.str (Str.ofString (toString i)))else .bad
 |_=>.bad
theorem dF(h:QE X v F):QE X (.FormattedValue v (-1) none pos) (λY=>(F Y).bind L4):=⟨by
 intro U s Z H Q I ⟨B,Y,hb,r,q⟩;refine FormattedValue_plain (ej (h.h U s Z H (λx H1=>∃t,Rep X.K (bJ B H1) x t/\aI H H1/\Fi X H (L4 t) λt=>∀v H',aI H H'->Rep X.K (bJ B H') v t->Q v H') I ⟨B,Y,hb,r,q.bind.mono λt S v H1 s1 r1=>⟨t,r1,s1,S⟩⟩) λu s1 ⟨x,H1,L,b,t,rt,g,k⟩=>?_);cases rt with
 |str z M=>
  obtain⟨tk,rfl⟩:=(show∃t,u=Value.str z t from b);exact formatField_str (λt' yf=>⟨.str z,H1,L.tok _,⟨_,rfl⟩,k _ H1 g (.str z M)⟩) (bI M ll)
 |int i=>
  obtain⟨tk,rfl⟩:=(show∃t,u=Value.int i t from b);obtain⟨⟨k1,k2⟩,k⟩:=h_ k;exact formatField_int_small k1 ⟨.str _,H1,(L.tok _).tok _,⟨_,rfl⟩,k _ H1 g (.str _ k2)⟩
 |_=>exact fe k⟩
def PJ(X:Cx)(es:List Expr)(J:bW->Str->Rs Tr):Prop:=∀(U:List (Addr×Obj)) (s:Shared) (Z:St) (H:Hp) (acc:Str) (Q:VK),Inv X U Z H s->tP X (λY=>J Y acc) Z H Q->wpAny (model X.prog X.w) X.A (joinParts acc (evalEach es X.env)) (EP X U Z Q) X.xe s
structure JQ(X:Cx)(es:List Expr)(J:bW->Str->Rs Tr):Prop where
 h:PJ X es J
def pN(acc:Str):Rs Tr:=if acc.length<=cy then .ok (.str acc)else .bad
def iq:JQ X [] λ_ acc=>pN acc:=⟨by
 intro U s Z H acc Q I ⟨B,Y,hb,r,q⟩;obtain⟨L,k⟩:=h_ q;exact joinParts_nil ⟨.str acc,H,I.tok _,⟨_,rfl⟩,k _ H (aI.refl H) (.str acc L)⟩ (bI L ll)⟩
def eP(r:Rs Tr)(J:Str->Rs Tr)(acc:Str):Rs Tr:=r.bind λt=>match t with
 |.str y=>if(acc++y).length<=cy then J (acc++y)else .bad
 |_=>.bad
theorem bO(h:QE X c7 F)(M:JQ X es J):JQ X (c7::es) λY acc=>eP (F Y) (J Y) acc:=⟨by
 intro U s Z H acc Q I ⟨B,Y,hb,r,q⟩;refine joinParts_cons (ej (h.h U s Z H (λx H1=>∃y,x=.str y/\(acc++y).length<=cy/\aI H H1/\Fi X H (J Y (acc++y)) λt=>∀v H',aI H H'->Rep X.K (bJ B H') v t->Q v H') I ⟨B,Y,hb,r,q.bind.mono λt L v H1 s1 S=>?_⟩) λu s1 ⟨x,H1,I1,rx,y,ex,b,g,k⟩=>?_)
 .cases S with
  |str y hy=>
   by_cases b:(acc++y).length<=cy
   .exact⟨y,rfl,b,s1,by have k:Fi X H (if(acc++y).length<=cy then J Y (acc++y)else .bad) _:=L;rw[ay b]at k;exact k⟩
   .have k:Fi X H (if(acc++y).length<=cy then J Y (acc++y)else .bad) _:=L;rw[aE b]at k;exact fe k
  |_=>exact fe L
 .subst ex;obtain⟨tk,rfl⟩:=(show∃t,u=Value.str y t from rx);exact⟨bI b ll,M.h U s1 Z H1 _ Q I1 ⟨B,Y,hb.same g,r.same g,(k.same g).mono λt L v H2 s2 r2=>L v H2 (g.trans s2) r2⟩⟩⟩
def L5(h:PJ X (c7::ag::af) J):PE X (.JoinedStr (c7::ag::af) pos) (tP X λY=>J Y Str.empty):=λU s Z H Q I q=>JoinedStr_many (h U s Z H Str.empty Q I q)
open PySem.Calls
theorem ud:∀{xs:List V} {bM:List Value},xs.length=bM.length->(∀(i:Nat) (x:V) (u:Value),xs[i]?=some x->bM[i]?=some u->RelV x u)->Vals xs bM
 |[],[],_,_=>.nil
 |[],_::_,h,_=>by cases h
 |_::_,[],h,_=>by cases h
 |x::xs,u::us,h,k=>.cons (k 0 x u rfl rfl) (ud (by simpa using h) λi y w L b=>k (i+1) y w (by simpa using L) (by simpa using b))
def uR(h:mF k v=true):RelV (kV k) v:=by
 rcases dE h with⟨j,t,L,b⟩|⟨y,t,L,b⟩
 .rw[L,b];exact⟨t,rfl⟩
 .rw[L,b];exact⟨t,rfl⟩
def GD(g:KV kvs vs)(hi:ItemsOf (λi v=>∃k x,vs[i]?=some (k,x)/\mF k v=true) acc vs.length):Vals (kvs.map λp=>kV p.1) acc.toList:=by
 refine ud (by have e:=hi.1;rw[aY,uN g,<-e,qd]) λi x u L q=>?_
 rw[sF]at q;obtain⟨k,y,r,I⟩:=hi.2 i u q;rw[b_]at L;cases b:kvs[i]? with
 |none=>rw[b]at L;cases L
 |some p=>
  rw[b]at L;cases L;obtain⟨z,M⟩:=DE g (k:=p.1) (v:=p.2) b;rw[M]at r;cases r;exact uR I
def zX{A:Around}{a:Addr}{R:List Value->Shared->Prop}(hh:A.handled=none)(hd:(a==sysModules)=false)(hm:s.heap.DictAt (bQ prog w) a vs ep)(hn:vs.length<=sizeLine)
  (h:∀(h':Heap) (tk:Nat) (acc:Array Value),ItemsOf (λi v=>∃k x,vs[i]?=some (k,x)/\mF k v=true) acc vs.length->(∀b o,s.heap.get? b=some o->h'.get? b=some o)->s.heap.objs.size<=h'.objs.size->R acc.toList {s with heap:=h',toks:=tk}):wpAny (model prog w) A (collect (.ref a)) R E s:=by
 have jP:a<s.heap.objs.size:=hm.lt_size;unfold collect;refine aM (wpAny_runValue (lh entry_proto_collect' ?_));rw[nh PySem.F.plain_proto_collect _];show wpAny _ A.in1 (newList []>>=λl=>again (.builtin "list.__iadd__" ⟨[l,.ref a],[]⟩)) _ _ s;refine aM (wpAny_newObj_type ?_);refine bo ⟨kn PySem.F.plain_list_iadd _,lh entry_list_iadd' ?_⟩;rw[nh PySem.F.plain_list_iadd _];have hL:(s.heap.push {cls:=.type "list",data:=.seq ([]:List Value).toArray}).get? s.heap.objs.size=some {cls:=.type "list",data:=.seq #[]}:=cQ _ rfl;show wpAny _ A.in1 (Builtin.List.listExtendWith (.ref s.heap.objs.size) (.ref a) (.ref s.heap.objs.size)) _ _ _;have key:=PySem.W.kdl_extend (prog:=prog) (A:=A) (s:={s with heap:=s.heap.push {cls:=.type "list",data:=.seq ([]:List Value).toArray}})
  (R:=λ(q:Result) (S:Shared)=>∃(h':Heap) (tk:Nat) (L:Array Value) (r:Nat),q=.ok (.ret (.ref s.heap.objs.size))/\S={s with heap:=h',toks:=tk}/\
   (∀b o,s.heap.get? b=some o->h'.get? b=some o)/\h'.get? s.heap.objs.size=some {cls:=.type "list",dict:=none,data:=.seq L r,slots:=#[]}/\ItemsOf (λi v=>∃k x,vs[i]?=some (k,x)/\mF k v=true) L vs.length)
  (PySem.W.kdl_dict (knd:=bQ prog w) (kvs:=vs) (ep:=ep) hd) hh (hm.push _) s.heap.objs.size (jh jP) (jh jP) (.ref s.heap.objs.size) 0 hL
  (λh' tk L r I g M=>⟨h',tk,L,r,rfl,rfl,λb o e=>I b o (cY (bD e)) (cu _ e),g,M⟩) hn
 refine d8 key (λfin S x=>?_) λe S x=>?_
 .cases fin with
  |done f=>
   obtain⟨h',tk,L,r,e,rfl,I,g,M⟩:=x;cases e;show wpAny _ A (load s.heap.objs.size>>=_) _ _ _;refine aM (wpAny_load g ?_);exact bo (h h' tk L M I (cG (bD g)))
  |again c₁=>
   refine⟨x.1,pf x.2 λq yj y=>?_⟩;obtain⟨h',tk,L,r,rfl,rfl,I,g,M⟩:=y;show wpAny _ A (load s.heap.objs.size>>=_) _ _ _;refine aM (wpAny_load g ?_);exact bo (h h' tk L M I (cG (bD g)))
 .obtain⟨_,_,_,_,e',_⟩:=x;cases e'
def BK{A:Around}{a:Addr}{ss:List Str}(hh:A.handled=none)(hd:(a==sysModules)=false)(hm:s.heap.DictAt (bQ prog w) a vs ep)(hv:vs.map (·.1)=ss.map Sum.inr)(Py:ss.length<64)
  (h:∀h' r D out n g,(∀b o,s.heap.get? b=some o->h'.get? b=some o)->s.heap.objs.size<=D->h'.get? D=some {cls:=.type "list",data:=.seq out n}->StrsAre out.toList g->g.Perm ss->sortedS g=true->
   ae (.ref D) {s with heap:=h',toks:=r}):wpAny (model prog w) A (call (.builtin "sorted") [.ref a]) ae E s:=by
 have hl:vs.length=ss.length:=by have q:=cR List.length hv;rw[aY,aY]at q;exact q
 have hz:vs.length<=sizeLine:=by rw[eW];omega
 refine call_function_entry kind_sorted plain_sorted entry_sorted (args_sorted1 _) ?_
 unfold Builtin.«sorted»;refine aM (m:=checkCount "sorted" 1 1 _) (bo ?_);refine aM (zX (A:=A.in1) hh hd hm hz λI r acc hi hk hle=>?_);have Yw:StrsAre acc.toList ss:=by
  refine uP (ud (by have e:=hi.1;rw[aY,<-hl,<-e,qd]) λi x u L e2=>?_);rw[sF]at e2;obtain⟨k,y,e3,e4⟩:=hi.2 i u e2;have M:(vs.map (·.1))[i]?=some k:=by rw[b_,e3];rfl
  rw[hv,b_]at M;rw[b_]at L;cases e6:ss[i]? with
  |none=>rw[e6]at L;cases L
  |some z=>rw[e6]at L M;cases L;cases M;exact uR e4
 have c6:acc.toList.length=ss.length:=by rw[qd,hi.1,hl]
 refine aM (wpAny_newList ?_ (by rw[c6,eW];omega));have S:(I.push (seqObj "list" acc.toList.toArray 0)).get? I.objs.size=some (seqObj "list" acc.toList.toArray 0):=cQ _ rfl;refine aM (jg (wpAny_call_entry slot_list_sort ⟨_,S,rfl⟩ entry_list_sort
  (list_sort_treeK strKind_oneLt S Yw.keysOf (λZ_ Z' d5 e=>keyKind_strs (by rwa[<-e])) (by rw[c6];omega) λzD a1 a2=>⟨_,rfl,?_⟩) (args_list_sort _)))
 refine bo ⟨_,rfl,?_⟩;obtain⟨g,q1,q2,q3⟩:=sorted_out_str Yw a1 a2;obtain⟨e,he⟩:=sortedHeap_at (out:=(arrOf zD).map (·.2)) S;refine h _ r I.objs.size ((arrOf zD).map (·.2)) e g (λb o q=>?_) hle he q1 q2 q3;have hb:=hk b o q;have jP:=bD hb;rw[sortedHeap_old (cY jP) (by rw[pd];exact wy jP)];exact cu _ hb
theorem DH{X:Cx}(b:X.calm=true):gY X (.type "list") (λxs H Q=>∃(a:Addr) (kvs:List (Key×V)),xs=[.ref a]/\Rd H a (.dK kvs)/\∀D,H D=none->Q (.ref D) (upd H D (.lst (kvs.map λp=>kV p.1)))):=by
 intro U s Z H xs us Q I r h;obtain⟨a,kvs,rfl,ha,q⟩:=h;obtain⟨u,rfl,L⟩:=vals1 r;cases(show u=Value.ref a from L);obtain⟨hz,hs,vs,rv,hm⟩:=(show cN X.prog X.w H s.heap a (.dK kvs)from ha.ok I.cL);obtain⟨ep,hm⟩:=hm.dictAt;have g:=uN rv;refine PySem.W.kdl_call (PySem.W.kdl_dict (knd:=bQ X.prog X.w) (kvs:=vs) (ep:=ep) hs) (I.ok.hd b) hm (by rwa[<-g]) λh' M S c' hk hD zY=>?_
 have hf:H s.heap.objs.size=none:=I.fresh;exact⟨.ref s.heap.objs.size,_,I.laid (t':=M) (o:=.lst (kvs.map λp=>kV p.1)) hk (aZ _) ⟨by rwa[aY],S.toList,c',GD rv zY,by rwa[sH]⟩,rfl,q _ hf⟩
theorem zZ{X:Cx}(M:X.calm=true):gY X (.builtin "sorted") (λxs H Q=>∃(a:Addr) (kvs:List (Key×V)) (ss:List Str),xs=[.ref a]/\Rd H a (.dK kvs)/\kvs.map (·.1)=ss.map Sum.inr/\ss.length<64/\∀D,H D=none->Q (.ref D) (upd H D (.lst ((kC ss).map V.str)))):=by
 intro U s Z H xs us Q I r h;obtain⟨a,kvs,ss,rfl,ha,L,S,q⟩:=h;obtain⟨u,rfl,ru⟩:=vals1 r;cases(show u=Value.ref a from ru);obtain⟨b,hs,vs,rv,hm⟩:=(show cN X.prog X.w H s.heap a (.dK kvs)from ha.ok I.cL);obtain⟨ep,hm⟩:=hm.dictAt;have hv:vs.map (·.1)=ss.map Sum.inr:=by
  rw[<-L];refine List.ext_getElem? λi=>?_
  rw[b_,b_];cases e:kvs[i]? with
  |none=>
   have h1:vs[i]?=none:=List.getElem?_eq_none_iff.mpr (by rw[<-uN rv];exact List.getElem?_eq_none_iff.mp e)
   rw[h1];rfl
  |some p=>
   obtain⟨z,e6⟩:=DE rv (k:=p.1) (v:=p.2) e;rw[e6];rfl
 refine BK (I.ok.hd M) hs hm hv S λh' tk D out n II L g hg cU hp hs=>?_
 have e:=xy hp hs;subst e;have hf:H D=none:=I.cL.fresh g;have b:((kC ss).map V.str).length<=sizeLine:=by
  rw[aY,(nD ss).length_eq,eW];omega
 exact⟨.ref D,_,I.laid (t':=tk) (o:=.lst ((kC ss).map V.str)) L g ⟨b,out.toList,n,uO cU,by rwa[sH]⟩,rfl,q _ hf⟩
noncomputable def BL:List Tr->Option (List Str)
 |[]=>some []
 |.str z::ts=>(BL ts).map λr=>z::r
 |_=>none
theorem za:∀{vs:List V} {ts:List Tr} {ss:List Str},bp K W vs ts->BL ts=some ss->vs=ss.map V.str/\∀z∈ss,z.length<=cy
 |[],[],ss,_,e=>by cases e;exact⟨rfl,λz h=>by cases h⟩
 |[],_::_,_,h,_=>by cases h
 |v::vs,ts,ss,h,e=>by
  cases h with
  |cons h r=>
   cases h with
   |str z g=>
    rename_i ts;have L:(BL ts).map (λr=>z::r)=some ss:=e;cases q:BL ts with
    |none=>rw[q]at L;cases L
    |some rs=>
     rw[q]at L;cases L;obtain⟨I,h2⟩:=za r q;exact⟨by rw[I];rfl,λy b=>by
      rcases a_.mp b with rfl|b
      .exact g
      .exact h2 y b⟩
   |_=>cases e
def vq:List (Key×Tr)->Option (List Str)
 |[]=>some []
 |(.inr z,_)::ts=>if z.length<=cy then(vq ts).map λr=>z::r else none
 |_=>none
theorem BM:∀{bg:List (Key×Tr)} {ss:List Str},vq bg=some ss->bg.map (·.1)=ss.map Sum.inr/\∀z∈ss,z.length<=cy
 |[],ss,e=>by cases e;exact⟨rfl,λz h=>by cases h⟩
 |(.inl _,_)::_,_,e=>by cases e
 |(.inr z,t)::ts,ss,e=>by
  have L:(if z.length<=cy then(vq ts).map λr=>z::r else none)=some ss:=e;by_cases b:z.length<=cy
  .rw[ay b]at L;cases q:vq ts with
   |none=>rw[q]at L;cases L
   |some rs=>
    rw[q]at L;cases L;obtain⟨h1,h2⟩:=BM q;exact⟨by rw[aX,aX,h1],λy g=>by
     rcases a_.mp g with rfl|g
     .exact b
     .exact h2 y g⟩
  .rw[aE b]at L;cases L
def BN(o:Option (List Str)):Rs Tr:=match o with
 |some ss=>if ss.length<64 then .ok (.lst ((kC ss).map .str))else .bad
 |none=>.bad
def z3:List Tr->Rs Tr
 |[.lst ts]=>BN (BL ts)
 |[.bh bg]=>BN (vq bg)
 |_=>.bad
def BO{ss:List Str}(h:∀z∈ss,z.length<=cy):bp K W ((kC ss).map V.str) ((kC ss).map Tr.str):=yO λz L=>h z ((nD ss).mem_iff.mp L)
def zb(q:Fi X H (BN o) k):∃ss,o=some ss/\ss.length<64/\k (.lst ((kC ss).map .str)):=by
 unfold BN at q;split at q
 .have f:=h_ q;exact⟨_,rfl,f.1,f.2⟩
 .exact q.elim
def IJ{X:Cx}(hc:X.calm=true):mL X (.builtin "sorted") z3:=by
 intro U s Z H xs us Q I S ⟨B,ts,hb,r,q⟩;unfold z3 at q;split at q
 .obtain⟨x,rfl,b⟩:=fN r;obtain⟨a,vs,rfl,h,rr⟩:=b.lst_inv;obtain⟨ss,g,M,k⟩:=zb q;obtain⟨rfl,hs⟩:=za rr g;exact zW U s Z H _ us Q I S ⟨_,ss,rfl,.of (dO h),M,λp L=>k _ _ (aI.upd L) (.zO hb L (BO hs))⟩
 .obtain⟨x,rfl,b⟩:=fN r;obtain⟨a,kvs,rfl,h,ek,rr⟩:=b.qw;obtain⟨ss,g,M,k⟩:=zb q;obtain⟨e2,hs⟩:=BM g;exact zZ hc U s Z H _ us Q I S ⟨_,_,ss,rfl,h.same bG,ek.trans e2,M,λp L=>k _ _ (aI.upd L) (.zO hb L (BO hs))⟩
 .exact q.elim
def DI:List Tr->Rs Tr
 |[.bh bg]=>(BG bg).bind λts=>.ok (.lst ts)
 |_=>.bad
theorem BP:∀{kvs:List (Key×V)} {bg:List (Key×Tr)},kvs.map (·.1)=bg.map (·.1)->bg.all (λp=>keyOk p.1)=true->bp K W (kvs.map λp=>kV p.1) (bg.map λp=>y9 p.1)
 |[],[],_,_=>.nil
 |[],_::_,e,_=>by cases e
 |_::_,[],e,_=>by cases e
 |(k1,v)::kvs,(k2,t)::bg,e,h=>by
  rw[aX,aX]at e;injection e with L b
  have g:k1=k2:=L;subst g;rw[i9,bC]at h;exact .cons (y_ h.1) (BP b h.2)
def L6{X:Cx}(b:X.calm=true):mL X (.type "list") DI:=by
 intro U s Z H xs us Q I g ⟨B,ts,hb,r,q⟩;unfold DI at q;split at q
 .obtain⟨x,rfl,M⟩:=fN r;obtain⟨a,kvs,rfl,h,S,rr⟩:=M.qw;have f:=h_ (Fi.bind q);exact DH b U s Z H _ us Q I g ⟨_,_,rfl,h.same bG,λp L=>f.2 _ _ (aI.upd L) (.zO hb L (BP S f.1))⟩
 .exact q.elim
def xA(ts:List Tr)(x:Tr):Rs Tr:=if rE x=true/\ts.all qY=true then(match ts.findIdx? (λy=>eqT y x)with|some j=>.ok (.int j)|none=>.bad)else .bad
def L7(ts:List Tr)(x:Tr):Rs Tr:=if rE x=true/\ts.all qY=true then .ok (.int (ts.countP λy=>eqT y x:Nat))else .bad
theorem Fh:∀{vs:List V} {ts:List Tr} {us:List Value},bp K W vs ts->ts.all qY=true->Vals vs us->us.map (eU x)=ts.map λy=>eqT y x
 |[],_,_,r,_,rv=>by cases r;cases rv;rfl
 |_::_,_,_,r,f,rv=>by
  cases r with
  |cons h r=>
   cases rv with
   |cons L rv=>
    rw[i9,bC]at f;rw[aX,aX,Dz h f.1 L,Fh r f.2 rv]
theorem Fj{ts:List Tr}(e:ai.map (eU x)=ts.map λy=>eqT y x)(h:ts.findIdx? (λy=>eqT y x)=some j):∃b:j<ai.length,eU x ai[j]=true/\∀m (hm:m<ai.length),m<j->eU x ai[m]=false:=by
 obtain⟨b,h1,h2⟩:=List.findIdx?_eq_some_iff_getElem.mp h;have L:ai.length=ts.length:=by have q:=cR List.length e;rw[aY,aY]at q;exact q
 have at_:∀(i:Nat) (h1:i<ai.length) (h2:i<ts.length),eU x ai[i]=eqT ts[i] x:=λi h1 h2=>by
  have q:=cR (λl:List Bool=>l[i]?) e;simp only[b_,cI h1,cI h2]at q;exact Option.some.inj q
 refine⟨by rwa[L],by rwa[at_ j _ b],λm hm g=>?_⟩;rw[at_ m hm (by rwa[<-L])];have q:=h2 m g;cases z:eqT ts[m] x with
 |false=>rfl
 |true=>exact absurd z q
def BQ(q:Fi X H (xA ts x) k):rE x=true/\ts.all qY=true/\∃j:Nat,ts.findIdx? (λy=>eqT y x)=some j/\k (.int j):=by
 unfold xA at q;by_cases z:rE x=true/\ts.all qY=true
 .rw[ay z]at q;cases e:ts.findIdx? (λy=>eqT y x)with
  |none=>rw[e]at q;exact fe q
  |some j=>rw[e]at q;exact⟨z.1,z.2,j,rfl,q⟩
 .rw[aE z]at q;exact fe q
def IK(q:Fi X H (L7 ts x) k):rE x=true/\ts.all qY=true/\k (.int (ts.countP λy=>eqT y x:Nat)):=by
 unfold L7 at q;by_cases z:rE x=true/\ts.all qY=true
 .rw[ay z]at q;exact⟨z.1,z.2,q⟩
 .rw[aE z]at q;exact fe q
def count_at{ts:List Tr}(e:ai.map (eU x)=ts.map λy=>eqT y x):ai.countP (eU x)=ts.countP λy=>eqT y x:=by
 have a:ai.countP (eU x)=(ai.map (eU x)).countP id:=by rw[List.countP_map];rfl
 have b:(ts.countP λy=>eqT y x)=(ts.map λy=>eqT y x).countP id:=by rw[List.countP_map];rfl
 rw[a,b,e]
def PB{X:Cx}{W:Vw}{sY:Addr->Option Nat}{Q:VK}(S:X.A.units+1<cLine)(I:Inv X U Z H s)(h:mf X.K H a vs)(r:bp X.K (⟨H,sY⟩:Vw) vs ts)(rx:Rep X.K (⟨H,sY⟩:Vw) v b)(ru:RelV v u)(q:Fi X H (xA ts b) k)(hk:∀j:Nat,k (.int j)->Q (.int j) H):
  wpAny (model X.prog X.w) X.A (call (.builtin "tuple.index") [.ref a,u]) (EP X U Z Q) X.xe s:=by
 obtain⟨p1,L,j,e,q⟩:=BQ q;obtain⟨bM,rv,pl,hz⟩:=I.tuple h
 .obtain⟨hj,h1,h2⟩:=Fj (Fh r L rv) e;obtain⟨⟨cls,dd,data,sl⟩,g,M,n,hd⟩:=(show s.heap.IsTuple a bM.toArray from pl);simp only at M hd;subst M hd;refine ko wb ⟨_,g,rfl⟩ PySem.F.entry_tuple_index (PySem.F.args_tuple_index_2 _ _) (SeqAt.yg a bM.toArray n dd sl u (eU b) j (by simpa using hj) (by simpa using h1) λm hm To=>by simpa using h2 m (by simpa using hm) To) ⟨g,λy hy=>pH I (A:=X.A.in1) S rx p1 ru r L rv y (by simpa using hy),?_⟩;exact⟨.int j,H,I.tok _,⟨_,rfl⟩,hk j q⟩
def PC{X:Cx}{sY:Addr->Option Nat}{Q:VK}(S:X.A.units+1<cLine)(I:Inv X U Z H s)(h:lj X.K H a vs)(r:bp X.K (⟨H,sY⟩:Vw) vs ts)(rx:Rep X.K (⟨H,sY⟩:Vw) v b)(ru:RelV v u)(q:Fi X H (xA ts b) k)(hk:∀j:Nat,k (.int j)->Q (.int j) H):
  wpAny (model X.prog X.w) X.A (call (.builtin "list.index") [.ref a,u]) (EP X U Z Q) X.xe s:=by
 obtain⟨p1,L,j,e,q⟩:=BQ q;obtain⟨bM,rv,pl,hz⟩:=I.list h
 .obtain⟨hj,h1,h2⟩:=Fj (Fh r L rv) e;have hs:(j:Int)<2 ^63 - 1:=by
   have:=rv.length;rw[eW]at hz;omega
  obtain⟨⟨cls,dd,data,sl⟩,n,g,M,Tp,hd⟩:=id pl;simp only at M hd Tp;have Tq:=hd;subst M;subst Tq;refine ko PySem.F.slot_list_index ⟨_,g,rfl⟩ PySem.F.entry_list_index (PySem.F.args_list_index_2 _ _) (SeqAt.list_indexAt a bM.toArray n dd sl u (eU b) j (by simpa using hj) hs (by simpa using h1) λm hm To=>by simpa using h2 m (by simpa using hm) To) ⟨g,λy hy=>pH I (A:=X.A.in1) S rx p1 ru r L rv y (by simpa using hy),?_⟩;exact⟨.int j,H,I.tok _,⟨_,rfl⟩,hk j q⟩
def PD{X:Cx}{sY:Addr->Option Nat}{Q:VK}(S:X.A.units+1<cLine)(I:Inv X U Z H s)(h:lj X.K H a vs)(r:bp X.K (⟨H,sY⟩:Vw) vs ts)(rx:Rep X.K (⟨H,sY⟩:Vw) v b)(ru:RelV v u)(q:Fi X H (L7 ts b) k)(hk:∀j:Nat,k (.int j)->Q (.int j) H):
  wpAny (model X.prog X.w) X.A (call (.builtin "list.count") [.ref a,u]) (EP X U Z Q) X.xe s:=by
 obtain⟨p1,L,q⟩:=IK q;obtain⟨bM,rv,pl,hz⟩:=I.list h;rw[<-count_at (Fh r L rv)]at q;obtain⟨⟨cls,dd,data,sl⟩,n,g,M,Tp,hd⟩:=id pl;simp only at M hd Tp;have Tq:=hd;subst M;subst Tq;refine ko PySem.F.slot_list_count ⟨_,g,rfl⟩ PySem.F.entry_list_count (PySem.F.args_list_count_2 _ _) (SeqAt.list_countAt a bM.toArray n dd sl u (eU b)) ⟨g,λy hy=>pH I (A:=X.A.in1) S rx p1 ru r L rv y (by simpa using hy),?_⟩;exact⟨.int (bM.countP (eU b):Nat),H,I.tok _,⟨_,rfl⟩,hk _ q⟩
def lmR(h:List Tr->Tr->Rs Tr)(r:Rs Tr)(a:Rs Tr):Rs Tr:=r.bind λt=>match t with
 |.lst ts=>a.bind λx=>h ts x
 |_=>.bad
inductive Vg(X:Cx)(h:List Tr->Tr->Rs Tr)(x:V)(xs:List V)(H:Hp)(Q:VK):Prop
 |mk (B:fj) (ts:List Tr) (y:V) (ty:Tr):HB B H->Rep X.K (bJ B H) x (.lst ts)->xs=[y]->Rep X.K (bJ B H) y ty->(Fi X H (h ts ty) λt=>∀v H',aI H H'->Rep X.K (bJ B H') v t->Q v H')->Vg X h x xs H Q
def PH{X:Cx}(b:X.A.units+1<cLine):Nj X "list.index" (Vg X xA):=by
 intro U s Z H x xs v us Q I L g ⟨B,ts,y,ty,hb,r,e,M,q⟩;subst e;obtain⟨u,rfl,S⟩:=vals1 g;cases r with
 |lst h rr=>
  cases L;exact PC (sY:=B.ix) b I (.of (dO h)) (rr.same eX) (M.same eX) S q λj z=>z _ H (aI.refl H) (.int _)
def PK{X:Cx}(b:X.A.units+1<cLine):Nj X "list.count" (Vg X L7):=by
 intro U s Z H x xs v us Q I L g ⟨B,ts,y,ty,hb,r,e,M,q⟩;subst e;obtain⟨u,rfl,S⟩:=vals1 g;cases r with
 |lst h rr=>
  cases L;exact PD (sY:=B.ix) b I (.of (dO h)) (rr.same eX) (M.same eX) S q λj z=>z _ H (aI.refl H) (.int _)
def Ts{cV:Pos}{id:String}(slot:Slot "list" name id)(M:typeOf (.builtin id)=pure (.type "method_descriptor"))(hm:Nj X id (Vg X h))(S:QE X o F)(he:QE X e G)(pa:PlainAttrs "list":=by exact PySem.F.plainAttrs_list) (wZ:isCall o=false:=by rfl) (cU:bK [e]=true:=by rfl) (pB:(ah.endLine==cV.line)=true:=by rfl):QE X (.Call (.Attribute o name ah) [e] [] cV) (λY=>lmR h (F Y) (G Y)):=⟨(AY pa slot M hm S.h (zM he.h ES (aK cU).1) (h8 wZ) (by rw[hZ cU];rfl) pB (bE _ _ (aK cU).1) (cq (aK cU).2)).weak λZ H Q ⟨B,Y,hb,r,q⟩=>⟨B,Y,hb,r,q.bind.mono λt b v H1 s1 r1=>by
  split at b
  .rename_i ts;obtain⟨a,vs,rfl,g,rr⟩:=r1.lst_inv;refine⟨.inl ⟨rfl,vs,.of (dO g)⟩,B,Y,hb.same s1,r.same s1,?_⟩;have L:=(Fi.bind b).same s1;refine Fi.mono (r:=Bk (G Y) (.ok [])) (k:=λzs=>∃x,zs=[x]/\Fi X H (h ts x) λt=>∀v H',aI H H'->Rep X.K (bJ B H') v t->Q v H') ?_ λzs ⟨x,ez,qx⟩ ws H2 s2 r2=>?_
   .cases I:G Y with
    |ok x=>rw[I]at L;exact⟨x,rfl,L⟩
    |_=>rw[I]at L;exact L
   .subst ez;obtain⟨y,rfl,ry⟩:=fN r2;exact⟨B,ts,_,x,hb.same (s1.trans s2),.lst ((bx s2).h _ _ g) (rr.same (bx s2)),rfl,ry,(qx.same (s1.trans s2)).mono λt k v H3 s3 r3=>k v H3 ((s1.trans s2).trans s3) r3⟩
  .exact b.elim⟩⟩
structure NJ(K:Frag)(mg:Str->Option Value)(x:Str)(ts:List Tr):Prop where
 g:SM K mg x (.tup ts)
 nd:∃a o,mg x=some (.ref a)/\K.lookup a=some o/\o.cls=.type "tuple"/\o.dict=none
inductive WJ(X:Cx)(x:V)(xs:List V)(H:Hp)(Q:VK):Prop
 |mk (B:fj) (ts:List Tr) (y:V) (ty:Tr):HB B H->Rep X.K (bJ B H) x (.tup ts)->xs=[y]->Rep X.K (bJ B H) y ty->(Fi X H (xA ts ty) λt=>∀v H',aI H H'->Rep X.K (bJ B H') v t->Q v H')->WJ X x xs H Q
def IL{X:Cx}(b:X.A.units+1<cLine):Nj X "tuple.index" (WJ X):=by
 intro U s Z H x xs v us Q I L g ⟨B,ts,y,ty,hb,r,e,M,q⟩;subst e;obtain⟨u,rfl,S⟩:=vals1 g;cases r with
 |tup h rr=>
  cases L;exact PB (W:=bJ B H) (sY:=B.ix) b I (aI.tup bG h) (rr.same eX) (M.same eX) S q λj z=>z _ H (aI.refl H) (.int _)
def Tt{G:bW->Rs Tr}{B:fj}(s1:aI H H1)(q:Fi X H (G Y) k):Fi X H1 (Bk (G Y) (.ok [])) λzs=>∃x,zs=[x]/\k x:=by
 have L:=Fi.same q s1;cases b:G Y with
 |ok x=>rw[b]at L;exact⟨x,rfl,L⟩
 |_=>rw[b]at L;exact L
def Tu{X:Cx}{cV:Pos}(I:X.A.units+1<cLine)(g:NJ X.K X.mg x ts)(he:QE X e G)(M:Gl X x:=by rfl) (hd:Db x:=by decide) (cU:bK [e]=true:=by rfl) (S:(ah.endLine==cV.line)=true:=by rfl):QE X (.Call (.Attribute (.Name x p) "index" ah) [e] [] cV) (λY=>(G Y).bind (xA ts)):=⟨by
 obtain⟨⟨v,u,hm,r,L⟩,a,ob,b,hk,hc,hn⟩:=g;rw[hm]at b;cases b;obtain⟨a',_,rfl,_⟩:=(L ⟨λ_=>none,λ_=>none⟩).eD;cases r;refine(AY PySem.F.plainAttrs_tuple wb PySem.F.type_tuple_index (IL I) (zC (v:=.ref a) M hm rfl hd) (zM he.h ES (aK cU).1) (h8 rfl) (by rw[hZ cU];rfl) S (bE _ _ (aK cU).1) (cq (aK cU).2)).weak λZ H Q ⟨B,Y,hb,r,q⟩=>?_
 refine⟨.inr (.inl ⟨rfl,ob,hk,hc,hn⟩),B,Y,hb,r,(Tt (B:=B) (aI.refl H) (Fi.bind q)).mono λzs ⟨x,ez,qx⟩ ws H2 s2 r2=>?_⟩;subst ez;obtain⟨y,rfl,ry⟩:=fN r2;exact⟨B,ts,_,x,hb.same s2,L _,rfl,ry,(Fi.same qx s2).mono λt k v H3 s3 r3=>k v H3 (s2.trans s3) r3⟩⟩
def NK{X:Cx}{cV:Pos}{x1}(hu:X.A.units+1<cLine)(M:QA X es L)(he:QE X e G)(cU:bK [e]=true:=by rfl) (pB:(ah.endLine==cV.line)=true:=by rfl):QE X (.Call (.Attribute (.Tuple es x1 WK) "index" ah) [e] [] cV) (λY=>(L Y).bind λts=>if ts.length<=cX then(G Y).bind (xA ts)else .bad):=⟨by
 have M:=M.h;have he:=he.h;intro U s Z H Q I ⟨B,Y,hb,r,q⟩;refine wpAny_Call_method_late (h8 rfl) (by rw[hZ cU];rfl) pB rfl (wpAny_Tuple_spliced (ej (M WK U s Z H _ I ⟨B,Y,hb,r,q.bind.mono λts g vs H1 s1 r1=>(⟨ts,g,s1,r1⟩:∃ts,Fi X H (if ts.length<=cX then(G Y).bind (xA ts)else .bad) _/\aI H H1/\bp X.K (bJ B H1) vs ts)⟩) λus s1 ⟨xs,H1,I1,rv,ts,g,sm,r1⟩=>?_));by_cases hz:ts.length<=cX
 .rw[ay hz]at g;have S:us.length<=sizeLine:=by rwa[<-rv.length,r1.length,<-iN]
  refine⟨S,?_⟩;have hf:H1 s1.heap.objs.size=none:=I1.cL.fresh (aZ _);have ho:=cQ s1.heap (o:={cls:=.type "tuple",data:=.seq us.toArray}) rfl;have I2:Inv X U Z (upd H1 s1.heap.objs.size (.tup xs)) {s1 with heap:=s1.heap.push {cls:=.type "tuple",data:=.seq us.toArray}}:=I1.laid (t':=s1.toks) (λb u e=>cu _ e) (aZ _) ⟨by rwa[rv.length],us,rv,⟨_,ho,rfl,_,rfl,rfl⟩⟩;have s2:aI H (upd H1 s1.heap.objs.size (.tup xs)):=sm.trans (aI.upd hf);have rt:Rep X.K (bJ B (upd H1 s1.heap.objs.size (.tup xs))) (.ref s1.heap.objs.size) (.tup ts):=.tup (.inl (.inl ((hb.same sm).new hf))) (r1.same (bx (aI.upd hf)));refine⟨"tuple","tuple.index",PySem.F.plainAttrs_tuple,wb,PySem.F.type_tuple_index,⟨_,ho,rfl⟩,λa ea=>by cases ea;exact⟨_,ho,rfl⟩,?_⟩;have hA:=(zM he ES (aK cU).1) cV U _ Z _ (λvs H3=>WJ X (.ref s1.heap.objs.size) vs H3 Q) I2 ⟨B,Y,hb.same s2,r.same s2,(Tt (B:=B) s2 (Fi.bind g)).mono λzs ⟨x,ez,qx⟩ ws H3 s3 r3=>by
   subst ez;obtain⟨y,rfl,ry⟩:=fN r3;exact⟨B,ts,_,x,hb.same (s2.trans s3),rt.same (bx s3),rfl,ry,(Fi.same qx (s2.trans s3)).mono λt k v H4 s4 r4=>k v H4 ((s2.trans s3).trans s4) r4⟩⟩
  rw[bE _ _ (aK cU).1]at hA⊢;refine oW (by show(false||(backTo cV (starEach [] X.env)).any (·.1))=false;rw[cq (es:=[]) rfl];rfl) (qf ?_);exact ej hA λus s4 ⟨vs,H4,I4,r4,q4⟩=>IL hu U s4 Z H4 (.ref s1.heap.objs.size) vs _ us Q I4 rfl r4 q4
 .rw[aE hz]at g;exact fe g⟩
noncomputable def L8:List Tr->Rs Tr
 |[.int i]=>.ok (.int i)
 |[.bl b]=>.ok (.int (if b then 1 else 0))
 |_=>.bad
def NL:mL X (.type "int") L8:=by
 intro U s Z H xs us Q I L ⟨B,ts,hb,r,q⟩;unfold L8 at q;split at q
 .obtain⟨x,e,r⟩:=fN r;exact yE U s Z H _ us Q I L (.inl ⟨_,by rw[e,r.int_inv],q _ H (aI.refl H) (.int _)⟩)
 .obtain⟨x,e,r⟩:=fN r;exact yE U s Z H _ us Q I L (.inr ⟨_,by rw[e,r.rD],q _ H (aI.refl H) (.int _)⟩)
 .exact q.elim
structure MethAt(K:Frag)(c m:Str)(st:Stmt)(ps:List Str)(f:Addr)(fd:FuncData):Prop where
 fn:∃qual,yd K m qual st f fd
 bd:Binds K fd ps []
 mt:Meth K (clsAt K c) m f
 cl:C9 K (clsAt K c)
def CO(fs:List (Str×Tr))(m:Str):Bool:=(fs.lookup m).isNone
theorem nE(f:Str):∀{g0:List (Str×V)} {fs:List (Str×Tr)},g0.map (·.1)=fs.map (·.1)->bp K W (g0.map (·.2)) (fs.map (·.2))->(fs.lookup f=none/\g0.lookup f=none)\/∃t v,fs.lookup f=some t/\g0.lookup f=some v/\Rep K W v t
 |[],[],_,_=>.inl ⟨rfl,rfl⟩
 |[],_::_,e,_=>by cases e
 |_::_,[],e,_=>by cases e
 |(k1,v1)::g0,(k2,L)::fs,e,r=>by
  rw[aX,aX]at e;injection e with b g
  have q:k1=k2:=b;subst q;cases r with
  |cons I r=>
   by_cases z:f=k1
   .subst z;exact .inr ⟨L,v1,by rw[cn,aU],by rw[cn,aU],I⟩
   .rw[cn,jM z,cn,jM z];exact nE f g r
def zc(c m:Str)(h:List Tr->Rs Tr)(r:Rs Tr)(l:Rs (List Tr)):Rs Tr:=r.bind λt=>match t with
 |.ob x fs=>if x=c/\CO fs m=true then l.bind λts=>h (.ob x fs::ts)else .bad
 |_=>.bad
def z4{g0:List (Str×V)}{fs:List (Str×Tr)}(e:g0.map (·.1)=fs.map (·.1))(r:bp K W (g0.map (·.2)) (fs.map (·.2)))(hm:CO fs m=true):g0.lookup m=none:=by
 rcases nE m e r with⟨_,z⟩|⟨t,v,z,_⟩
 .exact z
 .unfold CO at hm;rw[z]at hm;cases hm
def PL{X:Cx}{e:Expr}(D:MethAt X.K c m st ps f aj)(G:fL X.prog X.w X.K X.mg X.base qX k f aj ps (spT X.K h))(S:cZ k X.A)(ho:QE X o F)(ha:QA X (e::af) L)(cU:bK (e::af)=true:=by rfl) (ht:eval (.Call (.Attribute o m b9) (e::af) [] pos) X.env=yh pos b9 o m (e::af) X.env pl:=by rfl):QE X (.Call (.Attribute o m b9) (e::af) [] pos) (λY=>zc c m h (F Y) (L Y)):=⟨(ED (pl:=pl) ho.h D.cl D.mt G S D.bd .nil HZ ha.h (cU:=bE _ _ (aK cU).1) (yF:=cq (aK cU).2) ht).weak λZ H Q ⟨B,Y,hb,r,q⟩=>⟨B,Y,hb,r,q.bind.mono λt g v H1 s1 rv=>by
  split at g
  .rename_i x fs;obtain⟨a,dx,g0,rfl,I,M,rr⟩:=rv.zL;split at g
   .rename_i z;obtain⟨rfl,hm⟩:=z;refine⟨a,dx,g0,rfl,dO I,z4 M rr hm,B,Y,hb.same s1,r.same s1,(Fi.same (Fi.bind g) s1).mono λts b vs H2 s2 r2=>?_⟩;cases e:h (.ob x fs::ts)with
    |ok t=>
     rw[e]at b;exact⟨B,.ob x fs::ts,hb.same (s1.trans s2),by
      show bp X.K (bJ B H2) (V.ref a::(vs++[])) (.ob x fs::ts);rw[hW];exact .cons ((Rep.ob I M rr).same (bx s2)) r2,t,e,λv H3 s3 r3=>b v H3 ((s1.trans s2).trans s3) r3⟩
    |exc c=>rw[e]at b;exact(b _ (aI.refl _)).elim
    |bad=>rw[e]at b;exact fe b
   .exact g.elim
  .exact g.elim⟩⟩
def L9{X:Cx}(D:MethAt X.K c m st ps f aj)(G:fL X.prog X.w X.K X.mg X.base qX k f aj ps (spT X.K h))(M:cZ k X.A)(S:QE X o F)(ht:eval (.Call (.Attribute o m b9) [] [] pos) X.env=yh pos b9 o m [] X.env pl:=by rfl):QE X (.Call (.Attribute o m b9) [] [] pos) (λY=>zc c m h (F Y) (.ok [])):=⟨(AU (pl:=pl) S.h D.cl D.mt G M D.bd .nil HZ ht).weak λZ H Q ⟨B,Y,hb,r,q⟩=>⟨B,Y,hb,r,q.bind.mono λt b v H1 s1 rv=>by
  split at b
  .rename_i x fs;obtain⟨a,dx,g0,rfl,g,I,rr⟩:=rv.zL;split at b
   .rename_i z;have L:Fi X H (h [.ob x fs]) _:=b;obtain⟨rfl,hm⟩:=z;refine⟨a,dx,g0,rfl,dO g,z4 I rr hm,?_⟩;cases e:h [.ob x fs]with
    |ok t=>
     rw[e]at L;exact⟨B,[.ob x fs],hb.same s1,.cons (.ob g I rr) .nil,t,e,λv H3 s3 r3=>L v H3 (s1.trans s3) r3⟩
    |exc c=>rw[e]at L;exact(L _ (aI.refl _)).elim
    |bad=>rw[e]at L;exact fe L
   .exact b.elim
  .exact b.elim⟩⟩
def Yy(K:Frag)(B:fj)(H:Hp)(E:XK):Tr->Ab->Prop:=λc A=>∀B' H',Grows B H B' H'->HA K B' A H'->E (Tg K c) none H'
inductive AG(K:Frag)(f:List Tr->Ab->Rz Tr)(vs:List V)(H:Hp)(Q:VK)(E:XK):Prop
 |mk (B:fj) (A:Ab) (ts:List Tr):HA K B A H->bp K (bJ B H) vs ts->(ip (Yy K B H E) (f ts A) λt A'=>∀v B' H',Grows B H B' H'->HA K B' A' H'->Rep K (bJ B' H') v t->Q v H')->AG K f vs H Q E
def bf(r:Rz Out):Rz Tr:=r.bind λo A=>match o with
 |.nx _=>.ok .bL A
 |.ret t=>.ok t A
 |_=>.bad
def yd.okS {fd:FuncData}{h:List Tr->Ab->Rz Tr}(M:yd K x qual st f fd)(S:gC N ps (bb st))(len:∀ts A,h ts A≠ .bad->ts.length=ps.length)
  (kr:∀(fM:Value) (A:Around) (outer:List Env) (s:Shared) (H:Hp) (E:XK),cZ k (A.deeper (envOfC qual (bb st) s.heap.objs.size f fM))->
   ∃G,yb (oN (y2 P w) P w K mg base N qual (bb st) f fM A outer s H E) (fH st) (tZ (oN (y2 P w) P w K mg base N qual (bb st) f fM A outer s H E) G)/\∀ts A,h ts A≠ .bad->h ts A=bf (G (startT N.length ts) A)):fL P w K mg base (y2 P w) (k+1) f fd ps (AG K h):=by
 obtain⟨oc,od,kV,doc,pm,an,fM,ct,HL,rfl,lk,F3⟩:=M.ex;have nb:∀{B:fj} {A:Ab} {H:Hp} {E:XK} {ts:List Tr} {k:Tr->Ab->Prop},ip (Yy K B H E) (h ts A) k->h ts A≠ .bad:=λ{B A H E ts k} q z=>by rw[z]at q;exact q
 refine Ni lk F3 S (λvs H Q E ⟨B,A,ts,ha,r,q⟩=>by rw[r.length];exact len ts A (nb q)) λA outer s H vs Q E hr ⟨B,b,ts,ha,r,q⟩=>?_
 obtain⟨G,hG,hE⟩:=kr fM A outer s H E hr;refine⟨_,hG,B,H,B,b,startT N.length ts,ha.hb,.refl,ha,cc.start r,xu,?_⟩;rw[hE ts b (nb q)]at q;refine(ip.bind q).imp (λc A2 z B' H' g L e s x=>IA x (z B' H' g L))|>.mono λo A2 z=>?_
 cases o with
 |nx Y=>exact λdy B' H' g L I n'=>z .bL B' H' g L .bL
 |ret t=>exact λv B' H' g L I=>z v B' H' g L I
 |_=>exact fe z
def dB(n m:Nat)(G:bW->Ab->Rz Out)(ts:List Tr)(A:Ab):Rz Tr:=if ts.length=n then bf (G (startT m ts) A)else .bad
def BR(h:dB n m G ts A≠ .bad):ts.length=n:=by
 unfold dB at h;by_cases z:ts.length=n
 .exact z
 .rw[aE z]at h;exact absurd rfl h
def L_(h:dB n m G ts A≠ .bad):dB n m G ts A=bf (G (startT m ts) A):=by
 unfold dB;rw[ay (BR h)]
def DJ{X:Cx}{h:List Tr->Ab->Rz Tr}{B1:fj}{Q:VK}(hb:HB B H)(g:Grows B H B1 H1)(ha:HA X.K B1 b H1)(r:bp X.K (bJ B1 H1) vs ts)(q:ip (XE X B H) (h ts b) λt A'=>∀v B' H',Grows B H B' H'->HA X.K B' A' H'->Rep X.K (bJ B' H') v t->Q v H'):AG X.K h vs H1 Q (EX X):=
 ⟨B1,b,ts,ha,r,(q.imp λc A' z=>z.grow hb g).mono λt A' z v B' H' g' L I=>z v B' H' (g.trans hb g') L I⟩
def Tv{X:Cx}(D:EN X.K X.mg x st ps f aj)(G:fL X.prog X.w X.K X.mg X.base (y2 X.prog X.w) k f aj ps (AG X.K h))(b:cZ k X.A)(ha:ZL X (ag::af) L)(g:X.ex=[]:=by rfl) (I:Gl X x:=by rfl) (iH:Db x:=by decide) (cU:bK (ag::af)=true:=by rfl):ZE X (.Call (.Name x p) (ag::af) [] pos) (λY A=>(L Y A).bind h):=⟨have ha:=ha.h;(EC (p:=p) (pos:=pos) G b I D.mg D.fn.kp D.bd .nil (mT g) ha (iH:=iH) (he:=bE _ _ (aK cU).1) (yF:=cq (aK cU).2)).weak λZ H Q ⟨B,A,Y,ha,r,n,q⟩=>⟨B,A,Y,ha,r,n,q.bind.mono λts A1 M vs B1 H1 g1 S r1=>by
  show AG X.K h (vs++[]) H1 Q (EX X);rw[hW];exact DJ ha.hb g1 S r1 M⟩⟩
def vt(c m:Str)(h:List Tr->Ab->Rz Tr)(r:Rz Tr)(l:Ab->Rz (List Tr)):Rz Tr:=r.bind λt A=>match t with
 |.at i=>match A[i]? with
  |some (.ins x fs)=>if x=c/\CO fs m=true then(l A).bind λts A=>h (.at i::ts) A else .bad
  |_=>.bad
 |_=>.bad
def Fl(b:HA K B A H)(g:B.ix a=some i)(e:A[i]?=some (.ins x fs))(hm:CO fs m=true):∃dx g0,H a=some (.ins (clsAt K x) dx g0)/\g0.lookup m=none:=by
 obtain⟨_,dx,g0,h1,_,_,L,q⟩:=b.get g e;refine⟨dx,g0,h1,?_⟩;rcases nE m L q with⟨_,z⟩|⟨t,v,z,_⟩
 .exact z
 .unfold CO at hm;rw[z]at hm;cases hm
def PM{X:Cx}(D:MethAt X.K c m st ps f aj)(G:fL X.prog X.w X.K X.mg X.base (y2 X.prog X.w) k f aj ps (AG X.K h))(M:cZ k X.A)(S:ZO X o F)(ha:ZL X (ag::af) L)(hx:X.ex=[]:=by rfl) (cU:bK (ag::af)=true:=by rfl) (ht:eval (.Call (.Attribute o m b9) (ag::af) [] pos) X.env=yh pos b9 o m (ag::af) X.env pl:=by rfl):ZE X (.Call (.Attribute o m b9) (ag::af) [] pos) (λY A=>vt c m h (F Y A) (L Y)):=⟨have ha:=ha.h;(ED (pl:=pl) S.h D.cl D.mt G M D.bd .nil (mT hx) ha (cU:=bE _ _ (aK cU).1) (yF:=cq (aK cU).2) ht).weak λZ H Q ⟨B,A,Y,ha,r,n,q⟩=>⟨B,A,Y,ha,r,n,q.bind.mono λt A1 b v B1 H1 g1 g rv=>by
  split at b
  .obtain⟨a,rfl,I⟩:=rv.ny;split at b
   .rename_i eo;obtain⟨⟨rfl,hm⟩,q2⟩:=g7 b;obtain⟨dx,g0,k1,k2⟩:=Fl g I eo hm;refine⟨a,dx,g0,rfl,k1,k2,B1,A1,Y,g,r.grow n g1,n,((ip.bind q2).imp λc A' z=>z.grow ha.hb g1).mono λts A2 qs vs B2 H2 g2 pM rs=>?_⟩;show AG X.K h (.ref a::(vs++[])) H2 Q (EX X);rw[hW];exact DJ ha.hb (g1.trans ha.hb g2) pM (.cons (.at (g2.lQ.x _ _ I)) rs) qs
   .exact b.elim
  .exact b.elim⟩⟩
def L'{X:Cx}(D:MethAt X.K c m st ps f aj)(G:fL X.prog X.w X.K X.mg X.base (y2 X.prog X.w) k f aj ps (AG X.K h))(I:cZ k X.A)(M:ZO X o F)(S:X.ex=[]:=by rfl) (ht:eval (.Call (.Attribute o m b9) [] [] pos) X.env=yh pos b9 o m [] X.env pl:=by rfl):ZE X (.Call (.Attribute o m b9) [] [] pos) (λY A=>vt c m h (F Y A) λA=>.ok [] A):=⟨(AU (pl:=pl) M.h D.cl D.mt G I D.bd .nil (mT S) ht).weak λZ H Q ⟨B,A,Y,ha,r,n,q⟩=>⟨B,A,Y,ha,r,n,q.bind.mono λt A1 L v B1 H1 g1 b rv=>by
  split at L
  .obtain⟨a,rfl,g⟩:=rv.ny;split at L
   .rename_i eo;obtain⟨⟨rfl,hm⟩,q2⟩:=g7 L;obtain⟨dx,g0,k1,k2⟩:=Fl b g eo hm;refine⟨a,dx,g0,rfl,k1,k2,?_⟩;show AG X.K h [.ref a] H1 Q (EX X);exact DJ ha.hb g1 b (.cons (.at g) .nil) q2
   .exact L.elim
  .exact L.elim⟩⟩
noncomputable abbrev Yz:List Value:=[.type "ValueError",.type "Exception",.type "BaseException",.type "object"]
structure q_(K:Frag)(mg:Str->Option Value)(x:Str):Prop where
 mg:mg x=some (.ref (clsAt K x))
 ex:PySem.W.excIn K (clsAt K x) Yz "ValueError.__new__"=true
def Ma(X:K.In h)(q:PySem.W.excIn K C b newId=true):
  ∃bm N nm g bs hd sn sub ab col dd k0 k1 k2 k3 k5 mN,h.get? C=some (excClassObj nm g C N bs bm hd sn sub ab col dd k0 k1 k2 k3 k5 newId)/\h.Ns N mN/\mN "__init__"=none/\OwnTail h b bm:=by
 unfold PySem.W.excIn at q;split at q
 .rename_i M cd S ho;split at q
  .rename_i C2 bm j0 j1 j2 j3 n j5 hm hs;simp only[bC,fG,oZ]at q;obtain⟨⟨⟨⟨⟨e1,e2⟩,e3⟩,e4⟩,e5⟩,e6⟩:=q;subst e1 e2;obtain⟨nm,bs,mro,ns,g,hd,sn,sub,ab,col,del⟩:=cd;have L:mro=_:=hm;have Rm:del=false:=e3;have I:PySem.W.nsOkIn K ns=true:=e5;have r:PySem.W.nsIn K ns "__init__"=some none:=e6;subst L Rm;obtain⟨l⟩:=S;have WL:l=_:=hs;subst WL;exact⟨bm,ns,nm,g,bs,hd,sn,sub,ab,col,M,j0,j1,j2,j3,j5,_,X _ _ ho,.of_isNs (PySem.W.isNs_of_in X I),PySem.W.nsMap_none_of_in X I r,PySem.W.tail_of_in X e4⟩
  .cases q
 .cases q
def IM(x:Str)(l:Rz (List Tr)):Rz Out:=l.bind λts A=>if ts.length<=cX then .exc (.str x) A else .bad
def dR{X:Cx}(D:q_ X.K X.mg x)(ha:ZL X (ag::af) L)(hx:X.ex=[]:=by rfl) (hc:X.calm=true:=by rfl) (hg:Gl X x:=by rfl) (iH:Db x:=by decide) (cU:bK (ag::af)=true:=by rfl):ZS X (.Raise (some (.Call (.Name x np) (ag::af) [] cV)) none pos) (λY A=>IM x (L Y A)):=⟨by
 intro U s Z H D' I ⟨B0,H0,B,A,Y,hb,g,hA,r,n,q⟩;obtain⟨bm,N,nm,qn,bs,hd,sn,sub,ab,col,dd,k0,k1,k2,k3,k5,mN,hC,hN,S,T⟩:=Ma (h:=X.base) I.ok.mod.N_ D.ex;have Tw:starEach (ag::af) X.env=(false,eval ag X.env)::starEach af X.env:=bE _ _ (aK cU).1;have yF:(backTo cV (starEach af X.env)).any (·.1)=false:=cq (aK cU).2;refine wpAny_Raise_call_subU (C:=clsAt X.K x) (nm:=nm) (q:=qn) (N:=N) (bs:=bs) (bm:=bm) (hdct:=hd) (sn:=sn) (sub:=sub) (ab:=ab) (col:=col) (dd:=dd) (k0:=k0) (k1:=k1) (k2:=k2) (k3:=k3) (k5:=k5)
  AJ (by decide) AJ (mN:=mN) (T.hasType (by decide)) (I.ok.hd hc) (by rw[Tw];show(false||(backTo cV (starEach af X.env)).any (·.1))=false;rw[yF];rfl) S
  (qj I hg D.mg ⟨rfl,?_⟩ iH)
 have YB:=ha.h cV U s Z H (λvs H2=>vs.length<=sizeLine/\EX X (.ref (clsAt X.K x)) none H2) I ⟨B,A,Y,hA,r,n,((ip.bind q).imp λc A' z=>z.grow hb g).mono λts A2 qt vs B2 H2 g2 pM rs=>by
  obtain⟨hl,q2⟩:=g7 qt;exact⟨by rwa[rs.length,<-iN],(show XE X B0 H0 (.str x) A2 from q2) B2 H2 (g.trans hb g2) pM⟩⟩
 rw[Tw]at YB⊢;refine qf (ej YB λus s2 ⟨vs,H2,M,rv,hl,hE⟩=>⟨rfl,by rwa[<-rv.length],M.bk _ _ hC,hN.keeps M.bk,T.keeps M.bk,λh' a hm=>hE _ _ ?_⟩);obtain⟨t,e1,e2,e3⟩:=hm.there;refine⟨a,U,Z,s2.heap,rfl,M.kept (t':=s2.toks) hm.keeps,⟨⟨_,_,_,e1,rfl,rfl,rfl,.inl rfl⟩,?_,hm.new⟩,λb n=>M.BE hx n,λp hp=>⟨_,(M.pin p (gA _ hp)).1⟩,λb nb=>by
  cases z:s2.heap.get? b with
  |none=>rfl
  |some o=>rw[hm.keeps b o z]at nb;cases nb⟩
 cases z:H2 a with
 |none=>rfl
 |some o=>
  obtain⟨u,e4⟩:=(M.cL a o z).get;rw[hm.new]at e4;cases e4⟩
def GF:swapsWith e (some (.Subscript o i p)) n env=pure false:=by cases e<;>rfl
def GG:swapsWith e (some (.Attribute o f p)) n env=pure false:=by cases e<;>rfl
noncomputable def zd(f:Str)(t:Tr):List (Str×Tr)->List (Str×Tr)
 |[]=>[(f,t)]
 |(g,x)::r=>if g=f then(g,t)::r else(g,x)::zd f t r
theorem BS(b:Rep K W v t):∀{g0:List (Str×V)} {fs:List (Str×Tr)},g0.map (·.1)=fs.map (·.1)->bp K W (g0.map (·.2)) (fs.map (·.2))->(mH f v g0).map (·.1)=(zd f t fs).map (·.1)/\bp K W ((mH f v g0).map (·.2)) ((zd f t fs).map (·.2))
 |[],[],_,_=>⟨rfl,.cons b .nil⟩
 |[],_::_,e,_=>by cases e
 |_::_,[],e,_=>by cases e
 |(k1,v1)::g0,(k2,S)::fs,e,r=>by
  rw[aX,aX]at e;injection e with g L
  have q:k1=k2:=g;subst q;cases r with
  |cons I r=>
   unfold mH zd;by_cases z:k1=f
   .rw[ay z,ay z];exact⟨by rw[aX,aX,L],.cons b r⟩
   .rw[aE z,aE z];obtain⟨p1,M⟩:=BS b L r;exact⟨by rw[aX,aX,p1],.cons I M⟩
def lookup_some{g0:List (Str×V)}{fs:List (Str×Tr)}(h:g0.map (·.1)=fs.map (·.1))(r:bp K W (g0.map (·.2)) (fs.map (·.2)))(e:fs.lookup f=some t):∃v,g0.lookup f=some v/\Rep K W v t:=by
 rcases nE f h r with⟨z,_⟩|⟨t',v,z,ev,rv⟩
 .cases e.symm.trans z
 .cases e.symm.trans z;exact⟨v,ev,rv⟩
structure kD(K:Frag)(xs:List Str)(f:Str):Prop where
 all:∀x∈xs,C9 K (clsAt K x)/\rj K (clsAt K x) f
def ly(xs:List Str)(f:Str):Tr->Rs Tr
 |.ob x fs=>if xs.contains x=true then kc (fs.lookup f)else .bad
 |_=>.bad
theorem cx{X:Cx}(T:kD X.K xs f)(he:QE X e F)(hb:attributeBase e f X.env (eval e X.env)=eval e X.env:=by first|exact h8 rfl|rfl):QE X (.Attribute e f pos) (λY=>(F Y).bind (ly xs f)):=⟨(HI he.h hb).weak λZ H Q ⟨B,Y,hb,r,q⟩=>⟨B,Y,hb,r,q.bind.mono λt L v H1 s1 rv=>by
  unfold ly at L;split at L
  .obtain⟨a,dx,g0,rfl,h,b,rr⟩:=rv.zL;split at L
   .rename_i g;obtain⟨t,I,k⟩:=ig L;have c:=T.all _ (ck.mp g);obtain⟨v,ev,rv⟩:=lookup_some b rr I;exact⟨a,_,dx,g0,v,rfl,dO h,c.1,c.2,ev,k v H1 s1 rv⟩
   .exact L.elim
  .exact L.elim⟩⟩
def pO(xs:List Str)(f:Str)(r:Rz Tr):Rz Tr:=r.bind λt A=>match t with
 |.at i=>match A[i]? with
  |some (.ins x fs)=>if xs.contains x=true then lx (kc (fs.lookup f)) A else .bad
  |_=>.bad
 |_=>.bad
theorem gP{X:Cx}(T:kD X.K xs f)(he:ZE X e G)(hb:attributeBase e f X.env (eval e X.env)=eval e X.env:=by first|exact h8 rfl|rfl):ZE X (.Attribute e f pos) (λY A=>pO xs f (G Y A)):=⟨(HI he.h hb).weak λZ H Q ⟨B,A,Y,ha,r,n,q⟩=>⟨B,A,Y,ha,r,n,q.bind.mono λt A1 L v B1 H1 g1 b rv=>by
  split at L
  .obtain⟨a,rfl,g⟩:=rv.ny;split at L
   .rename_i I;obtain⟨M,S⟩:=g7 L;obtain⟨_,dx,g0,h1,_,_,h4,h5⟩:=b.get g I;have c:=T.all _ (ck.mp M);obtain⟨t,et,k⟩:=ig (pK (X:=X) (H:=H1) S);obtain⟨v,ev,rv⟩:=lookup_some h4 h5 et;exact⟨a,_,dx,g0,v,rfl,h1,c.1,c.2,ev,k v B1 H1 g1 b rv⟩
   .exact L.elim
  .exact L.elim⟩⟩
def WM(xs:List Str)(f:Str)(v:Rz Tr)(o:Ab->Rz Tr)(Y:bW):Rz Out:=v.bind λL A=>(o A).bind λt A=>match t with
 |.at i=>match A[i]? with
  |some (.ins x fs)=>if xs.contains x=true/\fs.length<1000 then .ok (.nx Y) (A.set i (.ins x (zd f L fs)))else .bad
  |_=>.bad
 |_=>.bad
theorem pP{X:Cx}(T:kD X.K xs f)(ho:ZE X o G)(hv:ZE X value E):ZS X (.Assign [.Attribute o f pos'] value pos) (λY A=>WM xs f (E Y A) (G Y) Y):=⟨(Oz ho.h hv.h GG).weak λD Z H ⟨B0,H0,B,A,Y,hb,g,ha,r,n,q⟩=>pL hb g ha r n q.bind λtv A1 v B1 H1 q1 g1 kS r1 rv _=>pL hb g1 kS r1 n (ip.bind q1) λt A2 w B2 H2 L g2 M r2 qP WN=>by
  split at L
  .obtain⟨a,rfl,b⟩:=qP.ny;split at L
   .rename_i i _ x fs eo;obtain⟨⟨hx,hl⟩,q3⟩:=g7 L;obtain⟨hd,dx,g0,h1,h2,I,S,h5⟩:=M.get b eo;have c:=T.all x (ck.mp hx);have c6:g0.length=fs.length:=by have:=cR List.length S;rw[aY,aY]at this;exact this
    obtain⟨p1,p2⟩:=BS (f:=f) (rv.same WN.lQ) S h5;have Wu:dx≠a:=λz=>by rw[z,show B2.ix a=some i from b]at I;cases I
    obtain⟨g3,h6⟩:=M.write (o:=.ins x (zd f tv fs)) (u:=.ins (clsAt X.K x) dx (mH f v g0)) b ⟨hd,dx,_,bA,by rwa[aN Wu],I,p1,by rwa[jb hd]⟩;exact⟨a,_,dx,g0,rfl,h1,c.1,c.2,by rwa[c6],q3 Z B2 _ (g2.trans hb g3) h6 (r2.grow n g3) n⟩
   .exact L.elim
  .exact L.elim⟩
def Fm(q:ip b (lU r A) k):Fi X H r λt=>Hg t=true/\k t A:=by
 cases r with
 |ok t=>exact g7 q
 |exc c=>exact fe q
 |bad=>exact q
def PN(h:Tr->Tr->Rs Tr)(a:Rz Tr)(b:Ab->Rz Tr):Rz Tr:=a.bind λx A=>(b A).bind λy A=>lU (h (aJ 1 A x) (aJ 1 A y)) A
def GH{F G:bW->Ab->Rz Tr}(q:tE X (λY A=>PN h (F Y A) (G Y)) Z H Q):Om (rT X h) (tE X F) (tE X G) Z H Q:=by
 obtain⟨B,A,Y,ha,r,n,q⟩:=q;refine⟨B,A,Y,ha,r,n,q.bind.mono λx g I v B1 H1 g1 M S=>⟨B1,g,Y,M,r.grow n g1,n,((ip.bind I).imp λc A' z=>z.grow ha.hb g1).mono λy b qy u B2 H2 g2 L ru=>?_⟩⟩;refine⟨B2.un,aJ 1 b x,aJ 1 b y,BC L.hb,il L 1 (S.same g2.lQ),il L 1 ru,(Fm qy).mono λt ⟨ft,k⟩ w H3 s3 qP=>?_⟩;exact k w B2 H3 ((g1.trans ha.hb g2).trans ha.hb (.of s3)) (L.same s3) (uL (L.same s3) qP ft)
def ue{X:Cx}(g:X.A.units+1<cLine)(r:ZO X a F)(I:ZE X b G)(hs:zH b:=by exact λ_ _=>rfl):ZE X (.Subscript a b pos) (λY A=>PN ib (F Y A) (G Y)):=⟨(Nk (S2 g) r.h I.h hs).weak λ_ _ _ q=>GH q⟩
def NM(h:List Tr->Rs Tr)(l:Rz (List Tr)):Rz Tr:=l.bind λts A=>lU (h (ts.map (aJ 1 A))) A
def DK{L:bW->Ab->Rz (List Tr)}(q:tE X (λY A=>NM h (L Y A)) Z H Q):U5 (rC X h) (Rr X L) Z H Q:=by
 obtain⟨B,A,Y,ha,r,n,q⟩:=q;refine⟨B,A,Y,ha,r,n,q.bind.mono λts g I vs B1 H1 g1 b rs=>?_⟩;exact⟨B1.un,ts.map (aJ 1 g),BC b.hb,mQ (λr=>il b 1 r) rs,(Fm I).mono λt ⟨M,k⟩ w S s3 qP=>k w B1 S (g1.trans ha.hb (.of s3)) (b.same s3) (uL (b.same s3) qP M)⟩
def Mb{id:String}(b:mL X (.builtin id) h)(hm:X.mg x=none)(g:ZL X (ag::af) L)(r:bootBuiltins x=some (.builtin id):=by rfl) (I:Gl X x:=by rfl) (M:x≠"__name__":=by decide) (iH:Db x:=by decide) (cU:bK (ag::af)=true:=by rfl):ZE X (.Call (.Name x p) (ag::af) [] pos) (λY A=>NM h (L Y A)):=⟨(tD b I hm r g.h M iH (bE _ _ (aK cU).1) (cq (aK cU).2)).weak λ_ _ _ q=>DK q⟩
def BU(A:Ab)(t b g:Tr):Option Ab:=match t,kR b with
 |.at i,some k=>match A[i]? with
  |some (.bh bg)=>if bg.length<cX then some (A.set i (.bh (kz bg k g)))else none
  |_=>none
 |_,_=>none
def Tx(v:Rz Tr)(o k:Ab->Rz Tr)(Y:bW):Rz Out:=v.bind λL A=>(o A).bind λt A=>(k A).bind λb A=>match BU A t b L with
 |some A'=>.ok (.nx Y) A'
 |none=>.bad
theorem dQ.length (h:dQ K W kvs bg):kvs.length=bg.length:=by
 have e:=cR List.length h.keys;rw[aY,aY]at e;exact e
def DL(e:BU A t b g=some A'):∃j bg key,t=.at j/\kR b=some key/\A[j]?=some (.bh bg)/\bg.length<cX/\A'=A.set j (.bh (kz bg key g)):=by
 unfold BU at e;split at e
 .rename_i L;split at e
  .rename_i q;split at e
   .rename_i r;cases e;exact⟨_,_,_,rfl,L,q,r,rfl⟩
   .cases e
  .cases e
 .cases e
def fg{X:Cx}(hu:X.A.units+1<cLine)(ho:ZO X o F)(hi:ZE X i G)(hv:ZE X value E):ZS X (.Assign [.Subscript o i pos'] value pos) (λY A=>Tx (E Y A) (F Y) (G Y) Y):=⟨(Lf hu ho.h hi.h hv.h GF).weak λD Z H ⟨B0,H0,B,A,Y,hb,g,ha,r,n,q⟩=>pL hb g ha r n q.bind λtv A1 v B1 H1 q1 g1 kS r1 rv _=>pL hb g1 kS r1 n (ip.bind q1) λt A2 w B2 H2 q2 g2 pM r2 qP WN=>pL hb g2 pM r2 n (ip.bind q2) λtk A3 y B3 H3 L g3 I r3 ry M=>by
  have b:=qP.same M.lQ;have Vh:=(rv.same WN.lQ).same M.lQ;split at L
  .rename_i ed;obtain⟨j,bg,key,rfl,ek,eo,hl,rfl⟩:=DL ed;obtain⟨c,rfl,S⟩:=b.ny;obtain⟨hd,kvs,h1,h2⟩:=I.get S eo;cases nA ry ek;obtain⟨g4,h6⟩:=I.write (o:=.bh (kz bg key tv)) (u:=.dK (putK kvs key v)) S ⟨hd,_,bA,by rw[jb hd];exact h2.put key Vh⟩;exact⟨c,_,rfl,Di.k h1 (by rwa[h2.length,<-iN]),L Z B3 _ (g3.trans hb g4) h6 (r3.grow n g4) n⟩
  .exact L.elim⟩
noncomputable def ir(bg:List (Key×Tr))(k:Key):List (Key×Tr):=bg.filter λL=>decide (L.1≠k)
theorem dQ.drop (k:Key):∀{kvs:List (Key×V)} {bg:List (Key×Tr)},dQ K W kvs bg->dQ K W (qV kvs k) (ir bg k)
 |[],[],_=>.nil
 |[],_::_,h=>by cases h.keys
 |_::_,[],h=>by cases h.keys
 |(k1,v1)::kvs,bg,h=>by
  obtain⟨t,r,rfl,rv,b⟩:=h.inv;have L:=dQ.drop k b;unfold qV ir at L⊢;by_cases z:k1=k
  .rwa[jG (by simp[z]),jG (by simp[z])]
  .rw[kU (by simp[z]),kU (by simp[z])];exact .cons rv L
def mW(A:Ab)(i:Nat):Bool:=match A[i]? with
 |some (.bh _)=>true
 |_=>false
def qC(b:HA K B A H)(e:B.ix a=some i)(h:mW A i=true):∃bg kvs,A[i]?=some (.bh bg)/\B.hd a=true/\H a=some (.dK kvs)/\dQ K (bJ B H) kvs bg:=by
 obtain⟨o,L,g⟩:=b.ex e;unfold mW at h;rw[L]at h;cases o with
 |bh bg=>obtain⟨hd,kvs,h1,h2⟩:=g;exact⟨bg,kvs,L,hd,h1,h2⟩
 |_=>cases h
def YD{α:Type}(o:Rz Tr)(k:Ab->Rz Tr)(f:Nat->Key->Ab->Rz α):Rz α:=o.bind λt A=>match t with
 |.at i=>if mW A i=true then(k A).bind λL A=>match kR L with
  |some key=>f i key A
  |none=>.bad
  else .bad
 |_=>.bad
def oQ(A:Ab)(i:Nat):List (Key×Tr):=match A[i]? with
 |some (.bh bg)=>bg
 |_=>[]
def NN(o:Rz Tr)(k:Ab->Rz Tr):Rz Tr:=YD o k λi key A=>if mW A i=true then match eM (oQ A i) key with
 |some v=>.ok v (A.set i (.bh (ir (oQ A i) key)))
 |none=>.bad
 else .bad
def z5{A:Ab}(h:A[aa]?=some (.bh bg)):oQ A aa=bg:=by unfold oQ;rw[h]
def xB{cV:Pos}(ho:ZO X o F)(he:ZE X e G)(hb:isCall o=false:=by rfl) (cU:bK [e]=true:=by rfl) (hl:(ah.endLine==cV.line)=true:=by rfl):ZE X (.Call (.Attribute o "pop" ah) [e] [] cV) (λY A=>NN (F Y A) (G Y)):=⟨(HW ho.h he.h (S9 hb cU hl)).weak λZ H Q ⟨B,A,Y,ha,r,n,q⟩=>⟨B,A,Y,ha,r,n,q.bind.mono λt A1 g v B1 H1 g1 M rv=>by
  split at g
  .obtain⟨a,rfl,S⟩:=rv.ny;rename_i i;obtain⟨hd,q2⟩:=g7 g;obtain⟨bg,kvs,e1,e2,e3,e4⟩:=qC M S hd;refine⟨a,rfl,.inl ⟨_,.inl e3⟩,B1,A1,Y,M,r.grow n g1,n,((ip.bind q2).imp λc A' z=>z.grow ha.hb g1).mono λtk A2 b y B2 H2 g2 pM ry=>?_⟩;have z6:=g2.lQ.x _ _ S;cases I:kR tk with
   |none=>simp only[I]at b;exact fe b
   |some key=>
    simp only[I]at b;obtain⟨hd2,L⟩:=g7 b;obtain⟨PQ,IP,f1,f2,f3,f4⟩:=qC pM z6 hd2;rw[z5 f1]at L;have ey:=nA ry I;subst ey;rcases qA key f4.keys f4.vals with⟨z,_⟩|⟨t,w,z,ev,qP⟩
    .simp only[z]at L;exact fe L
    .simp only[z]at L;obtain⟨g4,h6⟩:=pM.write (o:=.bh (ir PQ key)) (u:=.dK (qV IP key)) z6 ⟨f2,_,bA,by rw[jb f2];exact f4.drop key⟩;exact⟨IP,key,w,f3,rfl,ev,L w B2 _ ((g1.trans ha.hb g2).trans ha.hb g4) h6 (by rwa[jb f2])⟩
  .exact g.elim⟩⟩
def NO(o:Rz Tr)(k x:Ab->Rz Tr):Rz Tr:=YD o k λi key A=>(x A).bind λL A=>if mW A i=true then match eM (oQ A i) key with
 |some v=>.ok v (A.set i (.bh (ir (oQ A i) key)))
 |none=>.ok L A
 else .bad
def DM{cV:Pos}(ho:ZO X o F)(he:ZE X e G)(hf:ZE X f E)(hb:isCall o=false:=by rfl) (cU:bK [e,f]=true:=by rfl) (hl:(ah.endLine==cV.line)=true:=by rfl):ZE X (.Call (.Attribute o "pop" ah) [e,f] [] cV) (λY A=>NO (F Y A) (G Y) (E Y)):=⟨(HX ho.h he.h hf.h (NA hb cU hl)).weak λZ H Q ⟨B,A,Y,ha,r,n,q⟩=>⟨B,A,Y,ha,r,n,q.bind.mono λt A1 S v B1 H1 g1 kS rv=>by
  split at S
  .obtain⟨a,rfl,qS⟩:=rv.ny;rename_i i;obtain⟨hd,q2⟩:=g7 S;obtain⟨bg,kvs,e1,e2,e3,e4⟩:=qC kS qS hd;refine⟨a,rfl,.inl ⟨_,.inl e3⟩,B1,A1,Y,kS,r.grow n g1,n,((ip.bind q2).imp λc A' z=>z.grow ha.hb g1).mono λtk A2 I y B2 H2 g2 pM ry=>?_⟩;have M:=g1.trans ha.hb g2;cases ek:kR tk with
   |none=>simp only[ek]at I;exact fe I
   |some key=>
    simp only[ek]at I;refine⟨B2,A2,Y,pM,r.grow n M,n,((ip.bind I).imp λc A' z=>z.grow ha.hb M).mono λtx A3 qx z B3 H3 g3 Hi rz=>?_⟩;have Tz:=g3.lQ.x _ _ (g2.lQ.x _ _ qS);obtain⟨hd3,L⟩:=g7 qx;obtain⟨WO,TB,f1,f2,f3,f4⟩:=qC Hi Tz hd3;rw[z5 f1]at L;have ey:=nA ry ek;subst ey;refine⟨TB,key,f3,rfl,λw ev=>?_,λev=>?_⟩
    .rcases qA key f4.keys f4.vals with⟨_,b⟩|⟨t,w2,b,g,qP⟩
     .rw[ev]at b;cases b
     .rw[ev]at g;cases g;simp only[b]at L;obtain⟨g4,h6⟩:=Hi.write (o:=.bh (ir WO key)) (u:=.dK (qV TB key)) Tz ⟨f2,_,bA,by rw[jb f2];exact f4.drop key⟩;exact L w B3 _ ((M.trans ha.hb g3).trans ha.hb g4) h6 (by rwa[jb f2])
    .rcases qA key f4.keys f4.vals with⟨z1,_⟩|⟨t,w2,b,g,_⟩
     .simp only[z1]at L;exact L z B3 H3 (M.trans ha.hb g3) Hi rz
     .rw[ev]at g;cases g
  .exact S.elim⟩⟩
def BV(c:Str)(h:List Tr->Ab->Rz Tr)(l:Rz (List Tr)):Rz Tr:=l.bind λts A=>(h (.at A.length::ts) (A++[.ins c []])).bind λt A'=>if S0 t=true then .ok (.at A.length) A' else .bad
structure DN(K:Frag)(mg:Str->Option Value)(c:Str)(ps:List Str)(fa:Addr)(fd:FuncData):Prop where
 TF:Mk K (clsAt K c) fa
 bd:Binds K fd ps []
 mg:mg c=some (.ref (clsAt K c))
def Fo{X:Cx}{h:List Tr->Ab->Rz Tr}{B1:fj}{Q:VK}(hb:HB B H)(g:Grows B H B1 H1)(I:HA X.K B1 b H1)(rs:bp X.K (bJ B1 H1) vs ts)
  (q:ip (XE X B H) ((h (.at b.length::ts) (b++[.ins c []])).bind λt A'=>if S0 t=true then .ok (.at b.length) A' else .bad) λt A'=>∀v B' H',Grows B H B' H'->HA X.K B' A' H'->Rep X.K (bJ B' H') v t->Q v H')
  (x dx:Addr) (S:H1 x=none) (M:H1 dx=none) (r:dx≠x):AG X.K h (.ref x::vs) (upd (upd H1 dx (.own x)) x (.ins (clsAt X.K c) dx [])) (λv H2=>v=.bL/\Q (.ref x) H2) (EX X):=by
 have s1:aI H1 (upd (upd H1 dx (.own x)) x (.ins (clsAt X.K c) dx [])):=((aI.upd M).trans (aI.upd (by rwa[aN (Ne.symm r)])));obtain⟨g1,L⟩:=I.push (p:=x) (o:=.ins c []) S s1 ⟨qB,dx,[],bA,by rw[aN r,bA],by rw[ik r];exact I.free M,rfl,.nil⟩;refine⟨_,_,_,L,.cons (.at ij) (rs.same g1.lQ),((ip.bind q).imp λc A' z=>z.grow hb (g.trans hb g1)).mono λt A' z v B' H' g' lP rv=>?_⟩;obtain⟨hn,z2⟩:=g7 z;refine⟨?_,z2 (.ref x) B' H' ((g.trans hb g1).trans hb g') lP (.at (g'.lQ.x _ _ ij))⟩;have e:=zR rv;rw[hn]at e;exact fo e
def PR{X:Cx}(D:DN X.K X.mg c ps fa aj)(G:fL X.prog X.w X.K X.mg X.base (y2 X.prog X.w) k fa aj ps (AG X.K h))(b:cZ (k+1) X.A)(ha:ZL X (ag::af) L)(g:X.ex=[]:=by rfl) (I:Gl X c:=by rfl) (iH:Db c:=by decide) (cU:bK (ag::af)=true:=by rfl):ZE X (.Call (.Name c p) (ag::af) [] pos) (λY A=>BV c h (L Y A)):=⟨have ha:=ha.h;(K5 (p:=p) (pos:=pos) D.TF G b I D.mg D.bd .nil (mT g) ha (iH:=iH) (he:=bE _ _ (aK cU).1) (yF:=cq (aK cU).2)).weak λZ H Q ⟨B,A,Y,ha,r,n,q⟩=>⟨B,A,Y,ha,r,n,q.bind.mono λts A1 M vs B1 H1 g1 S rs x dx h1 h2 h3=>by
  show AG X.K h (.ref x::(vs++[])) _ _ _;rw[hW];exact Fo ha.hb g1 S rs M x dx h1 h2 h3⟩⟩
def Mc{X:Cx}(D:DN X.K X.mg c ps fa aj)(G:fL X.prog X.w X.K X.mg X.base (y2 X.prog X.w) k fa aj ps (AG X.K h))(b:cZ (k+1) X.A)(g:X.ex=[]:=by rfl) (I:Gl X c:=by rfl) (iH:Db c:=by decide):ZE X (.Call (.Name c p) [] [] pos) (λ_ A=>BV c h (.ok [] A)):=⟨(HK (p:=p) (pos:=pos) D.TF G b I D.mg D.bd .nil (mT g) (iH:=iH)).weak λZ H Q ⟨B,A,Y,ha,r,n,q⟩ x dx L M S=>Fo (vs:=[]) (ts:=[]) ha.hb .refl ha .nil q x dx L M S⟩
def Md{X:Cx}(ok:X.Ok):∀b∈X.fs,b∈jB X.stack:=λb hb=>by
 rcases ok.Kv with e|⟨e,_⟩
 .rwa[e]
 .rw[e];obtain⟨v,L,hf⟩:=nj.mp hb;exact nj.mpr ⟨v,cw _ L,hf⟩
def Inv.PU {X:Cx}{hs:List Addr}(I:Inv X U Z H s)(hx:X.ex=[])
  (kp:∀b o,b∉hs->b∉jB X.stack->s.heap.get? b=some o->h'.get? b=some o) (S:∀b o,b∈jB X.stack->s.heap.get? b=some o->∃S,h'.get? b=some {o with slots:=S})
  (hn:∀b∈hs,H b=none/\X.g_.heap.get? b=none/\(∀p∈X.pn++U,p.1≠b)/\((∃o ws,s.heap.get? b=some o/\o.data=.fields ws)\/s.heap.get? b=none)):Inv X U Z H {s with heap:=h'}:=by
 have WQ:∀b:Addr,b∉X.ex:=λb=>by rw[hx];simp
 have any:∀b o,b∉hs->s.heap.get? b=some o->∃S,h'.get? b=some {o with slots:=S}:=λb o nb e=>by
  by_cases m:b∈jB X.stack
  .exact S b o m e
  .exact⟨o.slots,kp b o nb m e⟩
 have YE:∀b o,s.heap.get? b=some o->(∀ws,o.data≠ .fields ws)->b∉hs:=λb o e d m=>by
  rcases(hn b m).2.2.2 with⟨o2,ws,L,d2⟩|L
  .rw[e]at L;cases L;exact d ws d2
  .rw[e]at L;cases L
 have cellK:∀c v,s.heap.IsCell c v->h'.IsCell c v:=λc v ⟨o,ho,hd⟩=>by
  obtain⟨s1,g⟩:=any c o (YE c o ho λws z=>by rw[hd]at z;cases z) ho;exact⟨_,g,hd⟩
 have old:∀b o,X.g_.heap.get? b=some o->b∉hs:=λb o e m=>by rw[(hn b m).2.1]at e;cases e
 refine⟨I.ok,I.os,I.bare,⟨λb o e n hb _=>?_,λb o e n hb _=>?_,I.base.free,λb o e _=>?_,I.base.oM,I.base.mG,I.base.pq⟩,?_,λx c e=>?_,I.free,I.gv,λp hp=>?_,λb u e=>?_,I.len⟩
 .refine kp b o (old b o e) (λm=>?_) (I.base.keep b o e n hb (WQ b));rcases a_.mp (I.wN b m)with z|z
  .exact absurd (dH (bD e) I.ok.above) (by rw[z];exact fE _)
  .exact hb z
 .obtain⟨s1,g⟩:=I.base.slot b o e n hb (WQ b);obtain⟨s2,L⟩:=S b _ (Md I.ok b hb) g;exact⟨s2,L⟩
 .obtain⟨o1,g⟩:=I.base.there b o e (WQ b);obtain⟨s2,L⟩:=any b o1 (old b o e) g;exact⟨_,L⟩
 .obtain⟨m,hm,hl⟩:=I.loc;refine⟨m,?_,λi x v g L e3=>?_⟩
  .obtain⟨o,es,ep,ho,hd,r⟩:=hm;obtain⟨s1,g⟩:=any _ o (YE _ o ho λws z=>by rw[hd]at z;cases z) ho;exact⟨_,es,ep,g,hd,r⟩
  .obtain⟨u,r,l⟩:=hl i x v g L e3;refine⟨u,r,?_⟩;rcases l with l|⟨k,c,e,z⟩
   .exact .inl l
   .exact .inr ⟨k,c,e,cellK c _ z⟩
 .obtain⟨v,z⟩:=I.cell x c e;exact⟨v,cellK c v z⟩
 .obtain⟨e,n,ne,nf,d⟩:=I.pin p hp;refine⟨kp p.1 p.2 (λm=>(hn _ m).2.2.1 p hp rfl) (λm=>?_) e,n,ne,nf,d⟩;rcases a_.mp (I.wN _ m)with z|z
  .exact ne z
  .exact nf z
 .refine(I.cL b u e).sZ (λc v M q=>kp c v (λm=>?_) (λm=>?_) q) (λ_ q=>q) λ_ _ q=>q
  .have n:=(hn c m).1;rcases M with rfl|M
   .rw[n]at e;cases e
   .rw[n]at M;cases M
  .have n:=I.vO c m;rcases M with rfl|M
   .rw[n]at e;cases e
   .rw[n]at M;cases M
def TH(h0:Heap)(H:Hp)(h:Heap)(a:Addr)(cls:Value):Prop:=∃L vs a0 T b ts,h.get? a=some L/\L.cls=cls/\L.data=.fields vs/\vs[0]?=some a0/\vs[1]?=some (.ref T)/\T≠a/\h0.get? T=none/\H T=none/\h.get? T=some b/\b.data=.fields ts/\ts[3]?=some .none
structure Kz(X:Cx)(h0:Heap)(Z:St)(H:Hp)(s:Shared)(a:Addr)(cls:Value):Prop where
 inv:Inv X [] Z H s
 Fd:NG h0 H s.heap a cls
 old:∀b,h0.get? b=none->X.g_.heap.get? b=none
 pn:∀p∈X.pn,∃o,h0.get? p.1=some o
 gr:∀b,s.heap.get? b=none->h0.get? b=none
def XS.cau (x:XS X H cls e s):∃a Z h0,e=.ref a/\Kz X h0 Z H s a cls:=by
 obtain⟨a,U,Z,h0,rfl,I,Fd,old,pn,gr⟩:=x;exact⟨a,Z,h0,rfl,I.jQ (λp L=>I.pin p (gA _ (by simpa using L))),Fd,old,pn,gr⟩
def Kz.step {X:Cx}{hs:List Addr}(C:Kz X h0 Z H s a cls)(hx:X.ex=[])(ha:a∈hs)(g:∀b∈hs,H b=none/\h0.get? b=none/\∃o ws,s.heap.get? b=some o/\o.data=.fields ws)
  (k1:(PySem.W.hideAll s.heap (hs++jB X.stack)).StaysIn h') (k4:∀b o,s.heap.get? b=some o->(∀ws,o.data≠ .fields ws)->∃q,h'.get? b=some {o with slots:=q})
  (k3:h'.TracedW (PySem.W.hideAll s.heap (hs++jB X.stack)) a cls a0) (I:∀b∈jB X.stack,∃o,h'.get? b=some o/\∀ws,o.data≠ .fields ws):Kz X h0 Z H {s with heap:=h'} a cls/\TH h0 H h' a cls:=by
 have hk:=C.inv.stack;have Rq:∀L∈jB X.stack,∃o,s.heap.get? L=some o/\∀ws,o.data≠ .fields ws:=λL hL=>(hk.mem hL).2;have gp:∀b,h0.get? b=none->∀p∈X.pn++[],p.1≠b:=λb n p hp z=>by
  obtain⟨o,e⟩:=C.pn p (by simpa using hp);rw[z,n]at e;cases e
 have kp:∀b o,b∉hs->b∉jB X.stack->s.heap.get? b=some o->h'.get? b=some o:=λb o n1 n2 e=>k1 b o (qa _ e λm=>(cF.mp m).elim n1 n2);have q:∀b o,b∈jB X.stack->s.heap.get? b=some o->∃q,h'.get? b=some {o with slots:=q}:=λb o m e=>by
  obtain⟨o2,e2,d2⟩:=Rq b m;rw[e]at e2;cases e2;exact k4 b o e d2
 have tr:TH h0 H h' a cls:=by
  obtain⟨M,vs,T,oT,ts,S,⟨q2,q3⟩,q4,q5,r,q7,q8,q9,Wz⟩:=k3;have hTf:T∉jB X.stack:=λm=>by
   obtain⟨o,e,d⟩:=I T m;rw[q8]at e;cases e;exact d ts q9
  have key:h0.get? T=none/\H T=none:=by
   by_cases m:T∈hs
   .exact⟨(g T m).2.1,(g T m).1⟩
   .have n:s.heap.get? T=none:=by
     cases z:s.heap.get? T with
     |none=>rfl
     |some o=>rw[qa _ z λmm=>(cF.mp mm).elim m hTf]at r;cases r
    refine⟨C.gr T n,?_⟩;cases z:H T with
    |none=>rfl
    |some o=>obtain⟨u,e⟩:=(C.inv.cL T o z).get;rw[n]at e;cases e
  exact⟨M,vs,a0,T,oT,ts,S,q2,q4,q3,q5,q7,key.1,key.2,q8,q9,Wz⟩
 refine⟨⟨C.inv.PU hx kp q λb m=>⟨(g b m).1,C.old b (g b m).2.1,gp b (g b m).2.1,.inl (g b m).2.2⟩,⟨?_,C.Fd.fr,C.Fd.nw⟩,C.old,C.pn,λb n=>?_⟩,tr⟩
 .obtain⟨M,vs,b0,T,oT,ts,S,q2,q3,q4,q5,r⟩:=tr;exact⟨M,vs,b0,S,q2,q3,q4,.inr ⟨T,oT,ts,q5,r⟩⟩
 .by_cases m:b∈hs
  .exact(g b m).2.1
  .refine C.gr b ?_
   cases z:s.heap.get? b with
   |none=>rfl
   |some o=>
    have n':h'.get? b=none:=n;by_cases m2:b∈jB X.stack
    .obtain⟨s1,e1⟩:=q b o m2 z;rw[n']at e1;cases e1
    .rw[kp b o m m2 z]at n';cases n'
theorem Me{A:Around}(C:Kz X h0 Z H s a cls)(hx:X.ex=[])(cU:X.stack=X.env::X.outer)(hf:X.env.frame=some X.env.locals)(S:A.frames=some X.stack){Q:Unit->Shared->Prop}(q:∀g,Kz X h0 Z H g a cls->TH h0 H g.heap a cls->Q () g):
  wpAny M A (noteFrame (.ref a) X.env) (λ_ s2=>wpAny M A (setFlight (.ref a) none) Q E s2) E s:=by
 obtain⟨⟨oe,vs,a0,he,zB,hd,YF,h1⟩,fr,nw⟩:=C.Fd;have hk:s.heap.FunFrames X.base X.stack:=C.inv.stack;have rB:∀e∈X.stack,∀b,e.frame=some b->b∈jB X.stack:=λe he b hb=>nj.mpr ⟨e,he,hb⟩;have after:∀(hs:List Addr) (h':Heap),a∈hs->(∀b∈hs,H b=none/\h0.get? b=none/\∃o ws,s.heap.get? b=some o/\o.data=.fields ws)->Heap.NotedW (PySem.W.hideAll s.heap (hs++jB X.stack)) X.stack a cls a0 (rawInt X.env.locals) s.heap h'->wpAny M A (setFlight (.ref a) none) Q E {s with heap:=h'}:=by
  intro hs h' r hh ⟨k1,k2,k3,k4⟩;refine wpAny_setFlight_noneW (s:={s with heap:=h'}) k1 k2 k3 λh2 j1 j2 j3 j4=>?_
  obtain⟨c1,c2⟩:=C.step hx r hh j1 (λb o e d=>by obtain⟨sl,e1⟩:=k4 b o e d;exact⟨sl,j4 b _ e1 d⟩) j3 λb m=>(j2.mem m).2;exact q _ c1 c2
 rcases h1 with h1|⟨T,oT,ts,h1,WA,WB,Ve,hT,Vf,h3⟩
 .have I:s.heap.FunFrames (PySem.W.hideAll s.heap ([a]++jB X.stack)) (X.env::X.outer):=by rw[<-cU];exact sx hk λe he b hb=>dm _ (rB e he b hb)
  unfold noteFrame;simp only[hf];refine aM (wpAny_field he hd h1 ?_);rw[aE (by decide)];refine wpAny_entryW (base:=PySem.W.hideAll s.heap ([a]++jB X.stack)) (by rw[S,cU]) I hf he (λb o z=>qg _ z) (kX _ (gA _ (cz.mpr rfl))) hd (Array.getElem?_eq_some_iff.mp h1).1 YF λh' L=>?_
  rw[zB,<-cU]at L;refine after [a] h' (cz.mpr rfl) (λb m=>?_) L;cases cz.mp m;exact⟨fr,nw,oe,vs,he,hd⟩
 .have I:s.heap.FunFrames (PySem.W.hideAll s.heap ([a,T]++jB X.stack)) (X.env::X.outer):=by rw[<-cU];exact sx hk λe he b hb=>dm _ (rB e he b hb)
  refine wpAny_noteFrame_onW (base:=PySem.W.hideAll s.heap ([a,T]++jB X.stack)) (cls:=cls) (a0:=a0) (by rw[S,cU]) I hf ⟨oe,vs,T,oT,ts,he,⟨zB,YF⟩,hd,h1,kX _ (gA _ (by simp)),WA,hT,Vf,h3⟩ (λb o z=>qg _ z) (kX _ (gA _ (by simp))) λh' L=>?_
  rw[<-cU]at L;refine after [a,T] h' (by simp) (λb m=>?_) L;simp only[a_,dr,dt]at m;rcases m with rfl|rfl
  .exact⟨fr,nw,oe,vs,he,hd⟩
  .exact⟨Ve,WB,oT,ts,hT,Vf⟩
theorem GI(C:Kz X h0 Z H s a cls)(T:TH h0 H s.heap a cls)(hx:X.ex=[])(q:∀g,Kz X h0 Z H g a cls->TH h0 H g.heap a cls->ac () g):wpAny M A (setFlight (.ref a) none) ac E s:=by
 obtain⟨oe,vs,a0,T,oT,ts,r,e2,I,e4,e5,e6,e7,e8,S,YG,L⟩:=T;have hk:s.heap.FunFrames X.base X.stack:=C.inv.stack;have rB:∀e∈X.stack,∀b,e.frame=some b->b∈jB X.stack:=λe he b hb=>nj.mpr ⟨e,he,hb⟩;have hl:s.heap.FunFrames (PySem.W.hideAll s.heap ([a,T]++jB X.stack)) X.stack:=sx hk λe he b hb=>dm _ (rB e he b hb);refine wpAny_setFlight_noneW (base:=PySem.W.hideAll s.heap ([a,T]++jB X.stack)) (cls:=cls) (a0:=a0) (fl:=.none) (λb o z=>qg _ z) hl ⟨oe,vs,T,oT,ts,r,⟨e2,e4⟩,I,e5,kX _ (gA _ (by simp)),e6,S,YG,L⟩ λh2 j1 j2 j3 j4=>?_
 obtain⟨c1,c2⟩:=C.step hx (hs:=[a,T]) (by simp) (λb m=>by
  simp only[a_,dr,dt]at m;rcases m with rfl|rfl
  .exact⟨C.Fd.fr,C.Fd.nw,oe,vs,r,I⟩
  .exact⟨e8,e7,oT,ts,S,YG⟩) j1 (λb o e d=>⟨o.slots,j4 b o e d⟩) j3 λb m=>(j2.mem m).2
 exact q _ c1 c2
def Kz.TJ (C:Kz X h0 Z H s a cls)(hx:X.ex=[]):∃oe:Obj,oe.cls=cls/\s.heap.get? a=some oe/\Inv X [] Z (upd H a (.ext λh=>h.get? a=some oe)) s:=by
 obtain⟨⟨oe,vs,a0,he,r,hd,_⟩,fr,nw⟩:=C.Fd;have I:=C.inv;refine⟨oe,r,he,I.ok,I.os,I.bare,⟨I.base.keep,I.base.slot,λb o e n hb=>?_,I.base.there,λb ts e=>?_,λb o u e=>?_,λb p e=>?_⟩,I.loc,I.cell,?_,λy c e=>?_,λp g=>?_,λb u e=>?_,I.len⟩
 .rw[aN λz=>?_]
  .exact I.base.free b o e n hb
  .rw[z,C.old a nw]at e;cases e
 .rw[aN λz=>?_]
  .exact I.base.oM b ts e
  .have q:=I.base.oM b ts e;rw[z,fr]at q;cases q
 .rw[aN λz=>?_]
  .exact I.base.mG b o u e
  .have q:=I.base.mG b o u e;rw[z,fr]at q;cases q
 .obtain⟨more,q⟩:=I.base.pq b p e;exact⟨more,by rwa[aN λz=>(by rw[z,fr]at q;cases q)]⟩
 .rw[aN λz=>?_]
  .exact I.free
  .obtain⟨m,⟨o,es,ep,L,hd2,_⟩,_⟩:=I.loc;rw[z,he]at L;cases L;rw[hd]at hd2;cases hd2
 .rw[aN λz=>?_]
  .exact I.gv y c e
  .obtain⟨v,o,L,hd2⟩:=I.cell y c e;rw[z,he]at L;cases L;rw[hd]at hd2;cases hd2
 .obtain⟨M,S,q3⟩:=I.pin p g;refine⟨M,?_,q3⟩;rw[aN λz=>?_]
  .exact S
  .obtain⟨o,e⟩:=C.pn p (by simpa using g);rw[z,nw]at e;cases e
 .by_cases z:b=a
  .subst z;rw[bA]at e;cases e;exact⟨he,⟨oe,he⟩,λh1 h2 p k=>k _ p⟩
  .rw[aN z]at e;exact(I.cL b u e).sZ (λ_ _ _ q=>q) (λc q=>by rwa[aN (cB q fr)]) λc xs q=>by rwa[aN (cB q fr)]
def ze(I:Inv X U Z H s)(hN:X.N.Nodup)(hi:X.N[aa]?=some n)(hl:X.env.scope.names.lookup n=some .local)(q:∀s',Inv X U (Z.set aa none) H s'->ac () s'):wpAny M A (do bindName X.env n .none;unbindBehindTheSuite X.env n pos) ac E s:=by
 obtain⟨m,hn,hlk⟩:=id I.loc;have Ia:(X.env.scope.kind== .class||(X.env.scope.kind== .module&&X.env.locals !=X.env.globals))=false:=by rw[I.ok.kind];rfl
 obtain⟨oL,_,_,Rh,_⟩:=id hn;refine wpAny_nameGoes_keeps hl hn Ia λh' v Rg hs=>q _ ?_
 have ne:∀b o,X.g_.heap.get? b=some o->b≠X.env.locals:=λb o e=>cY (dH (bD e) I.ok.above);refine⟨I.ok,I.os,I.bare,⟨λb o e n hb g=>?_,λb o e n hb g=>?_,I.base.free,λb o e g=>?_,I.base.oM,I.base.mG,I.base.pq⟩,⟨_,Rg,λj y w L S e3=>?_⟩,λy c e=>?_,I.free,I.gv,λp hp=>?_,λb u e=>?_,by rw[ki];exact I.len⟩
 .exact(hs.2 b (ne b o e)).trans (I.base.keep b o e n hb g)
 .obtain⟨sl,L⟩:=I.base.slot b o e n hb g;exact⟨sl,(hs.2 b (ne b o e)).trans L⟩
 .obtain⟨o1,L⟩:=I.base.there b o e g;exact⟨o1,(hs.2 b (ne b o e)).trans L⟩
 .by_cases hj:j=aa
  .subst hj;have hjl:j<Z.length:=by rw[I.len];exact(gy.mp hi).1
   rw[kW hjl]at S;cases S
  .rw[kY (Ne.symm hj)]at S;obtain⟨u,r,l⟩:=hlk j y w L S e3;refine⟨u,r,?_⟩;rcases l with⟨k,e⟩|⟨k,c,e,z⟩
   .refine .inl ⟨k,?_⟩;have hy:y≠n:=λz=>hj (wO hN L (z▸hi));show(if y=n then v else m y)=some u;rwa[aE hy]
   .exact .inr ⟨k,c,e,z.sameBut hs (I.KJ y c e)⟩
 .obtain⟨w,z⟩:=I.cell y c e;exact⟨w,z.sameBut hs (I.KJ y c e)⟩
 .obtain⟨e,n2,ne2,nf,d⟩:=I.pin p hp;exact⟨(hs.2 p.1 ne2).trans e,n2,ne2,nf,d⟩
 .refine(I.cL b u e).sZ (λc w hc z=>(hs.2 c λy=>?_).trans z) (λ_ z=>z) λ_ _ z=>z;subst y;rcases hc with z2|z2
  .rw[<-z2,I.free]at e;cases e
  .rw[I.free]at z2;cases z2
theorem cc.none:cc K B H Z (List.replicate Z.length .no):=by
 have no:∀(i:Nat) (c:Cell),(List.replicate Z.length Cell.no)[i]?=some c->c=.no:=λi c e=>by
  rw[sC]at e;split at e
  .exact(Option.some.inj e).symm
  .cases e
 exact⟨we,(λi t e=>by cases no i _ e),(λi ts e=>by cases no i _ e),(λi j ts us D _ e=>by cases no i _ e)⟩
def cc.unset (h:cc K B H Z Y)(n:fY Y)(i:Nat):cc K B H (Z.set i Option.none) (Y.set i .no):=by
 refine⟨by rw[ki,ki];exact h.len,λj t e=>?_,λj ts e=>?_,λj k ts us D _ e=>?_⟩
 .rcases fB e with⟨_,_,z⟩|⟨L,e⟩
  .cases z
  .obtain⟨v,b,r⟩:=h.sh j t e;exact⟨v,by rwa[kY L],r⟩
 .rcases fB e with⟨_,_,z⟩|⟨L,e⟩
  .cases z
  .exact absurd e (n j ts)
 .rcases fB e with⟨_,_,z⟩|⟨L,e⟩
  .cases z
  .exact absurd e (n j ts)
def fY.unset (h:fY Y)(i:Nat):fY (Y.set i .no):=λj ts e=>by
 rcases fB e with⟨_,_,z⟩|⟨L,e⟩
 .cases z
 .exact h j ts e
noncomputable abbrev Cx.kE (X:Cx)(pn:List (Addr×Obj))(E':Value->Shared->Prop):Cx:={X with pn:=pn,xe:=E'}
noncomputable abbrev Cx.pQ (X:Cx)(pn:List (Addr×Obj))(e:Value):Cx:={X with A:=X.A.mark (some e),calm:=false,pn:=pn,xe:=λ_ _=>False}
theorem Cx.Ok.kE {X:Cx}{pn:List (Addr×Obj)}{b:Value->Shared->Prop}(ok:X.Ok):(X.kE pn b).Ok:=⟨ok.mod,ok.kind,ok.glob,ok.blt,ok.above,ok.inj,ok.has,ok.M_,ok.hd,ok.frames,ok.Kv,ok.Rf,ok.bs,ok.F8,ok.AO,ok.AQ,ok.qO,ok.Hq⟩
def Cx.Ok.lW {X:Cx}{pn:List (Addr×Obj)}(ok:(X.kE pn b).Ok):X.Ok:=⟨ok.mod,ok.kind,ok.glob,ok.blt,ok.above,ok.inj,ok.has,ok.M_,ok.hd,ok.frames,ok.Kv,ok.Rf,ok.bs,ok.F8,ok.AO,ok.AQ,ok.qO,ok.Hq⟩
theorem Cx.Ok.pQ {X:Cx}{pn:List (Addr×Obj)}{e:Value}(ok:X.Ok):(X.pQ pn e).Ok:=⟨ok.mod,ok.kind,ok.glob,ok.blt,ok.above,ok.inj,ok.has,ok.M_,(λz=>by cases z),ok.frames,ok.Kv,ok.Rf,ok.bs,ok.F8,ok.AO,ok.AQ,ok.qO,ok.Hq⟩
theorem Inv.kE (I:Inv X U Z H s):Inv (X.kE (X.pn++U) b) [] Z H s:=⟨I.ok.kE,I.os,I.bare,I.base,I.loc,I.cell,I.free,I.gv,λp L=>I.pin p (by simpa using L),I.cL,I.len⟩
theorem Inv.lW {X:Cx}(I:Inv (X.kE (X.pn++U) b) [] Z H s):Inv X U Z H s:=⟨I.ok.lW,I.os,I.bare,I.base,I.loc,I.cell,I.free,I.gv,λp L=>I.pin p (by simpa using L),I.cL,I.len⟩
theorem Inv.pQ {X:Cx}(I:Inv (X.kE pn b) [] Z H s):Inv (X.pQ pn e) [] Z H s:=⟨I.ok.lW.pQ,I.os,I.bare,I.base,I.loc,I.cell,I.free,I.gv,I.pin,I.cL,I.len⟩
def Inv.IQ {X:Cx}(ok:X.Ok)(I:Inv (X.pQ (X.pn++U) e) [] Z H s):Inv X U Z H s:=⟨ok,I.os,I.bare,I.base,I.loc,I.cell,I.free,I.gv,λp L=>I.pin p (by simpa using L),I.cL,I.len⟩
theorem SP.lW {X:Cx}(h:SP (X.kE (X.pn++U) b) [] D f s):SP X U D f s:=by
 cases f with
 |next=>obtain⟨dy,H',I,q⟩:=h;exact⟨dy,H',I.lW,q⟩
 |brk=>obtain⟨dy,H',I,q⟩:=h;exact⟨dy,H',I.lW,q⟩
 |cont=>obtain⟨dy,H',I,q⟩:=h;exact⟨dy,H',I.lW,q⟩
 |ret u=>obtain⟨v,dy,H',I,r,q⟩:=h;exact⟨v,dy,H',I.lW,r,q⟩
structure qD(K:Frag)(mg:Str->Option Value)(c:Str)(xs:List Str):Prop where
 mg:mg c=some (.ref (clsAt K c))
 all:∀x∈xs,PySem.W.exmOne K (.ref (clsAt K x)) (.ref (clsAt K c))=some true
noncomputable def TK(N i:Nat)(xs:List Str)(x:Str)(A:Ab)(b:bW->Ab->Rz Out):Rz Out:=if xs.contains x=true then match b ((List.replicate N Cell.no).set i (.sh (.at A.length))) (A++[.CN x])with
 |.ok (.nx Y) A=>.ok (.nx (Y.set i .no)) A
 |.ok (.ret t) A=>.ok (.ret t) A
 |_=>.bad
 else .bad
def BW(N i:Nat)(xs:List Str)(r:Rz Out)(b:bW->Ab->Rz Out):Rz Out:=match r with
 |.ok o A=>.ok o A
 |.exc (.str x) A=>TK N i xs x A b
 |_=>.bad
theorem NG.TL (u:NG h0 H h a c):PySem.W.Looks (model P w) h (typeOf (.ref a)) c:=by
 obtain⟨⟨L,vs,a0,he,rfl,_⟩,_,_⟩:=u;exact(mD (M:=model P w) (part:=none) he).andThen (f:=λo:Obj=>pure o.cls) .now
theorem IS{X:Cx}{i:Nat}{vv:List Stmt}(Tc:qD X.K X.mg c xs)(hb:∀pn E',yb (X.kE pn E') body (tZ (X.kE pn E') G))(hs:∀pn e,yb (X.pQ pn e) (st::vv) (tZ (X.pQ pn e) G2))(hN:X.N.Nodup)(hi:X.N[i]?=some n)(hl:X.env.scope.names.lookup n=some .local)
  (cU:X.stack=X.env::X.outer) (hf:X.env.frame=some X.env.locals) (hx:X.ex=[]) (KO:CV X n) (hg:Gl X c) (iH:Db c):
  PS X (.Try body [.ExceptHandler (some (.Name c tp)) (some n) (st::vv) hp] [] [] pos) (tZ X λY A=>BW X.N.length i xs (G Y A) G2):=by
 intro U s Z H D I ⟨B0,H0,B,A,Y,Hh,g,ha,r,no,q⟩;have M:=I.ok;refine wpAny_Try_except (d8 (hb (X.pn++U) _ [] s Z H D I.kE ⟨B0,H0,B,A,Y,Hh,g,ha,r,no,?_⟩) (λf s1 h1=>?_) λe s1 z=>z)
 .have b:ip (XE X B0 H0) (BW X.N.length i xs (G Y A) G2) (y3 X D B0 H0):=q;cases eG:G Y A with
  |bad=>rw[eG]at b;exact fe b
  |ok o L=>rw[eG]at b;cases o<;>exact b
  |exc t L=>
   rw[eG]at b;cases t with
   |str x=>
    obtain⟨WH,S⟩:=g7 b;intro B' H' g' lP e s1 xs1;obtain⟨a,UZ,h0,rfl,C⟩:=xs1.cau;refine Me C hx cU hf M.frames λs3 C3 T3=>?_
    refine wpAny_handleBy_cons (codeAny_handlers_test ?_) (by intro z;cases z);refine wc M.kind hg (Calls.loadGlobal_global (by rw[M.glob];exact M.mod.glob.keeps C3.inv.bk) Tc.mg ?_) iH;refine PySem.W.exm_one C3.inv.nt C3.Fd.TL (Tc.all x (by simpa using WH)) _ _ _ s3 (λ_ _ z=>z) ?_
    refine codeAny_handlers_suite_as ?_
    refine GI C3 T3 hx λs4 C4 T4=>?_
    refine hide λP go=>?_
    obtain⟨YH,hc4,he4,I4⟩:=C4.TJ hx;refine go ?_
    have YI:H' a=none:=C4.Fd.fr;refine wQ (X:=X.kE (X.pn++U) _) I4 hN hi (.inl hl) (v:=.ref a) rfl (λs5 I5=>?_) KO;have g5:=lP.push (p:=a) (o:=.CN x) YI (aI.upd YI) ⟨qB,YH,bA,hc4⟩;have c6:UZ.length=X.N.length:=C4.inv.len;have r5:cc X.K (pJ B' a L.length) (upd H' a (.ext λh=>h.get? a=some YH)) (UZ.set i (some (.ref a))) ((List.replicate X.N.length Cell.no).set i (.sh (.at L.length))):=by
     rw[<-c6];exact cc.none.set i (.at ij)
    have no5:fY ((List.replicate X.N.length Cell.no).set i (.sh (.at L.length))):=fY.set (λj ts z=>by
     rw[sC]at z;split at z<;>cases z) i _
    have key:ip (λ_ _=>False) (G2 ((List.replicate X.N.length Cell.no).set i (.sh (.at L.length))) (L++[.CN x])) λo A2=>match o with
      |.nx Y=>y3 X D B0 H0 (.nx (Y.set i .no)) A2
      |.ret t=>y3 X D B0 H0 (.ret t) A2
      |_=>False:=by
     cases e2:G2 ((List.replicate X.N.length Cell.no).set i (.sh (.at L.length))) (L++[.CN x])with
     |bad=>simp only[e2]at S;exact S
     |exc c1 A2=>simp only[e2]at S;exact S
     |ok o A2=>
      simp only[e2]at S;cases o<;>exact S
    refine d8 (hs (X.pn++U) (.ref a) [] s5 _ _ {nx:=λAF H2=>D.nx (AF.set i none) H2,rt:=D.rt} I5.pQ ⟨B0,H0,pJ B' a L.length,L++[.CN x],_,Hh,g'.trans Hh g5.1,g5.2,r5,no5,?_⟩) (λf s6 h6=>?_) λ_ _ z=>(show False from z).elim
    .refine(key.imp λ_ _ z=>z.elim).mono λo A2 z=>?_
     cases o with
     |nx gO=>exact λAF B2 H2 g2 pM r2 n2=>z (AF.set i none) B2 H2 g2 pM (r2.unset n2 i) (n2.unset i)
     |ret t=>exact z
     |_=>exact z.elim
    .cases f with
     |next=>
      obtain⟨VL,H6,I6,q6⟩:=h6;exact ze (I6.IQ M) hN hi hl λs7 I7=>⟨_,H6,I7,q6⟩
     |ret u=>
      obtain⟨v,VL,H6,I6,rv,q6⟩:=h6;exact ze (I6.IQ M) hN hi hl λs7 I7=>⟨v,_,H6,I7,rv,q6⟩
     |_=>obtain⟨_,_,_,z⟩:=h6;exact fe z
   |_=>exact fe b
 .cases f with
  |next=>exact sQ h1.lW
  |_=>exact h1.lW
structure PV(X:Cx)(pos:Pos)(keys:List (Option Expr))(vals:List Expr)(P:bW->Ab->Rz (List (Tr×Tr))):Prop where
 h:∃A8,Rl X pos keys vals A8/\∀Z H Q,(∃B A Y,HA X.K B A H/\cc X.K B H Z Y/\fY Y/\ip (XE X B H) (P Y A) λPk A'=>∀LV B' H',Grows B H B' H'->HA X.K B' A' H'->BB X.K (bJ B' H') LV Pk->Q LV H')->w8 A8 Z H Q
def DO:PV X pos [] [] λ_ A=>.ok [] A:=⟨[],EH,λZ H Q ⟨B,A,Y,ha,r,n,q⟩=>q [] B H .refl ha .nil⟩
def IT(k:Rz Tr)(v:Ab->Rz Tr)(r:Ab->Rz (List (Tr×Tr))):Rz (List (Tr×Tr)):=k.bind λx A=>(v A).bind λy A=>(r A).bind λps A=>.ok ((x,y)::ps) A
def IU(b:PE X k (tE X F))(g:PE X c7 (tE X G))(I:PV X pos keys vals P):PV X pos (some k::keys) (c7::vals) λY A=>IT (F Y A) (G Y) (P Y):=by
 obtain⟨A8,h1,h2⟩:=I.h;refine⟨_,A9 b g h1,λZ H Q ⟨B,A,Y,ha,r,n,q⟩=>?_⟩;refine⟨B,A,Y,ha,r,n,(ip.bind q).mono λx L M u B1 H1 g1 S r1=>⟨B1,L,Y,S,r.grow n g1,n,((ip.bind M).imp λc A' z=>z.grow ha.hb g1).mono λy A2 qy w B2 H2 g2 pM r2=>h2 _ _ _ ⟨B2,A2,Y,pM,(r.grow n g1).grow n g2,n,((ip.bind qy).imp λc A' z=>z.grow ha.hb (g1.trans ha.hb g2)).mono λps A3 qp LV B3 H3 g3 Hi r3=>?_⟩⟩⟩;exact qp _ B3 H3 ((g1.trans ha.hb g2).trans ha.hb g3) Hi (.cons ((r1.same g2.lQ).same g3.lQ) (r2.same g3.lQ) r3)
def YJ(A:Ab)(i:Nat):Bool:=match A[i]? with
 |some (.bh [])=>true
 |_=>false
def PX(P:Ab->Rz (List (Tr×Tr)))(A:Ab):Rz Tr:=(P (A++[.bh []])).bind λps L=>if ps.length<=15/\YJ L A.length=true then(lx (xr ps) L).bind λbg L=>.ok (.at A.length) (L.set A.length (.bh (lT [] bg)))else .bad
theorem Mf(h:PV X pos keys vals P)(zz:keys.all (·.isSome)=true:=by rfl) (hl:keys.length=vals.length:=by rfl) (h0:keys.isEmpty=false:=by rfl) (OR:keys.length<=15:=by decide):PE X (.Dict keys vals pos) (tE X λY A=>PX (P Y) A):=by
 obtain⟨A8,h1,h2⟩:=h.h;refine(EI h1 zz hl (λz=>by rw[z]at h0;cases h0) OR).weak λZ H Q ⟨B,A,Y,ha,r,n,q⟩ p hp=>?_
 obtain⟨g1,kS⟩:=ha.push (p:=p) (o:=.bh []) hp (aI.upd (o:=.dK []) hp) ⟨qB,[],bA,.nil⟩;have qS:(pJ B p A.length).ix p=some A.length:=ij;refine h2 Z _ _ ⟨_,_,Y,kS,r.grow n g1,n,((ip.bind q).imp λc A' z=>z.grow ha.hb g1).mono λPk A2 L LV B2 H2 g2 pM r2=>?_⟩;obtain⟨⟨hz,he⟩,L⟩:=g7 L;have g:=g2.lQ.x _ _ qS;have I:A2[A.length]?=some (.bh []):=by
  unfold YJ at he;split at he
  .assumption
  .cases he
 obtain⟨hd,YK,e0,M⟩:=(show rG X.K B2 H2 p (.bh [])from pM.get g I);have S:YK=[]:=by
  have e:=M.keys;cases YK with
  |nil=>rfl
  |cons a b=>cases e
 subst S;cases ep:xr Pk with
 |ok bg=>
  rw[ep]at L;obtain⟨kvs,TM,k1,e1,rd⟩:=yY (X:=X) (H0:=H2) (k:=λz=>z=bg) r2 (by rw[ep];rfl);subst k1;refine⟨e0,kvs,e1,?_,?_⟩
  .have e2:=cR List.length e1;rw[aY,r2.length]at e2;rwa[<-e2]
  .obtain⟨g4,h6⟩:=pM.write (o:=.bh (lT [] TM)) (u:=.dK (iL [] kvs)) g ⟨hd,_,bA,by rw[jb hd];exact dQ.merge rd dQ.nil⟩;exact(show∀v B' H',Grows B H B' H'->HA X.K B' (A2.set A.length (.bh (lT [] TM))) H'->Rep X.K (bJ B' H') v (.at A.length)->Q v H' from L) (.ref p) B2 _ ((g1.trans ha.hb g2).trans ha.hb g4) h6 (.at g)
 |_=>rw[ep]at L;exact fe L
def DP{W:bW->Rs (List Tr)}(hT:qR T)(q:tF X (λY=>yR ix T A F (W Y) Y) Z H Q):Rn (tJ X W) ix (Nw X.K T) (Nv X.K A) (Nu X.K F) Z H (λv H'=>kB X H' (Q v)):=by
 obtain⟨B,Y,hb,r,q⟩:=q;refine⟨B,Y,hb,r,q.bind.mono λts L J H1 b gt D g=>?_⟩;by_cases I:ts.length<=cX
 .rw[ay I]at L;exact vR hT (vQ ix Y) (b.hb hb) gt I ((b.IF r).comp ix (ky g)) g (Fi.bind L) λys H' k s' M=>by
   obtain⟨Hu,su,S,ku⟩:=b.NI hb s';exact ku _ (k _ Hu su (S M) λp e=>by cases e;exact .lst (b.free g) (S M))
 .rw[aE I]at L;exact L.elim
def IV{i:Nat}(b:ji X N' ix scope)(hit:QJ X tg c7 W)(I:Bm X scope N' tg elt ifs T A F)(M:qR T)(S:X.N.Nodup:=by assumption) (hc:X.calm=true:=by rfl) (hi:X.N[i]?=some x:=by rfl) (hx:Loc X.env.scope x:=by first|exact Or.inl rfl|exact Or.inr rfl) (O1:swapsWith (.ListComp elt [⟨tg,c7,ifs,0⟩] scope pos) (some (.Name x px)) ah.line X.env=pure true:=by rfl) (hs:isSet c7=false:=by rfl) (hf:CV X x:=by first|exact .inl rfl|exact .inr rfl|assumption):ZS X (.Assign [.Name x px] (.ListComp elt [⟨tg,c7,ifs,0⟩] scope pos) ah) (λY A'=>Gw i (uM (yR ix T A F (W (eJ A' Y)) (eJ A' Y)) A') Y):=⟨(xi b hc S hi hx hit.h I.to.Rp O1 (iM hs) hf).Tj.weak λD Z H ⟨B0,H0,B,A',Y,hb,g,ha,r,n,q⟩=>DP (Q:=λv H'=>D.nx (Z.set i (some v)) H') M (rH (F:=λY=>yR ix T A F (W Y) Y) (pL (F:=λY A'=>uM (yR ix T A F (W (eJ A' Y)) (eJ A' Y)) A') hb g ha r n q.bind λt A2 v B' H' L g' lP r' rv _=>L _ B' H' g' lP (r'.set i rv) (n.set i t)))⟩
def WR(r:Rz Tr):Rz Bool:=r.bind λt A=>lx (lR t) A
def PY(h:ZE X a F)(he:uI a=true:=by rfl):ZT X a (λY A=>WR (F Y A)):=⟨(AS h.h (xl he)).weak λZ H Q ⟨B,A,Y,ha,r,n,q⟩=>⟨B,A,Y,ha,r,n,q.bind.mono λt M L v B1 H1 g1 g I=>by
  obtain⟨b,h1,h2⟩:=tV (I.same eX) (pK (X:=X) (H:=H1) L);exact⟨b,h1,h2 B1 H1 g1 g⟩⟩⟩
def WS(r:Rz Bool):Rz Bool:=r.bind λb A=>.ok (!b) A
def PZ(h:ZT X a P):ZT X (.UnaryOp .Not a pos) (λY A=>WS (P Y A)):=⟨(Hr h.h).weak λZ H Q ⟨B,A,Y,ha,r,n,q⟩=>⟨B,A,Y,ha,r,n,q.bind⟩⟩
def TN:QS X st (λ_=>.bad):=⟨λ_ _ _ _ _ _ ⟨_,_,_,_,_,_,_,q⟩=>(show False from q).elim⟩
open PySem.W
structure z7(K:Frag)(D:Addr):Prop where
 ga:findIn K (.ref D) "__getattribute__"=some (some (.builtin "BaseException.__getattribute__"))
 gh:findIn K (.ref D) "__getattr__"=some none
 cl:findIn K (.ref D) "__class__"=some (some (.builtin "object.__class__"))
 ob:mroIn K D (.type "object")=some true
 be:mroIn K D (.type "BaseException")=some true
theorem P0{g:Array GenState}{d:Drawn}{os:OsState}{a:Addr}{K:Frag}{R:Result->Shared->Prop}{b:Value}(G:z7 K D)(X:K.In h)(q:h.get? a=some o)(r:o.cls=.ref D)(S:R (.ok (.ret (.ref D))) ⟨h,g,d,aa,os⟩):
  codeAny (model prog w) A (.call (.builtin "getset_descriptor.__get__") ⟨[.builtin "object.__class__",.ref a,b],[]⟩) R ⟨h,g,d,aa,os⟩:=by
 have I:(⟨h,g,d,aa,os⟩:Shared).TypeIs (.builtin "object.__class__") "getset_descriptor":=wt;have L:Looks (model prog w) h (typeOf (.ref a)) (.ref D):=r▸(mD q).andThen .now;have M:Looks (model prog w) h (isSubtype (.ref D) (.type (".".intercalate ("object.__class__".cutAt '.').dropLast))) true:=by rw[show".".intercalate ("object.__class__".cutAt '.').dropLast="object" by decide];exact looks_mroIn X G.ob
 refine codeAny_call_builtin F.slot_gs_get.plain F.entry_gs_get (F.slot_gs_get.check _ _ _ _ _ _ _ _ I (F.args_gs_get _ _ _) ?_)
 repeat(any_goals (first|assumption|(with_reducible refine L.at ?_)|(with_reducible refine M.at ?_)|wp_step))
 refine⟨Code.quiet_builtin _ (by decide),lh F.entry_object_class ?_⟩
 repeat(any_goals (first|assumption|(with_reducible refine L.at ?_)|wp_step))
theorem IW{g:Array GenState}{d:Drawn}{os:OsState}{a:Addr}{K:Frag}{Q:Fin->Shared->Prop}(G:z7 K D)(X:K.In h)(b:h.get? a=some o)(q:o.cls=.ref D)(I:Q (.done (.ret (.ref D))) ⟨h,g,d,aa,os⟩):
  wpAny (model prog w) A (Builtin.«object.__getattribute__» ⟨[.ref a,.str "__class__" S],[]⟩) Q E ⟨h,g,d,aa,os⟩:=by
 have L:Looks (model prog w) h (typeOf (.ref a)) (.ref D):=q▸(mD b).andThen .now;have r:=sR (M:=model prog w) X G.cl;have YL:(⟨h,g,d,aa,os⟩:Shared).TypeIs (.builtin "object.__class__") "getset_descriptor":=wt;have f5:=wt;have f6:=F.slot_gs_get.lookup;have f7:=F.slot_gs_set.lookup
 repeat(any_goals (first|assumption|(with_reducible refine L.at ?_)|(with_reducible refine r.at ?_)|wp_step))
 refine P0 G X b q ?_
 repeat(any_goals (first|assumption|wp_step))
theorem IX{g:Array GenState}{d:Drawn}{os:OsState}{a:Addr}{K:Frag}{b:Value}(G:z7 K D)(X:K.In h)(q:h.get? a=some o)(r:o.cls=.ref D)(S:ac () ⟨h,g,d,aa,os⟩):wpAny M A (checkBuiltinCall "BaseException.__getattribute__" ⟨[.ref a,b],[]⟩) ac E ⟨h,g,d,aa,os⟩:=by
 have L:Looks M h (typeOf (.ref a)) (.ref D):=r▸(mD q).andThen .now;have I:=looks_mroIn (M:=M) X G.be;have k1:builtinKind "BaseException.__getattribute__"=some .slot:=by decide
 have k2:splitId "BaseException.__getattribute__"=some ("BaseException","__getattribute__"):=by decide
 have ha:=F.args_bexc_ga (.ref a) b;simp only[checkBuiltinCall,k1,k2];refine aM ?_
 unfold isInstance
 repeat(any_goals (first|assumption|(with_reducible refine L.at ?_)|(with_reducible refine I.at ?_)|wp_step))
theorem Mg{g:Array GenState}{d:Drawn}{os:OsState}{a:Addr}{K:Frag}{R:Result->Shared->Prop}(G:z7 K D)(X:K.In h)(b:h.get? a=some o)(q:o.cls=.ref D)(r:R (.ok (.ret (.ref D))) ⟨h,g,d,aa,os⟩):
  codeAny (model prog w) A (.call (.builtin "BaseException.__getattribute__") ⟨[.ref a,.str "__class__" I],[]⟩) R ⟨h,g,d,aa,os⟩:=
 codeAny_call_builtin (by decide) F.entry_bexc_ga (IX G X b q (IW G X b q r))
theorem TQ{g:Array GenState}{d:Drawn}{os:OsState}{a:Addr}{K:Frag}(FB:Slot "ValueError" "__getattribute__" "BaseException.__getattribute__")(G:z7 K D)(X:K.In h)(b:h.get? a=some o)(q:o.cls=.ref D)(I:ae (.ref D) ⟨h,g,d,aa,os⟩):
  wpAny (model prog w) A (getAttrBy (.ref a) (.str "__class__" S) false) ae E ⟨h,g,d,aa,os⟩:=by
 have L:Looks (model prog w) h (typeOf (.ref a)) (.ref D):=q▸(mD b).andThen .now;have r:=sR (M:=model prog w) X G.ga;have L2:=sR (M:=model prog w) X G.gh;have f3:=FB.bind (.ref a);have k0:onTheHeap (Value.builtin "BaseException.__getattribute__")=false:=rfl;have k2:(Value.builtin "BaseException.__getattribute__"==Value.builtin "object.__getattribute__")=false:=by decide
 have k1:(onTheHeap (Value.ref D)&&Value.builtin "BaseException.__getattribute__"==Value.builtin "object.__getattribute__")=false:=by rw[k2];rfl
 repeat(any_goals (first|assumption|(with_reducible refine L.at ?_)|(with_reducible refine r.at ?_)|(with_reducible refine L2.at ?_)|wp_step))
 refine Mg G X b q ?_
 repeat(any_goals (first|assumption|wp_step))
def Mh{g:Array GenState}{d:Drawn}{os:OsState}{a:Addr}{K:Frag}{Q:Option Value->Shared->Prop}(FB:Slot "ValueError" "__getattribute__" "BaseException.__getattribute__")(G:z7 K D)(X:K.In h)(b:h.get? a=some o)(q:o.cls=.ref D)(r:Q (some (.ref D)) ⟨h,g,d,aa+1,os⟩):
  wpAny (model prog w) A (getAttr? (.ref a) "__class__") Q E ⟨h,g,d,aa,os⟩:=by
 unfold getAttr? getAttrBy?
 repeat(any_goals (first|assumption|with_reducible apply TQ FB G X b q|wp_step))
theorem IY{K:Frag}(G:z7 K D)(b:(clsIn K D).isSome=true):KitX K (.ref a) (.ref D) (λh=>∃o,h.get? a=some o/\o.cls=.ref D) where
 ty:=λM h X ⟨o,L,r⟩=>r▸(mD L).andThen .now
 it:=λM h X _=>by
  unfold clsIn at b;split at b
  .rename_i c' d' I RW S;intro A' Q' E' s' k q;unfold isType loadHead;exact aM (wpAny_loadPart (k _ _ (X _ _ S)) (bo q))
  .cases b
 ne:=λh tp dd bM n sl X htp=>by
  refine wz.mpr λq=>?_
  have e:D=tp:=Value.ref.inj (fG.mp q);subst e;unfold clsIn at b;split at b
  .rename_i c' d' I RW S;cases(X _ _ S).symm.trans htp
  .cases b
 ca:=λ{prog w A E Q s} X ⟨o,L,r⟩ k=>by
  obtain⟨h,g,d,t,os⟩:=s;exact Mh F.excAttr_ValueError.ga G X L r k
structure jD(K:Frag)(u:Value)(tab:List (Str×Bool)):Prop where
 all:∀x b,tab.lookup x=some b->kitOne K (.ref (clsAt K x)) u=some b/\z7 K (clsAt K x)/\(clsIn K (clsAt K x)).isSome=true
noncomputable def Mi(tab:List (Str×Bool)):Tr->Rs Tr
 |.yN x=>match tab.lookup x with
  |some b=>.ok (.bl b)
  |none=>.bad
 |_=>.bad
def BX{X:Cx}{tab:List (Str×Bool)}(T:jD X.K u tab)(S:∀u',RelV cv u'->u'=u):gY X (.builtin "isinstance") (λxs H Q=>∃B y t,HB B H/\xs=[y,cv]/\Rep X.K (bJ B H) y t/\Fi X H (Mi tab t) λt=>∀v H',aI H H'->Rep X.K (bJ B H') v t->Q v H'):=by
 intro U s Z H xs us Q I r ⟨B,y,t,hb,ex,ry,q⟩;subst ex;obtain⟨v,w',rfl,r1,r2⟩:=vals2 r;cases S w' r2;cases ry with
 |@yN a M x h hc=>
  cases r1;have L:=q;unfold Mi at L;dsimp only at L;cases g:tab.lookup x with
  |none=>rw[g]at L;exact fe L
  |some b=>
   rw[g]at L;obtain⟨k1,k2,k3⟩:=T.all x b g;obtain⟨ho,_⟩:=(show cN X.prog X.w H s.heap a (.ext λh=>h.get? a=some M)from I.cL a _ (dO h));exact eV (IY k2 k3) I.nt ⟨M,ho,hc⟩ k1 (λz=>nomatch z) λtk=>⟨.bl b,H,I.tok _,rfl,(show∀v H',aI H H'->Rep X.K (bJ B H') v (.bl b)->Q v H' from L) _ H (aI.refl H) (.bl b)⟩
 |_=>exact fe q
def BY(b:PE X (.Name c g) (tC cv))(he:PE X e (tP X F))(cU:isStar e=false):PA X [e,.Name c g] (λZ H Q=>∃B Y,HB B H/\cc X.K B H Z Y/\Fi X H (F Y) λt=>∀v H',aI H H'->Rep X.K (bJ B H') v t->Q [v,cv] H'):=
 (qm he (qm b wY (bE _ _ rfl)) (bE _ _ cU)).weak λZ H Q ⟨B,Y,hb,r,q⟩=>⟨B,Y,hb,r,q.mono λt L v H1 s1 I=>L v H1 s1 I⟩
def lX{X:Cx}{tab:List (Str×Bool)}(T:jD X.K (.ref (clsAt X.K c)) tab)(hm:X.mg c=some (.ref (clsAt X.K c)))(hi:X.mg "isinstance"=none)(he:QE X e F)(b:Gl X c:=by rfl) (g:Gl X "isinstance":=by rfl) (iH:Db c:=by decide) (cU:bK [e,.Name c I]=true:=by rfl):QE X (.Call (.Name "isinstance" p) [e,.Name c I] [] pos) (λY=>(F Y).bind (Mi tab)):=⟨(tD (BX (cv:=.ref (clsAt X.K c)) T λu' z=>z) g hi rfl (BY (zC (v:=.ref (clsAt X.K c)) b hm rfl iH) he.h (aK cU).1) (by decide) (by decide) (bE _ _ (aK cU).1) (cq (aK cU).2)).weak λZ H Q ⟨B,Y,hb,r,q⟩=>⟨B,Y,hb,r,q.bind.mono λt L v H1 s1 rv=>⟨B,v,t,hb.same s1,rfl,rv,(L.same s1).mono λt k v H2 s2 M=>k v H2 (s1.trans s2) M⟩⟩⟩
def P4{X:Cx}{tab:List (Str×Bool)}(T:jD X.K (.type n) tab)(hm:X.mg c=none)(hi:X.mg "isinstance"=none)(he:QE X e F)(b:bootBuiltins c=some (.type n):=by rfl) (g:Gl X c:=by rfl) (I:c≠"__name__":=by decide) (M:Gl X "isinstance":=by rfl) (iH:Db c:=by decide) (cU:bK [e,.Name c S]=true:=by rfl):QE X (.Call (.Name "isinstance" p) [e,.Name c S] [] pos) (λY=>(F Y).bind (Mi tab)):=⟨(tD (BX (cv:=.ty n) T λu' z=>z) M hi rfl (BY (Ex (v:=.ty n) g hm b rfl I iH) he.h (aK cU).1) (by decide) (by decide) (bE _ _ (aK cU).1) (cq (aK cU).2)).weak λZ H Q ⟨B,Y,hb,r,q⟩=>⟨B,Y,hb,r,q.bind.mono λt L v H1 s1 rv=>⟨B,v,t,hb.same s1,rfl,rv,(L.same s1).mono λt k v H2 s2 r2=>k v H2 (s1.trans s2) r2⟩⟩⟩
noncomputable def ra:List Tr->Option (List Int)
 |[]=>some []
 |.int i::ts=>(ra ts).map λr=>i::r
 |_=>none
theorem zf:∀{vs:List V} {ts:List Tr} {ns:List Int},bp K W vs ts->ra ts=some ns->vs=ns.map V.int
 |[],[],ns,_,e=>by cases e;rfl
 |[],_::_,_,h,_=>by cases h
 |v::vs,ts,ns,h,e=>by
  cases h with
  |cons h r=>
   cases h with
   |int i=>
    rename_i ts;have L:(ra ts).map (λr=>i::r)=some ns:=e;cases q:ra ts with
    |none=>rw[q]at L;cases L
    |some rs=>
     rw[q]at L;cases L;rw[zf r q];rfl
   |_=>cases e
noncomputable def rb(ns:List Int):Int:=ns.getD (argBest (λi j=>decide (ns.getD i 0>ns.getD j 0)) (ns.length - 1)) 0
def IZ:List Tr->Rs Tr
 |[.lst ts]=>match ra ts with
  |some ns=>if 0<ns.length then .ok (.int (rb ns))else .bad
  |none=>.bad
 |[.int i,.int j]=>.ok (.int (if j>i then j else i))
 |_=>.bad
theorem GJ{X:Cx}(hc:X.calm=true):gY X (.builtin "max") (λxs H Q=>∃(a:Addr) (ns:List Int),xs=[.ref a]/\lj X.K H a (ns.map V.int)/\0<ns.length/\Q (.int (rb ns)) H):=by
 intro U s Z H xs us Q I r h;obtain⟨a,ns,rfl,ha,iO,q⟩:=h;obtain⟨u,rfl,L⟩:=vals1 r;cases(show u=Value.ref a from L);obtain⟨bM,rv,pl,_⟩:=I.list ha;have M:bM.length=ns.length:=by have e:=rv.length;rw[aY]at e;exact e.symm
 have S:∀(i:Nat) (v:Value),bM.toArray[i]?=some v->∃t,v=.int (ns.getD i 0) t:=λi v hv=>by
  have Kw:bM[i]?=some v:=by simpa using hv
  have hi:i<ns.length:=by rw[<-M];exact(gy.mp Kw).1
  obtain⟨u,hu,L⟩:=rv.get (i:=i) (x:=V.int ns[i]) (by rw[b_,cI hi];rfl);rw[Kw]at hu;cases hu;obtain⟨t,rfl⟩:=(show∃t,v=Value.int ns[i] t from L);exact⟨t,by rw[p9,cI hi];rfl⟩
 have g:=pl.isList;have jP:a<s.heap.objs.size:=by obtain⟨_,e,_⟩:=g;exact bD e
 refine call_max_walk (mv g ?_);refine⟨_,_,_,_,_,_,_,rfl,Walks.list (A:=X.A.in1) (I.ok.hd hc) _ a (cY jP) bM.toArray,⟨⟨_,cQ _ rfl,rfl,rfl⟩,g.push _⟩,λb hb=>?_,by simpa[M]using iO,CmpOf.ints_gt (λi=>ns.getD i 0) S,λv h' tk hP hk=>?_⟩
 .show b<(s.heap.push _).objs.size;rw[pd];rcases a_.mp hb with rfl|hb
  .exact sO _
  .rw[cz.mp hb];exact wy jP
 .obtain⟨t,rfl⟩:=S _ v hP;have e:bM.toArray.size=ns.length:=by rwa[cE]
  rw[e];refine⟨.int (rb ns),H,I.kept (t':=tk) λb o e=>?_,⟨t,rfl⟩,q⟩;refine hk b o (λhm=>?_) (cu _ e);rw[cz.mp hm]at e;exact absurd (bD e) (fE _)
def I0(q:Fi X H (IZ ts) k):(∃us ns,ts=[.lst us]/\ra us=some ns/\0<ns.length/\k (.int (rb ns)))\/∃i j:Int,ts=[.int i,.int j]/\k (.int (if j>i then j else i)):=by
 unfold IZ at q;split at q
 .rename_i us;cases e:ra us with
  |none=>rw[e]at q;exact fe q
  |some ns=>
   rw[e]at q;obtain⟨h0,z⟩:=h_ q;exact .inl ⟨us,ns,rfl,e,h0,z⟩
 .exact .inr ⟨_,_,rfl,q⟩
 .exact fe q
def NQ{X:Cx}(b:X.calm=true):mL X (.builtin "max") IZ:=by
 intro U s Z H xs us Q I L ⟨B,ts,hb,r,q⟩;rcases I0 q with⟨g,ns,rfl,e,h0,k⟩|⟨i,j,rfl,k⟩
 .obtain⟨x,rfl,h⟩:=fN r;obtain⟨a,vs,rfl,h,rr⟩:=h.lst_inv;cases zf rr e;exact GJ b U s Z H _ us Q I L ⟨_,ns,rfl,.of (dO h),h0,k _ H (aI.refl H) (.int _)⟩
 .obtain⟨x,y,e,h1,h2⟩:=Bj r;exact Gd b U s Z H _ us Q I L ⟨i,j,by rw[e,h1.int_inv,h2.int_inv],k _ H (aI.refl H) (.int _)⟩
def WU:V->List V->Hp->VK->Prop:=λx xs H Q=>∃a b kvs more,x=.ref a/\xs=[.ref b]/\a≠b/\H a=some (.dK kvs)/\Rd H b (.dK more)/\kvs.length+more.length<=sizeLine/\Q .bL (upd H a (.dK (iL kvs more)))
theorem GK:Nj X "dict.update" WU:=by
 intro U s Z H x xs v us Q I M S ⟨a,b,kvs,more,e1,e2,LB,ha,hb,hz,q⟩;subst e1 e2;obtain⟨u,rfl,ru⟩:=vals1 S;cases M;cases(show u=Value.ref b from ru);obtain⟨z1,s1,L,r1,g⟩:=(show cN X.prog X.w H s.heap a (.dK kvs)from I.cL a _ ha);obtain⟨z2,s2,Wy,r2,d2⟩:=(show cN X.prog X.w H s.heap b (.dK more)from hb.ok I.cL);refine ph PySem.F.slot_dict_update g.typeIs PySem.F.entry_dict_update (PySem.F.args_dict_update_2 _ _) (meets_dict_update (bQ X.prog X.w) a b LB s2) ⟨L,Wy,g,d2,by rwa[<-KV.length r1,<-KV.length r2],λh' r _ hs=>?_⟩;have he:∃q,h'.get? a=some q:=let⟨q,_,_,hq,_⟩:=r;⟨q,hq⟩
 have hl:(iL kvs more).length<=sizeLine:=bI (by have:=i_ more kvs;omega) hz;exact⟨.bL,_,tM I (by rw[ha];exact True.intro) hs he (w6 hl s1 (r2.merge r1) r),rfl,q⟩
def WV(o:Rz Tr)(k:Ab->Rz Tr):Rz Tr:=o.bind λt A=>match t with
 |.at i=>if mW A i=true then(k A).bind λL A=>match L with
  |.bh DA=>if mW A i=true/\(oQ A i).length+DA.length<=cX then .ok .bL (A.set i (.bh (lT (oQ A i) DA)))else .bad
  |_=>.bad
  else .bad
 |_=>.bad
theorem TU{cV:Pos}(ho:ZO X o F)(he:ZE X e G)(hb:isCall o=false:=by rfl) (cU:bK [e]=true:=by rfl) (hl:(ah.endLine==cV.line)=true:=by rfl):ZE X (.Call (.Attribute o "update" ah) [e] [] cV) (λY A=>WV (F Y A) (G Y)):=⟨(AY sD PySem.F.slot_dict_update PySem.F.type_dict_update GK ho.h (Ff he.h ID (aK cU).1) (h8 hb) (by rw[hZ cU];rfl) hl (bE _ _ (aK cU).1) (cq (aK cU).2)).weak λZ H Q ⟨B,A,Y,ha,r,n,q⟩=>⟨B,A,Y,ha,r,n,q.bind.mono λt I M v B1 H1 g1 kS rv=>by
  split at M
  .obtain⟨a,rfl,qS⟩:=rv.ny;rename_i i;obtain⟨hd,q2⟩:=g7 M;obtain⟨bg,kvs,e1,e2,e3,e4⟩:=qC kS qS hd;refine⟨.inr (.inr (.inl ⟨rfl,.inl ⟨_,e3⟩⟩)),B1,I,Y,kS,r.grow n g1,n,?_⟩;have g:=(ip.bind q2).imp (λc A' (z:XE X B H c A')=>z.grow ha.hb g1);have step:ip (XE X B1 H1) (Fe (G Y I) λA=>.ok [] A) (λts L=>∃S,ts=[S]/\ip (XE X B H) (match S with
     |.bh DA=>if mW L i=true/\(oQ L i).length+DA.length<=cX then .ok .bL (L.set i (.bh (lT (oQ L i) DA)))else .bad
     |_=>.bad) λt A'=>∀v B' H',Grows B H B' H'->HA X.K B' A' H'->Rep X.K (bJ B' H') v t->Q v H'):=by
    cases eg:G Y I with
    |ok x L=>rw[eg]at g;exact⟨x,rfl,g⟩
    |_=>rw[eg]at g;exact g
   refine step.mono λts L ⟨S,et,qk⟩ vs B2 H2 g2 pM rs=>?_
   subst et;obtain⟨y,rfl,ry⟩:=fN rs;have z6:=g2.lQ.x _ _ qS;split at qk
   .obtain⟨b,WW,rfl,hm,em,rm⟩:=ry.qw;rename_i DA _;obtain⟨⟨hd2,hz⟩,q4⟩:=g7 qk;obtain⟨PQ,IP,f1,f2,f3,f4⟩:=qC pM z6 hd2;rw[z5 f1]at hz q4;have LB:a≠b:=λz=>by
     have n:(bJ B2 H2).H a=none:=by show(if B2.hd a=true then none else H2 a)=none;rw[ay f2]
     rw[<-z]at hm;rcases hm with h|⟨o,h⟩<;>(rw[n]at h;cases h)
    have c6:WW.length=DA.length:=by have:=cR List.length em;rw[aY,aY]at this;exact this
    obtain⟨g4,h6⟩:=pM.write (o:=.bh (lT PQ DA)) (u:=.dK (iL IP WW)) z6 ⟨f2,_,bA,by rw[jb f2];exact dQ.merge ⟨em,rm⟩ f4⟩;exact⟨a,b,IP,WW,rfl,rfl,LB,f3,hm.same bG,by rwa[f4.length,c6,<-iN],q4 .bL B2 _ ((g1.trans ha.hb g2).trans ha.hb g4) h6 .bL⟩
   .exact qk.elim
  .exact M.elim⟩⟩
def YN(ks:List Str):It:=⟨λi _=>i<ks.length,λi H x H'=>H'=H/\∃z,ks[i]?=some z/\x=.str z,λi _=>ks.length<=i⟩
theorem DQ(a it:Addr)(kvs:List (Str×Value))(o:Obj)(es:Array DictEntry)(ep:Nat)(lk:K.lookup a=some o)(ex:o.ExactDict)(hd:o.data=.dict es ep)(hk:KeysOf (PySem.strKind P w) es/\Pairs (PySem.strKind P w) es.toList kvs/\(kvs.map (·.1)).Nodup):Turn P w K tg (YN (kvs.map (·.1))) [it] it (λi h=>h.IsKeyIter it a i kvs.length ep) where
 mem:=by simp
 obj:=λi h st b hb=>by
  have e:b=it:=by simpa using hb
  subst e;obtain⟨o,e,c,d⟩:=st;exact⟨o,e,λv z=>by rw[d]at z;cases z⟩
 keep:=λi h h' st k=>by
  obtain⟨o,e,c⟩:=st;exact⟨o,k it (by simp) o e,c⟩
 item:=by
  intro X L hw g hc i U s Z H E I hf st r;subst L hw g;have hi:i<kvs.length:=by have q:i<(kvs.map (·.1)).length:=r;rw[aY]at q;exact q
  have M:s.heap.get? a=some o:=I.nt a o lk;obtain⟨f0,f1,f2,S,f4,f5⟩:=hf it (by simp);have YO:kvs[i]?=some (kvs[i].1,kvs[i].2):=by simp[hi]
  refine wpAny_pyNext_dict_item (knd:=PySem.strKind X.prog X.w) st ⟨o,es,M,ex,hd,hk⟩ YO λkey h' hk1 zD sb=>?_
  have I1:Inv X U Z H {s with heap:=h'}:=I.turned (t':=s.toks) (λb o hb e=>(sb.2 b hb).trans e) f0 f1 S f4 f5;obtain⟨oi,e,c,d⟩:=id zD;refine⟨key,rfl,yD (s:={s with heap:=h'}) e c d (by decide) ⟨.str kvs[i].1,H,I1,?_,⟨rfl,kvs[i].1,by rw[b_,YO];rfl,rfl⟩,zD,λb hb=>(hf b hb).1⟩⟩;exact uR (k:=.inr kvs[i].1) hk1
 done:=by
  intro X L hw g hc i U s Z H E I hf st r;subst L hw g;have hi:kvs.length<=i:=by have q:(kvs.map (·.1)).length<=i:=r;rw[aY]at q;exact q
  have M:s.heap.get? a=some o:=I.nt a o lk;obtain⟨f0,f1,f2,S,f4,f5⟩:=hf it (by simp);exact wpAny_pyNext_dict_end (knd:=PySem.strKind X.prog X.w) (I.ok.hd hc) st ⟨o,es,M,ex,hd,hk⟩ (List.getElem?_eq_none hi) λh' eb=>⟨rfl,I.turned (t':=s.toks) (λb o hb e=>eb b o hb e) f0 f1 S f4 f5⟩
 self:=λ_ _ _ _ _ st h=>wpAny_pyIter_keyiter st h
def DR(K:Frag)(w:World)(mg:Str->Option Value)(x:Str)(ks:List Str):Prop:=∃a kvs,mg x=some (.ref a)/\Be K w a kvs/\kvs.map (·.1)=ks/\∀z∈ks,z.length<=cy
def P5{X:Cx}(T:DR X.K X.w X.mg x ks)(M:Gl X x:=by rfl) (iH:Db x:=by decide):QI X tg (.Name x p) (λ_=>.ok (ks.map .str)):=⟨by
 obtain⟨a,kvs,hm,⟨hs,o,es,ep,lk,ex,hd,L⟩,rfl,S⟩:=T;intro U s Z H R I ⟨B,Y,hb,r,q⟩;refine qj I M hm ?_ iH
 have ho:s.heap.get? a=some o:=I.nt a o lk;refine wpAny_pyIter_dict (knd:=PySem.strKind X.prog X.w) hs ⟨o,es,ho,ex,hd,L X.prog⟩ ?_
 refine⟨s.heap.objs.size,[s.heap.objs.size],_,YN (kvs.map (·.1)),H,rfl,I.kept (t':=s.toks) λb o e=>cu _ e,DQ a _ kvs o es ep lk ex hd (L X.prog),⟨_,cQ _ rfl,rfl,rfl⟩,λb hb=>?_,?_⟩
 .have e:b=s.heap.objs.size:=by simpa using hb
  subst e;exact I.CW (aZ _) (I.cL.fresh (aZ _))
 .refine(show∀J H',aI H H'->pE X.K B J H' ((kvs.map (·.1)).map .str)->R J H' from q) _ H (aI.refl H) ⟨λi B' H' hi _ _=>?_,λi B' H' y Ls hi s2 hb2 ⟨eh,z,g,ey⟩=>?_,λB' H' _=>?_⟩
  .have e:i<((kvs.map (·.1)).map Tr.str).length:=hi;rw[aY]at e;exact e
  .subst eh ey;exact⟨aI.refl _,.str z,by rw[b_,g];rfl,.str z (S z (eQ g))⟩
  .show(kvs.map (·.1)).length<=((kvs.map (·.1)).map Tr.str).length;rw[aY (f:=Tr.str)];exact aZ _⟩
def xC:List Tr->Rs Tr
 |[.bh bg]=>.ok (.int bg.length)
 |ts=>LP ts
theorem js:mL X (.builtin "len") xC:=by
 intro U s Z H xs us Q I L ⟨B,ts,hb,r,q⟩;by_cases z:∃bg,ts=[.bh bg]
 .obtain⟨bg,rfl⟩:=z;cases r with
  |cons h r=>
   cases r;cases h with
   |@bh a kvs _ h b rr=>
    obtain⟨u,rfl,g⟩:=vals1 L;cases g;have M:kvs.length=bg.length:=by have:=cR List.length b;rw[aY,aY]at this;exact this
    exact Sz I (h.same bG) λt s' S=>⟨.int kvs.length,H,S,⟨t,rfl⟩,(show∀v H',aI H H'->Rep X.K (bJ B H') v (.int bg.length)->Q v H' from q) _ H (aI.refl H) (by rw[M];exact .int _)⟩
 .have e:xC ts=LP ts:=by
   unfold xC;split
   .exact absurd ⟨_,rfl⟩ z
   .rfl
  rw[e]at q;exact S3 U s Z H xs us Q I L ⟨B,ts,hb,r,q⟩
def GL:typeLookup (.type "list") "keys"=pure none:=by rw[typeLookup_type,builtinLookup_eq_fast];kernel_rfl
theorem DT{A:Around}{a:Addr}{sl:Array (Option Value)}{Q:Option Value->Shared->Prop}(r:s.heap.get? a=some {cls:=.type "list",dict:=none,data:=.seq xs k,slots:=sl}) (S:A.handled=none)
  (h:∀h' tk,(∀b o,s.heap.get? b=some o->h'.get? b=some o)->Q none {s with heap:=h',toks:=tk}):wpAny (model prog w) A (getAttr? (.ref a) "keys") Q E s:=by
 obtain⟨hp,g,d,tk,os⟩:=s;have I:∀L,(⟨hp,g,d,L,os⟩:Shared).TypeIs (.ref a) "list":=λ_=>⟨_,r,rfl⟩;have f1:=sub_AttributeError;have f3:=wj.lookup;have f4:=wj.bind (.ref a);have f5:=am_list_getattr_none;unfold getAttr? getAttrBy? getAttrBy
 repeat(any_goals (first|assumption|exact I _|((with_reducible show wpAny _ _ (call (Value.builtin "list.__getattribute__") _ _) _ _ _);refine ko wj (I _) am_entry_list_getattribute (F.args_list_getattribute_2 _ _) (meets_getattribute_miss_list a xs k sl "keys" _ GL (by decide) (by size_fits)) ⟨r,S,λh' L e M=>?_⟩)|wp_step))
 obtain⟨t',u',he⟩:=M.there;have q:∀L,(⟨h',g,d,L,os⟩:Shared).TypeIs (.ref e) "AttributeError":=λ_=>⟨_,he,rfl⟩;show wpAny _ _ (getattributeRaised _ _ _ _ _ _ _) _ _ _;unfold getattributeRaised
 repeat(any_goals (first|assumption|exact q _|wp_step))
 exact h h' L M.of.keeps
def zg:entryFor table "dict.update.loop"=some Builtin.«dict.update.loop»:=entryFor_of_tree (by kernel_rfl)
def qE:plainId "dict.update.loop"=true:=by decide
theorem I_{A:Around}{s:Shared}{h0:Heap}{d I:Addr}{pairs:List (Key×Value)}{R:Result->Shared->Prop}(hh:A.handled=none)(hl:h0.IsList l ai.toArray)(c6:ai.length=pairs.length)(hp:∀(j:Nat) (t:Value),ai[j]?=some t->∃ad key k v,t=.ref ad/\h0.IsTuple ad #[key,v]/\mF k key=true/\pairs[j]?=some (k,v))
  (Tp:h0.get? d=none) (q:h0.get? I=none) (M:d≠I) (hz:pairs.length<=100000)
  (hR:∀h' yf,(∀b o,h0.get? b=some o->h'.get? b=some o)->h'.DictOf (bQ prog w) d (merged [] pairs)->R (.ok (.ret .none)) {s with heap:=h',toks:=yf}):
  ∀(r i:Nat) (h:Heap) (g:Nat) (kvs:List (Key×Value)),pairs.length - i=r->i<=pairs.length->kvs.length<=i->merged kvs (pairs.drop i)=merged [] pairs->(∀b o,h0.get? b=some o->h.get? b=some o)->h.IsListIter I l i->h.DictOf (bQ prog w) d kvs->
   codeAny (model prog w) A (.builtin "dict.update.loop" ⟨[.ref d,.ref I,rawInt i,.none],[]⟩) R {s with heap:=h,toks:=g}:=by
 have YR:∀{h:Heap},(∀b o,h0.get? b=some o->h.get? b=some o)->h.IsList l ai.toArray:=λ{h} k=>by obtain⟨o,e,x⟩:=hl;exact⟨o,k _ _ e,x⟩
 have nd:∀{b:Addr} {o:Obj},h0.get? b=some o->b≠d:=λ{b o} e z=>by rw[z,Tp]at e;cases e
 have nI:∀{b:Addr} {o:Obj},h0.get? b=some o->b≠I:=λ{b o} e z=>by rw[z,q]at e;cases e
 intro r
 induction r with
 |zero=>
  intro i h g kvs hr hi hk hm kp it dd;have e:i=pairs.length:=by omega
  subst e;refine lh zg ?_
  rw[nh qE _];show wpAny _ A.in1 (pyNext (.ref I)>>=_) _ _ _;refine aM (wpAny_pyNext_list_end hh it (YR kp) (by simp[c6]) λh' eb=>?_);rw[wD]at hm;have Gj:h'.DictOf (bQ prog w) d kvs:=by
   obtain⟨o,es,ep,e,x⟩:=dd;exact⟨o,es,ep,eb d o M e,x⟩
  show wpAny _ A.in1 (Builtin.Dict.addKeywords d []>>=_) _ _ _;refine aM (bo (bo ?_));exact hR h' g (λb o e=>eb b o (nI e) (kp b o e)) (by rwa[<-hm])
 |succ r ih=>
  intro i h g kvs hr hi hk hm kp it dd;have L:i<pairs.length:=by omega
  have YS:i<ai.length:=by omega
  obtain⟨ad,key,k,v,et,tp,Oy,ep⟩:=hp i ai[i] (by simp[YS]);have Ob:pairs[i]=(k,v):=by rw[cI L]at ep;exact Option.some.inj ep
  refine lh zg ?_
  rw[nh qE _];show wpAny _ A.in1 (pyNext (.ref I)>>=_) _ _ _;refine aM (wpAny_pyNext_list_item it (YR kp) (x:=.ref ad) (by simp[YS,et]) λh' S sb=>?_);have WY:∀b o,h0.get? b=some o->h'.get? b=some o:=λb o e=>(sb.2 b (nI e)).trans (kp b o e);have Gj:h'.DictOf (bQ prog w) d kvs:=by
   obtain⟨o,es,ep,e,x⟩:=dd;exact⟨o,es,ep,(sb.2 d M).trans e,x⟩
  obtain⟨ot,e1,e2,n,e3⟩:=tp;have hT:Shared.TypeIs {s with heap:=h',toks:=g} (.ref ad) "tuple":=⟨ot,WY _ _ e1,e2⟩;refine aM ?_
  refine jg ?_
  refine aM (kl ?_);unfold Builtin.Dict.pairItems;refine aM (wpAny_typeOf hT ?_);rw[ay (by decide)];refine aM (sU (WY _ _ e1) e3 ?_);refine bo ?_
  show wpAny _ A.in1 (holding [key,v] (dictSet d key v)) _ _ _;refine jg (wpAny_dictSet_pairs (knd:=bQ prog w) (hsz:=by rw[eW];omega) Oy Gj λh2 Rb YT=>?_);show wpAny _ A.in1 (pure _) _ _ _;refine bo ⟨kn qE _,?_⟩;have hc:rawInt ((i:Int)+1)=rawInt ((i+1:Nat):Int):=by push_cast;rfl
  rw[hc];refine ih (i+1) h2 _ (stored kvs k v) (by omega) L ?_ ?_ (λb o e=>(YT.2 b (nd e)).trans (WY b o e)) ?_ Rb
  .exact bI (stored_length_le kvs k v) (by omega)
  .rw[v_ L,Ob]at hm;exact hm
  .obtain⟨o,e,x⟩:=S;exact⟨o,(YT.2 I (Ne.symm M)).trans e,x⟩
theorem DU{A:Around}{l:Addr}{pairs:List (Key×Value)}{g:Array (Option Value)}(S:A.handled=none)(q:s.heap.get? l=some {cls:=.type "list",dict:=none,data:=.seq ai.toArray k0,slots:=g}) (c6:ai.length=pairs.length)
  (hp:∀(j:Nat) (t:Value),ai[j]?=some t->∃ad key k v,t=.ref ad/\s.heap.IsTuple ad #[key,v]/\mF k key=true/\pairs[j]?=some (k,v)) (hz:pairs.length<=100000)
  (h:∀h' r,(∀b o,s.heap.get? b=some o->h'.get? b=some o)->h'.DictOf (bQ prog w) s.heap.objs.size (merged [] pairs)->ae (.ref s.heap.objs.size) {s with heap:=h',toks:=r}):
  wpAny (model prog w) A (call (.type "dict") [.ref l]) ae E s:=by
 refine callType_codes (Q₁:=λobj dD=>obj=.ref s.heap.objs.size/\dD={s with heap:=s.heap.push {cls:=.type "dict",data:=.dict #[]}}) F.kt_called_dict (F.kt_typeCall_dict_1 _) F.entry_dict_init (kt_code_dict_new _ ⟨rfl,rfl⟩) ?_
 rintro obj dD ⟨rfl,rfl⟩
 have I:(s.heap.push {cls:=.type "dict",data:=.dict #[]}).DictOf (bQ prog w) s.heap.objs.size []:=Heap.DictOf.new s.heap;have YU:=cu {cls:=.type "dict",data:=.dict #[]} q;have hT:Shared.TypeIs {s with heap:=s.heap.push {cls:=.type "dict",data:=.dict #[]}} (.ref l) "list":=⟨_,YU,rfl⟩;refine⟨I.typeIs,F.args_dict_init_2 _ _,?_⟩;unfold Builtin.«dict.__init__»;refine aM ?_
 unfold Builtin.Dict.selfAndRest;refine aM (wpAny_notOrdered_dict I.typeIs ?_);show wpAny _ _ (pure (s.heap.objs.size,[Value.ref l])) _ _ _;refine bo ?_
 show wpAny _ _ (Builtin.Dict.updateFrom "dict.__init__" s.heap.objs.size (.ref l) [] .none) _ _ _;unfold Builtin.Dict.updateFrom;refine aM (wpAny_typeOf hT ?_);rw[ay (by decide)];refine aM (DT YU S λL tk1 k1=>?_);rw[ay (show(none:Option Value).isNone=true from rfl)];have k2:∀b o,s.heap.get? b=some o->L.get? b=some o:=λb o e=>k1 b o (cu _ e);have Tq:L.get? s.heap.objs.size=some {cls:=.type "dict",data:=.dict #[]}:=k1 _ _ (cQ _ rfl);have M:L.DictOf (bQ prog w) s.heap.objs.size []:=by
  obtain⟨o,es,ep,e,x⟩:=I;exact⟨o,es,ep,k1 _ _ e,x⟩
 have jP:s.heap.objs.size<L.objs.size:=bD Tq;have hl:s.heap.IsList l ai.toArray:=⟨_,q,rfl,_,rfl⟩;refine aM (wpAny_rule ?_);refine aM (mv (show L.IsList l ai.toArray from⟨_,k2 _ _ q,rfl,_,rfl⟩) ?_);refine bo ⟨kn qE _,?_⟩;refine I_ (s:=s) (h0:=s.heap) (A:=A.in1) S hl c6 hp (by
   cases e:s.heap.get? s.heap.objs.size with
   |none=>rfl
   |some o=>exact absurd (bD e) (fE _)) (by
   cases e:s.heap.get? L.objs.size with
   |none=>rfl
   |some o=>exact absurd (bD (k2 _ _ e)) (fE _)) (cY jP) hz (λh' r kp dd=>⟨rfl,h h' r kp dd⟩) _ 0 _ _ [] rfl (hX _) (aZ _) rfl (λb o e=>cu _ (k2 b o e)) ⟨_,cQ _ rfl,rfl,rfl⟩ ?_
 obtain⟨o,es,ep,e,x⟩:=M;exact⟨o,es,ep,cu _ e,x⟩
def z8:List Tr->Option (List (Key×Tr))
 |[]=>some []
 |.tup [k,v]::r=>match kR k,z8 r with
  |some key,some l=>some ((key,v)::l)
  |_,_=>none
 |_=>none
def DV:List Tr->Rs Tr
 |[.lst ts]=>match z8 ts with
  |some bg=>if bg.length<=100000 then .ok (.bh (lT [] bg))else .bad
  |none=>.bad
 |_=>.bad
def GN{t:Tr}{ts:List Tr}(h:z8 (t::ts)=some bg):∃k v key l,t=.tup [k,v]/\kR k=some key/\z8 ts=some l/\bg=(key,v)::l:=by
 unfold z8 at h;split at h
 .cases‹t::ts=[]›
 .rename_i k v r e;cases e;cases L:kR k with
  |none=>rw[L]at h;cases h
  |some key=>
   cases b:z8 ts with
   |none=>rw[L,b]at h;cases h
   |some l=>rw[L,b]at h;cases h;exact⟨k,v,key,l,rfl,L,rfl,rfl⟩
 .cases h
theorem Fp(I:Inv X U Z H s):∀{vs:List V} {ts:List Tr} {bg:List (Key×Tr)} {bM:List Value},bp X.K (bJ B H) vs ts->z8 ts=some bg->Vals vs bM->
  ∃(kvs:List (Key×V)) (ps:List (Key×Value)),dQ X.K (bJ B H) kvs bg/\KV kvs ps/\bM.length=ps.length/\∀(j:Nat) (t:Value),bM[j]?=some t->∃ad key k v,t=.ref ad/\s.heap.IsTuple ad #[key,v]/\mF k key=true/\ps[j]?=some (k,v)
 |[],[],_,_,_,e,rv=>by cases e;cases rv;exact⟨[],[],.nil,.nil,rfl,λj t e=>by simp at e⟩
 |[],_::_,_,_,h,_,_=>by cases h
 |v::vs,ts,bg,bM,h,e,rv=>by
  cases h with
  |cons h r=>
   obtain⟨k,w',key,l,rfl,g,q,rfl⟩:=GN e;cases rv with
   |cons M rv=>
    obtain⟨kvs,ps,S,q2,q3,q4⟩:=Fp I r q rv;obtain⟨ad,us,rfl,hq,rr⟩:=h.eD;cases M;obtain⟨x1,x2,rfl,rk,qP⟩:=Bj rr;obtain⟨Dh,P6,pl,_⟩:=I.tuple (aI.tup bG hq);obtain⟨u1,L,rfl,r1,r2⟩:=vals2 P6;cases nA rk g;refine⟨(key,_)::kvs,(key,L)::ps,.cons qP S,.cons ⟨rfl,r2⟩ q2,by rw[dq,dq,q3],λj t b=>?_⟩;cases j with
    |zero=>cases b;exact⟨ad,u1,key,L,rfl,pl,qW (P:=X.prog) (w:=X.w) r1,rfl⟩
    |succ j=>exact q4 j t b
theorem Fq{X:Cx}(hc:X.calm=true):gY X (.type "dict") (rF X DV):=by
 intro U s Z H xs us Q I rv ⟨B,ts,hb,r,q⟩;have key:∃L bg,ts=[.lst L]/\z8 L=some bg/\bg.length<=100000/\∀v H',aI H H'->Rep X.K (bJ B H') v (.bh (lT [] bg))->(∀p,v=.ref p->Pn H H' p)->Q v H':=by
  unfold DV at q;split at q
  .rename_i L;cases e:z8 L with
   |none=>rw[e]at q;exact fe q
   |some bg=>
    rw[e]at q;obtain⟨h0,z⟩:=h_ q;exact⟨L,bg,rfl,e,h0,z⟩
  .exact fe q
 obtain⟨L,bg,rfl,ep,hz,k⟩:=key;obtain⟨x,rfl,h⟩:=fN r;obtain⟨a,vs,rfl,h,rr⟩:=h.lst_inv;obtain⟨u,rfl,ru⟩:=vals1 rv;cases(show u=Value.ref a from ru);obtain⟨z0,bM,n0,b,hx⟩:=(show cN X.prog X.w H s.heap a (.lst vs)from I.cL a _ (dO h));obtain⟨kvs,ps,g,q2,q3,q4⟩:=Fp I rr ep b;have hl:kvs.length=bg.length:=g.length;have M:ps.length<=100000:=by rwa[<-KV.length q2,hl]
 refine DU (I.ok.hd hc) hx q3 q4 M λh' yf kp dd=>?_
 have hf:H s.heap.objs.size=none:=I.fresh;have S:(iL [] kvs).length<=sizeLine:=by have:=i_ kvs [];rw[wH]at this;rw[eW];omega
 have hsm:(s.heap.objs.size==sysModules)=false:=by
  have:=I.big;exact jM (jh this)
 refine⟨.ref s.heap.objs.size,_,I.laid (t':=yf) (o:=.dK (iL [] kvs)) kp (aZ _) (w6 S hsm (q2.merge .nil) dd),rfl,k _ _ (aI.upd hf) (.bh (.inl (hb.new hf)) ?_ ?_) λp' e=>by cases e;exact .upd hf (λ_ _ z=>by cases z)⟩
 .exact(dQ.merge g dQ.nil).keys
 .exact(dQ.merge g dQ.nil).vals.same (bx (aI.upd hf))
def range_any:∀(bs:List Bool),((List.range bs.length).any λi=>(bs[i]?).getD false)=bs.any id:=by
 intro bs;rw[kj,o6,o6];constructor
 .rintro ⟨i,hi,h⟩
  have L:=o9.mp hi;rw[cI L]at h;exact⟨bs[i],mq L,h⟩
 .rintro ⟨b,hb,h⟩
  obtain⟨i,L,e⟩:=wm hb;exact⟨i,o9.mpr L,by rwa[cI L,e]⟩
theorem xD:∀{bs:List Bool} {bM:List Value},Vals (bs.map V.bl) bM->bM=bs.map Value.bool
 |[],_,rv=>by cases rv;rfl
 |b::r,_,rv=>by
  cases rv with
  |cons L g=>
   rw[aX,<-xD g];cases(show _=Value.bool b from L)
   rfl
theorem GO{X:Cx}(S:X.calm=true):gY X (.builtin "any") (λxs H Q=>∃(p:Addr) (bs:List Bool),xs=[.ref p]/\lj X.K H p (bs.map V.bl)/\Q (.bl (bs.any id)) H):=by
 intro U s Z H xs us Q I r h;obtain⟨p,bs,rfl,hl,q⟩:=h;obtain⟨u,rfl,ru⟩:=vals1 r;cases(show u=Value.ref p from ru);obtain⟨bM,rv,pl,hz⟩:=I.list hl;have hb:=xD rv;subst hb;have jP:p<s.heap.objs.size:=by obtain⟨o,n,e,_⟩:=pl;exact bD e
 refine call_any_walk (mv pl.isList ?_);refine⟨s.heap.objs.size,[s.heap.objs.size,p],[s.heap.objs.size],(bs.map Value.bool).toArray.size,_,_,λi=>(bs[i]?).getD false,rfl,Walks.list (A:=X.A.in1) (I.ok.hd S) _ p (cY jP) _,
  ⟨⟨_,cQ _ rfl,rfl,rfl⟩,pl.isList.push _⟩,λi v s' Q' E' hP M=>?_,λh' tk hk=>?_⟩
 .have L:(bs.map Value.bool)[i]?=some v:=by simpa using hP
  rw[b_]at L;cases g:bs[i]? with
  |none=>rw[g]at L;cases L
  |some b=>
   rw[g]at L;cases L;simp only[g,wC]at M;exact mr M
 .have e:((List.range (bs.map Value.bool).toArray.size).any λi=>(bs[i]?).getD false)=bs.any id:=by
   rw[cE,aY];exact range_any bs
  rw[e];exact⟨.bl _,H,I.kept (LSm.kept_iter hk),rfl,q⟩
def P7:List Tr->Rs Tr
 |[.lst ts]=>(DC ts).bind λbs=>.ok (.bl (bs.any id))
 |_=>.bad
def TV{X:Cx}(b:X.calm=true):mL X (.builtin "any") P7:=by
 intro U s Z H xs us Q I L ⟨B,ts,hb,r,q⟩;unfold P7 at q;split at q
 .cases r with
  |cons h r=>
   cases r;cases h with
   |lst g M=>
    obtain⟨bs,k,e⟩:=zU M (Fi.bind q);subst e;exact GO b U s Z H _ us Q I L ⟨_,bs,rfl,.of (dO g),k _ H (aI.refl H) (.bl _)⟩
 .exact fe q
noncomputable def jt(x y:Int×Int):Bool:=decide (x.1<y.1\/(x.1=y.1/\x.2<y.2))
theorem int_lt{x y:Int}(h:ae (.bool (decide (x<y))) s):wpAny (model prog w) A (richCompare .Lt (.int x t) (.int y u)) ae E s:=
 CmpOf.ints_lt (prog:=prog) (w:=w) (A:=A) (P:=λi v=>∃t,v=.int ([x,y].getD i 0) t) (λi=>[x,y].getD i 0) (λi v h=>h) 0 1 _ _ _ _ _ ⟨t,rfl⟩ ⟨u,rfl⟩ h
theorem z9{a b:Addr}{x y:Int×Int}{P:PySem.Fin->Shared->Prop}
  (r:s.heap.get? a=some I) (M:I.data=.seq #[.int x.1 t1,.int x.2 S] na) (TY:s.heap.get? b=some ob) (iH:ob.data=.seq #[.int y.1 u1,.int y.2 u2] nb) (g:s.TypeIs (.ref b) "tuple")
  (h:P (.done (.ret (.bool (jt x y)))) s):wpAny (model prog w) A (Builtin.«tuple.__lt__» ⟨[.ref a,.ref b],[]⟩) P E s:=by
 show wpAny _ _ (isInstance (.ref b) (.type "tuple")>>=_) _ _ s;refine aM (wpAny_isInstance g isSubtype_tuple_tuple ?_);simp only[dM,bP,bq];refine aM (wpAny_tupleItemsOf r M ?_);refine aM (wpAny_tupleItemsOf TY iH ?_);refine aM ?_
 show wpAny _ _ (forIn [(Value.int x.1 t1,Value.int y.1 u1),(Value.int x.2 S,Value.int y.2 u2)] _ _) _ _ s;rw[wI];refine aM (aM (wpAny_eqBool_int ?_));by_cases L:x.1=y.1
 .rw[fG.mpr L];simp only[dM,bP,bq];refine bo ?_
  dsimp only;rw[wI];refine aM (aM (wpAny_eqBool_int ?_));by_cases q:x.2=y.2
  .rw[fG.mpr q];simp only[dM,bP,bq];refine bo ?_
   dsimp only;rw[List.forIn_nil];refine bo (bo ?_);have e:jt x y=false:=by unfold jt;exact fV (by omega)
   rw[e]at h;exact h
  .rw[jM q];simp only[dJ,aP];have e:jt x y=decide (x.2<y.2):=by unfold jt;exact wF.mpr (by omega)
   rw[e]at h;exact aM (wpAny_rule (aM (int_lt (aM (bo (bo (bo (bo h))))))))
 .rw[jM L];simp only[dJ,aP];have e:jt x y=decide (x.1<y.1):=by unfold jt;exact wF.mpr (by omega)
  rw[e]at h;exact aM (wpAny_rule (aM (int_lt (aM (bo (bo (bo (bo h))))))))
theorem Mj{A:Around}{a b:Addr}{x y:Int×Int}(hu:A.units<cLine)
  (r:s.heap.get? a=some g) (M:g.cls=.type "tuple") (WZ:g.data=.seq #[.int x.1 t1,.int x.2 t2] na) (I:s.heap.get? b=some q) (S:q.cls=.type "tuple") (iH:q.data=.seq #[.int y.1 u1,.int y.2 u2] nb)
  (h:ae (.bool (jt x y)) s):wpAny (model prog w) A (richCompare .Lt (.ref a) (.ref b)) ae E s:=
 wpAny_richCompare_same_room (op:=.Lt) (T:="tuple") ⟨g,r,M⟩ ⟨q,I,S⟩ F.slot_tuple_lt (wpAny_call_entry F.slot_tuple_lt ⟨g,r,M⟩ F.entry_tuple_lt (z9 r WZ I iH ⟨q,I,S⟩ ⟨_,rfl,(λe=>nomatch e),h⟩) (F.args_tuple_lt_2 _ _)) hu
def cO(kf:Nat->Int×Int):Nat->Nat
 |0=>0
 |j+1=>if jt (kf (j+1)) (kf (cO kf j))=true then j+1 else cO kf j
theorem BZ{X:Cx}{q:Addr}(G:fL X.prog X.w X.K X.mg X.base qX k f aj ps (spT X.K h))(bd:Binds X.K aj ps [])(hr:cZ (k+1) X.A){p:Int×Int}
  (b:Inv X yA Z H s) (hq:(q,PySem.W.methodObj (.ref f) (.ref a))∈yA) (hb:HB B H) (ro:Rep X.K (bJ B H) (.ref a) o) (rt:Rep X.K (bJ B H) v t) (rv:RelV v u) (he:h [o,t]=.ok (.tup [.int p.1,.int p.2])):
  wpAny (model X.prog X.w) X.A.in1 (call (.ref q) [u]) (λM S=>∃kb H',M=.ref kb/\Inv X yA Z H' S/\aI H H'/\mf X.K H' kb [.int p.1,.int p.2]) E s:=by
 have HM:spT X.K h [.ref a,v] H (λL H'=>aI H H'/\Rep X.K (bJ B H') L (.tup [.int p.1,.int p.2])) E0:=⟨B,[o,t],hb,.cons ro (.cons rt .nil),_,he,λL H' g r=>⟨g,r⟩⟩;have hl:([.ref a,u]++[]:List Value).length=ps.length:=G.len _ _ _ _ HM;refine wpAny_call (PySem.W.method_call (b.pin _ (dm _ hq)).1 ?_);refine pf (G.run X.A.in1 X.stack s H ⟨[.ref a,u],[]⟩ [.ref a,u] [.ref a,v] _ E0 hr.in1 b.OC.in1 (bd s [.ref a,u] b.nt hl) (.cons rfl (.cons rv .nil)) HM) λr S I=>?_
 match r,I with
 |.ok (.ret M),I=>
  obtain⟨L,H',I',Gu,g,rep⟩:=b.after I;obtain⟨kb,vs,rfl,hT,rr⟩:=rep.eD;obtain⟨x,y,rfl,r1,r2⟩:=Bj rr;rw[r1.int_inv,r2.int_inv]at hT;exact⟨kb,H',Gu,I',g,aI.tup bG hT⟩
theorem B5{p:Int×Int}(r:Inv X U Z H s)(I:mf X.K H b [.int p.1,.int p.2]):∃g t1 q n,s.heap.get? b=some g/\g.cls=.type "tuple"/\g.data=.seq #[.int p.1 t1,.int p.2 q] n:=by
 obtain⟨bM,rv,⟨g,e,L,n,hd⟩,_⟩:=r.tuple I;obtain⟨M,S,rfl,r1,r2⟩:=vals2 rv;obtain⟨t1,rfl⟩:=(show∃t,M=Value.int p.1 t from r1);obtain⟨q,rfl⟩:=(show∃t,S=Value.int p.2 t from r2);exact⟨g,t1,q,n,e,L,hd⟩
def Fs{S:Addr}{b:Addr}(q:b≠S)(g:mf K H b vs):mf K (upd H S c) b vs:=by
 rcases g with(g|⟨L,g⟩)|g
 .exact .inl (.inl (by rwa[aN q]))
 .exact .inl (.inr ⟨L,by rwa[aN q]⟩)
 .exact .inr g
def Ja(q:Inv X U Z H s)(g:mf X.K H b vs)(e:H S=some (.lst l)):b≠S:=λz=>by
 subst z;rcases g with(g|⟨o,g⟩)|⟨o,bM,n,L,_⟩
 .rw[e]at g;cases g
 .rw[e]at g;cases g
 .rw[(q.bs _ _ (q.ok.mod.N_ _ _ L)).2]at e;cases e
theorem GP{X:Cx}{q I:Addr}{H0:Hp}{kf:Nat->Int×Int}{R:Result->Shared->Prop}(hc:X.calm=true)(G:fL X.prog X.w X.K X.mg X.base qX k f aj ps (spT X.K h))(bd:Binds X.K aj ps [])(hr:cZ (k+1) X.A)(hq:(q,PySem.W.methodObj (.ref f) (.ref a))∈U)
  (hS:H0 S=none) (hb:HB B H0) (ro:Rep X.K (bJ B H0) (.ref a) o) (rx:bp X.K (bJ B H0) xs ts) (hl:lj X.K H0 l xs) (TZ:l≠I)
  (hk:∀i t,ts[i]?=some t->h [o,t]=.ok (.tup [.int (kf i).1,.int (kf i).2]))
  (hR:∀g u H s,xs[cO kf (xs.length - 1)]?=some g->Inv X U Z H s->aI H0 H->RelV g u->R (.ok (.ret u)) s):
  ∀(r j:Nat) (s:Shared) (H:Hp) (g:V) (kb:Addr),xs.length - (j+1)=r->j+1<=xs.length->Inv X U Z H s->aI H0 H->H S=some (.lst [g,.ref kb])->xs[cO kf j]?=some g->
   mf X.K H kb [.int (kf (cO kf j)).1,.int (kf (cO kf j)).2]->s.heap.IsListIter I l (j+1)->pw X U H I->
   codeAny (model X.prog X.w) X.A (.builtin "min.loop" ⟨[.ref I,.ref q,.ref S],[]⟩) R s:=by
 have B6:(toString "min"++toString ".loop":String)="min.loop":=by decide
 intro r
 induction r with
 |zero=>
  intro j s H g kb hr0 hj L M Rv Jb hT hit Jc;have rB:j+1=xs.length:=by omega
  obtain⟨bM,rv,pl,_⟩:=L.list (aI.seq M hl);have c6:bM.length=xs.length:=rv.length.symm;have W:=Walks.list (prog:=X.prog) (w:=X.w) (A:=X.A.in1) (L.ok.hd hc) I l TZ bM.toArray;obtain⟨_,Dh,n2,P6,_,eS⟩:=L.ym Rv;obtain⟨u,u2,rfl,ru,W0⟩:=vals2 P6;cases(show u2=Value.ref kb from W0);refine lh wd ?_
  rw[nh nc _];show wpAny _ X.A.in1 (seqItems? (.ref S)>>=_) _ _ _;refine aM (sU eS rfl ?_);show wpAny _ X.A.in1 (tryCatch (pyNext (.ref I)) _>>=_) _ _ _;refine aM (kl (W.done _ _ _ ⟨by rwa[cE,c6,<-rB],pl.isList⟩ λh' yf T1=>?_));have I1:Inv X U Z H {s with heap:=h',toks:=yf}:=L.uQ (ch:=[I]) (λb hb=>by rwa[cz.mp hb]) T1;obtain⟨_,T2,n3,Vh,_,YX⟩:=I1.ym Rv;have I2:=I1.La (s_:=[]) (f:=λ_=>(#[]:Array Value)) (t':=yf) Rv YX rfl .nil (hX _);show wpAny _ X.A.in1 (updateSeq S (λ_=>#[])>>=_) _ _ _;refine aM (wpAny_updateSeq YX rfl (aM (wpAny_letGo (bo ?_))));refine hR g u _ _ ?_ I2 (M.Bc hS) ru
  rwa[<-rB]
 |succ r ih=>
  intro j s H g kb hr0 hj L M Rv Jb hT hit Jc;have jP:j+1<xs.length:=by omega
  obtain⟨bM,rv,pl,_⟩:=L.list (aI.seq M hl);have c6:bM.length=xs.length:=rv.length.symm;have W:=Walks.list (prog:=X.prog) (w:=X.w) (A:=X.A.in1) (L.ok.hd hc) I l TZ bM.toArray;obtain⟨_,Dh,n2,P6,_,eS⟩:=L.ym Rv;obtain⟨u,u2,rfl,ru,W0⟩:=vals2 P6;cases(show u2=Value.ref kb from W0);refine lh wd ?_
  rw[nh nc _];show wpAny _ X.A.in1 (seqItems? (.ref S)>>=_) _ _ _;refine aM (sU eS rfl ?_);show wpAny _ X.A.in1 (tryCatch (pyNext (.ref I)) _>>=_) _ _ _;refine aM (kl (W.item (j+1) _ _ _ (by rwa[cE,c6]) ⟨hit,pl.isList⟩ λv h' yf hP P8 T1=>?_));refine hide λP go=>?_
  have hv:bM[j+1]?=some v:=by simpa using hP
  obtain⟨xv,Rw⟩:∃y,xs[j+1]?=some y:=⟨_,cI jP⟩
  obtain⟨v',Kw,T5⟩:=rv.get Rw;cases hv.symm.trans Kw;obtain⟨tv,W3,W4⟩:=rx.Bf Rw;have I1:Inv X U Z H {s with heap:=h',toks:=yf}:=L.uQ (ch:=[I]) (λb hb=>by rwa[cz.mp hb]) T1;obtain⟨oI,W5,Oc,Rx⟩:=id P8.1;have I1p:Inv X ((I,oI)::U) Z H {s with heap:=h',toks:=yf}:=I1.jQ λp hp=>by
   rcases a_.mp hp with rfl|hp
   .exact⟨W5,Jc.1,Jc.2.1,Jc.2.2.1,λv z=>by rw[Rx]at z;cases z⟩
   .exact I1.pin p (dm _ hp)
  refine go ?_
  show wpAny _ X.A.in1 (tryCatch (holding [v] (call (.ref q) [v])) _>>=_) _ _ _;refine aM (kl (jg (d8 (BZ G bd hr I1p (cw _ hq) (hb.same M) (ro.same (bx M)) (W4.same (bx M)) T5 (hk _ _ W3)) (λw' s2 hw=>?_) λ_ _ x=>x)));obtain⟨kb2,H2,rfl,P9,Hj,Ry⟩:=hw;refine hide λP go=>?_
  have nI:=P9.pin (I,oI) (dm _ (cJ ..));have I2:Inv X U Z H2 s2:=P9.jQ λp hp=>P9.pin p (dm _ (cw _ hp));have yq:H2 S=some (.lst [g,.ref kb]):=Hj _ _ Rv;obtain⟨_,T2,n3,Vh,_,T6⟩:=I2.ym yq;obtain⟨oa,t1,t2,na,ea,ca,da⟩:=B5 I2 Ry;obtain⟨ob,t3,t4,nb,eb,cb,db⟩:=B5 I2 (Hj.tup hT);have hu:X.A.in1.units<cLine:=nk (by show X.A.units+1<=X.A.units+16*(k+1)+200;omega) hr.un;have W6:pw X U H2 I:=⟨nI.2.1,Jc.2⟩;have P_:aI H0 H2:=M.trans Hj;refine go ?_
  show wpAny _ X.A.in1 (tryCatch (holding [v,.ref kb2] (richCompare .Lt (.ref kb2) (.ref kb)>>=_)) _>>=_) _ _ _;refine aM (kl (jg (aM (Mj (x:=kf (j+1)) (y:=kf (cO kf j)) hu ea ca da eb cb db ?_))));refine aM (jg (mr ?_));refine aM (wpAny_letGo (bo ?_));by_cases Hf:jt (kf (j+1)) (kf (cO kf j))=true
  .have T7:cO kf (j+1)=j+1:=ay Hf;have I3:=I2.La (s_:=[v,.ref kb2]) (f:=λ_=>(#[v,.ref kb2]:Array Value)) (ys:=[xv,.ref kb2]) (t':=s2.toks) yq T6 rfl (.cons T5 (.cons rfl .nil)) (by show 2<=sizeLine;decide);simp only[Hf,aP];refine aM (wpAny_updateSeq T6 rfl (aM (wpAny_letGo ?_)));rw[B6];have P':S≠I:=λz=>by rw[z,nI.2.1]at yq;cases yq
   have W7:kb2≠S:=Ja I2 Ry yq;refine bo ⟨kn nc _,ih (j+1) _ _ xv kb2 (by omega) jP I3 (P_.Bc hS) bA (by rwa[T7]) ?_ ⟨oI,(wk s2.heap _ P').trans nI.1,Oc,Rx⟩ ⟨by rw[aN P'.symm];exact nI.2.1,Jc.2⟩⟩;rw[T7];exact Fs W7 Ry
  .have T7:cO kf (j+1)=cO kf j:=aE Hf;simp only[Hf,bq];refine aM (wpAny_letGo ?_);rw[B6];refine bo ⟨kn nc _,ih (j+1) s2 H2 g kb (by omega) jP I2 P_ yq (by rwa[T7]) (by rw[T7];exact Hj.tup hT) ⟨oI,nI.1,Oc,Rx⟩ W6⟩
theorem GQ{X:Cx}{q:Addr}{kf:Nat->Int×Int}(hc:X.calm=true)(G:fL X.prog X.w X.K X.mg X.base qX k f aj ps (spT X.K h))(bd:Binds X.K aj ps [])(hr:cZ (k+1) X.A)(hq:(q,PySem.W.methodObj (.ref f) (.ref a))∈U)
  (g:Inv X U Z H s) (hb:HB B H) (ro:Rep X.K (bJ B H) (.ref a) o) (rx:bp X.K (bJ B H) xs ts) (hl:lj X.K H l xs) (iO:0<xs.length)
  (hk:∀i t,ts[i]?=some t->h [o,t]=.ok (.tup [.int (kf i).1,.int (kf i).2])) {Q:VK}
  (hQ:∀r H',xs[cO kf (xs.length - 1)]?=some r->aI H H'->Q r H'):
  wpAny (model X.prog X.w) X.A (call (.builtin "min") [.ref l] [(Str.ofString "key",.ref q)]) (EP X U Z Q) X.xe s:=by
 have B6:(toString "min"++toString ".loop":String)="min.loop":=by decide
 obtain⟨bM,rv,pl,_⟩:=g.list hl;have c6:bM.length=xs.length:=rv.length.symm;have Ru:=pl.isList;obtain⟨ol,hol,_⟩:=id Ru;have hll:l<s.heap.objs.size:=bD hol;refine kmk_tree PySem.F.kind_min PySem.F.plain_min PySem.F.entry_min (kmk_min_key _ _) ?_
 show wpAny _ X.A.in1 (Builtin.Builtins.bindParams "min" ["key","default"] 0 ⟨[],[(Str.ofString "key",.ref q)]⟩>>=_) _ _ s;refine aM (wpAny_of_eq (show Builtin.Builtins.bindParams "min" ["key","default"] 0 ⟨[],[(Str.ofString "key",.ref q)]⟩=pure [some (.ref q),none]from rfl) ?_);refine aM (bo ?_);refine aM (mv Ru ?_);refine aM (wpAny_newList ?_ (hX _));rw[B6];have TZ:l≠s.heap.objs.size:=cY hll;have I1:Inv X U Z H {s with heap:=s.heap.push {cls:=.type "list_iterator",data:=.fields #[.ref l,.int 0 0]}}:=g.kept (t':=s.toks) λb u e=>cu _ e;have M:=I1.Lb (bM:=[]) (ys:=[]) (t':=s.toks) .nil (hX _);have hSe:(s.heap.push {cls:=.type "list_iterator",data:=.fields #[.ref l,.int 0 0]}).objs.size=s.heap.objs.size+1:=size_push' ..;have P':(s.heap.push {cls:=.type "list_iterator",data:=.fields #[.ref l,.int 0 0]}).objs.size≠s.heap.objs.size:=by rw[hSe];exact o7 _
 have Vj:H (s.heap.push {cls:=.type "list_iterator",data:=.fields #[.ref l,.int 0 0]}).objs.size=none:=I1.fresh;have gI:((s.heap.push {cls:=.type "list_iterator",data:=.fields #[.ref l,.int 0 0]}).push {cls:=.type "list",data:=.seq (List.toArray [])}).get? s.heap.objs.size=some {cls:=.type "list_iterator",data:=.fields #[.ref l,.int 0 0]}:=
  cu _ (cQ _ rfl)
 generalize hS:(s.heap.push {cls:=.type "list_iterator",data:=.fields #[.ref l,.int 0 0]}).objs.size=S at M P' Vj;have Jc:pw X U (upd H S (.lst [])) s.heap.objs.size:=g.CW (aZ _) (by rw[aN P'.symm];exact g.fresh);have L:aI H (upd H S (.lst [])):=aI.upd Vj;refine bo ⟨kn nc _,?_⟩;have W:=Walks.list (prog:=X.prog) (w:=X.w) (A:=X.A.in1) (g.ok.hd hc) s.heap.objs.size l TZ bM.toArray;obtain⟨_,Dh,n2,P6,_,eS⟩:=M.ym bA;cases P6;obtain⟨s_,Gu,YY,_⟩:=M.list (aI.seq L hl);have ei:s_=bM:=by
  obtain⟨o1,n1,e1,_,_,d1⟩:=pl;obtain⟨o2,n2,e2,_,_,d2⟩:=YY;have e3:((s.heap.push {cls:=.type "list_iterator",data:=.fields #[.ref l,.int 0 0]}).push {cls:=.type "list",data:=.seq (List.toArray [])}).get? l=some o1:=cu _ (cu _ e1);have YZ:((s.heap.push {cls:=.type "list_iterator",data:=.fields #[.ref l,.int 0 0]}).push {cls:=.type "list",data:=.seq (List.toArray [])}).get? l=some o2:=e2;rw[e3]at YZ;cases YZ;rw[d1]at d2;injection d2 with d3 _
  simpa using(cR Array.toList d3).symm
 subst ei;refine lh wd ?_
 rw[nh nc _];show wpAny _ X.A.in1 (seqItems? (.ref S)>>=_) _ _ _;refine aM (sU eS rfl ?_);show wpAny _ X.A.in1 (tryCatch (pyNext (.ref s.heap.objs.size)) _>>=_) _ _ _;refine aM (kl (W.item 0 _ _ _ (by rwa[cE,c6]) ⟨⟨_,gI,rfl,rfl⟩,YY.isList⟩ λv h' yf hP P8 T1=>?_));refine hide λP go=>?_
 have hv:s_[0]?=some v:=by simpa using hP
 obtain⟨xv,Rw⟩:∃y,xs[0]?=some y:=⟨_,cI iO⟩
 obtain⟨v',Kw,T5⟩:=rv.get Rw;cases hv.symm.trans Kw;obtain⟨tv,W3,W4⟩:=rx.Bf Rw;have J1:=M.uQ (h':=h') (t':=yf) (ch:=[s.heap.objs.size]) (λb hb=>by rwa[cz.mp hb]) T1;obtain⟨oI,W5,Oc,Rx⟩:=id P8.1;have J1p:=J1.jQ (yA:=(s.heap.objs.size,oI)::U) λp I=>by
  rcases a_.mp I with rfl|I
  .exact⟨W5,Jc.1,Jc.2.1,Jc.2.2.1,λv z=>by rw[Rx]at z;cases z⟩
  .exact J1.pin p (dm _ I)
 refine go ?_
 show wpAny _ X.A.in1 (tryCatch (holding [v] (call (.ref q) [v])) _>>=_) _ _ _;refine aM (kl (jg (d8 (BZ G bd hr J1p (cw _ hq) (hb.same L) (ro.same (bx L)) (W4.same (bx L)) T5 (hk _ _ W3)) (λw' s2 hw=>?_) λ_ _ x=>x)));obtain⟨kb2,H2,rfl,P9,Hj,Ry⟩:=hw;refine hide λP go=>?_
 have nI:=P9.pin (s.heap.objs.size,oI) (dm _ (cJ ..));have J2:Inv X U Z H2 s2:=P9.jQ λp I=>P9.pin p (dm _ (cw _ I));have yq:H2 S=some (.lst []):=Hj _ _ bA;obtain⟨_,T2,n3,Vh,_,T6⟩:=J2.ym yq;have J3:=J2.La (s_:=[v,.ref kb2]) (f:=λ_=>(#[v,.ref kb2]:Array Value)) (ys:=[xv,.ref kb2]) (t':=s2.toks) yq T6 rfl (.cons T5 (.cons rfl .nil)) (by show 2<=sizeLine;decide);have W7:kb2≠S:=Ja J2 Ry yq;have P_:aI H H2:=L.trans Hj;refine go ?_
 show wpAny _ X.A.in1 (updateSeq S (λ_=>#[v,.ref kb2])>>=_) _ _ _;refine aM (wpAny_updateSeq T6 rfl ?_);rw[B6];refine bo ⟨kn nc _,?_⟩;exact GP hc G bd hr hq Vj hb ro rx hl TZ hk (λr u H' s' hx I' sm' ru=>⟨r,H',I',ru,hQ r H' hx sm'⟩) (xs.length - 1) 0 _ _ xv kb2 rfl iO J3 (P_.Bc Vj) bA Rw (Fs W7 Ry)
  ⟨oI,(wk s2.heap _ P').trans nI.1,Oc,Rx⟩ ⟨by rw[aN P'.symm];exact nI.2.1,Jc.2⟩
open Builtin Builtin.ObjectAttr
structure B7(K:Frag)(f:Addr):Prop where
 get:PySem.W.specialIn K (.ref f) "__get__"=some (some (.builtin "function.__get__"))
 tk:PySem.W.takesIn K (.ref f)=some false
def B8(I:Inv X U Z H s)(e:H a=some (.ins C dx fs))(c:C9 X.K C)(k:Meth X.K C m g)(l:fs.lookup m=none)(M:B7 X.K g)
  (T9:PySem.W.copiedNames.contains m=false) (h:∀q S,Inv X ((q,PySem.W.methodObj (.ref g) (.ref a))::U) Z H S->ae (.ref q) S):wpAny (model X.prog X.w) A (getAttr (.ref a) m b) ae E s:=by
 obtain⟨mA,O,r,_,_,_⟩:=tB I.cL e;have hn:mA m=none:=lN.none_of (by rw[<-l];exact r m);obtain⟨od,J,hl⟩:=O.look;refine PySem.W.get_bind I.nt J (oY (c.get m)).1 (PySem.W.findObj_fn c.hd k.at_ M.get M.tk T9 (by rw[hl,hn])) (oY (c.get m)).2 (wpAny_call (PySem.W.fn_get (s:={s with toks:=s.toks+1}) I.nt (fG.mp k.fn) (PySem.W.handed_on rfl (h s.heap.objs.size _ ?_))));have I1:Inv X U Z H {s with heap:=s.heap.push (PySem.W.methodObj (.ref g) (.ref a)),toks:=s.toks+1}:=I.kept λb u e=>cu _ e;refine I1.jQ λp L=>?_
 rcases a_.mp L with rfl|L
 .exact⟨cQ _ rfl,I.fresh,jh I.lt,I.RX (aZ _),λv z=>by cases z⟩
 .exact I1.pin p (dm _ L)
noncomputable def keyOf(r:Rs Tr):Option (Int×Int):=match r with
 |.ok (.tup [.int x,.int y])=>some (x,y)
 |_=>none
def Jd(h:keyOf r=some p):r=.ok (.tup [.int p.1,.int p.2]):=by
 unfold keyOf at h;split at h
 .cases h;rfl
 .cases h
def keysOf(h:List Tr->Rs Tr)(o:Tr):List Tr->Option (List (Int×Int))
 |[]=>some []
 |t::ts=>(keyOf (h [o,t])).bind λk=>(keysOf h o ts).map λks=>k::ks
theorem zh:∀{ts:List Tr} {ks:List (Int×Int)},keysOf h o ts=some ks->∀i t,ts[i]?=some t->h [o,t]=.ok (.tup [.int (ks.getD i (0,0)).1,.int (ks.getD i (0,0)).2])
 |[],_,_,i,t,e=>by simp at e
 |u::ts,ks,L,i,t,e=>by
  rw[keysOf]at L;cases b:keyOf (h [o,u])with
  |none=>rw[b]at L;cases L
  |some k=>
   rw[b]at L;cases g:keysOf h o ts with
   |none=>rw[g]at L;cases L
   |some r=>
    rw[g]at L;cases L;cases i with
    |zero=>simp at e;subst e;exact Jd b
    |succ i=>exact zh g i t (by simpa using e)
def vw(c m:Str)(h:List Tr->Rs Tr)(b o:Tr):Rs Tr:=match b,o with
 |.lst ts,.ob x fs=>if x=c/\CO fs m=true/\0<ts.length then match keysOf h (.ob x fs) ts with
  |some ks=>kc ts[cO (λi=>ks.getD i (0,0)) (ts.length - 1)]?
  |none=>.bad
  else .bad
 |_,_=>.bad
def Je(c m:Str)(h:List Tr->Rs Tr)(b g:Rs Tr):Rs Tr:=b.bind λL=>g.bind λo=>vw c m h L o
def GR(q:Fi X H (vw c m h g o) k):∃ts fs ks t,g=.lst ts/\o=.ob c fs/\CO fs m=true/\0<ts.length/\keysOf h (.ob c fs) ts=some ks/\ts[cO (λi=>ks.getD i (0,0)) (ts.length - 1)]?=some t/\k t:=by
 unfold vw at q;split at q
 .rename_i ts x fs;by_cases L:x=c/\CO fs m=true/\0<ts.length
  rotate_left
  .rw[aE L]at q;exact fe q
  rw[ay L]at q;obtain⟨rfl,h2,r⟩:=L;have z:=q;cases e:keysOf h (.ob x fs) ts with
  |none=>rw[e]at z;exact fe z
  |some ks=>
   rw[e]at z;cases b:ts[cO (λi=>ks.getD i (0,0)) (ts.length - 1)]? with
   |none=>simp only[b]at z;exact fe z
   |some t=>simp only[b]at z;exact⟨ts,fs,ks,t,rfl,rfl,h2,r,e,b,z⟩
 .exact fe q
theorem Jf{X:Cx}{O:bW->Rs Tr}(D:MethAt X.K c m st ps f aj)(Bn:B7 X.K f)(G:fL X.prog X.w X.K X.mg X.base qX k f aj ps (spT X.K h))(hr:cZ (k+1) X.A)(hm:X.mg "min"=none)(S:QE X l F)(ho:QE X o O)(hc:X.calm=true:=by rfl) (hg:Gl X "min":=by rfl) (cU:bK [l]=true:=by rfl) (hb:isCall o=false:=by rfl) (T9:PySem.W.copiedNames.contains m=false:=by decide):QE X (.Call (.Name "min" p) [l] [⟨some "key",.Attribute o m b9,ah⟩] pos) (λY=>Je c m h (F Y) (O Y)):=⟨by
 have S:=S.h;have ho:=ho.h;intro U s Z H Q I ⟨B,Y,hB,r,q⟩;refine mn (wR (u:=.builtin "min") I hg hm rfl ?_ (by decide) (by decide));refine callWith_kw (ej (qm S wY (bE _ _ (aK cU).1) pos U s Z H (λvs H1=>∃L,bp X.K (bJ B H1) vs [L]/\aI H H1/\Fi X H ((O Y).bind λo=>vw c m h L o) λt=>∀v H',aI H H'->Rep X.K (bJ B H') v t->Q v H') I ?_) λus s1 ⟨vs,H1,I1,rv,L,rl,b,k1⟩=>?_) (by rw[bE _ _ (aK cU).1];rfl) (cq cU)
 .exact⟨B,Y,hB,r,q.bind.mono λL qt v H1 s1 r1=>⟨L,.cons r1 .nil,s1,qt⟩⟩
 obtain⟨y,rfl,rl1⟩:=fN rl;refine kws_cons (EB (h8 hb) (ej (ho U s1 Z H1 (λx H2=>∃o,Rep X.K (bJ B H2) x o/\aI H1 H2/\Fi X H (vw c m h L o) λt=>∀v H',aI H H'->Rep X.K (bJ B H') v t->Q v H') I1 ⟨B,Y,hB.same b,r.same b,(k1.bind.same b).mono λo qo v H2 s2 r2=>⟨o,r2,s2,qo⟩⟩) λu2 s2 ⟨x,H2,I2,rx,ot,ro,g,k2⟩=>?_));obtain⟨ts,fs,ks,t,rfl,rfl,Hn,T_,hks,Jb,kq⟩:=GR k2;obtain⟨a1,xs,rfl,hl1,Im⟩:=rl1.lst_inv;obtain⟨a2,dx,g0,rfl,hh,ek,Lx⟩:=ro.zL;obtain⟨w1,rfl,rw1⟩:=vals1 rv;cases(show w1=Value.ref a1 from rw1);cases(show u2=Value.ref a2 from rx);refine B8 I2 (dO hh) D.cl D.mt (z4 ek Lx Hn) Bn T9 λq s3 I3=>kws_nil ?_
 have M:bp X.K (bJ B H2) xs ts:=Im.same (bx g);refine ej (GQ (H:=H2) (B:=B) (xs:=xs) (ts:=ts) (kf:=λi=>ks.getD i (0,0)) hc G D.bd hr (cJ ..) I3 ((hB.same b).same g) (.ob hh ek Lx) M (.of (g _ _ (dO hl1))) (by rwa[M.length]) (zh hks) λxb H3 hx P_=>?_) λw3 s4 ⟨v3,H3,I4,r3,q3⟩=>⟨v3,H3,I4.jQ λp hp=>I4.pin p (dm _ (cw _ hp)),r3,q3⟩;rw[M.length]at hx;obtain⟨t',e',rt'⟩:=M.Bf hx;cases Jb.symm.trans e';exact kq xb H3 ((b.trans g).trans P_) (rt'.same (bx P_))⟩
def Qa:Tr->Option Int->Option Int->Rs Tr
 |.tup ts,lo,hi=>.ok (.tup (xq ts lo hi))
 |t,lo,hi=>Wr t lo hi
def fZ(r:Rs Tr)(lo hi:Rs (Option Int)):Rs Tr:=r.bind λt=>lo.bind λl=>hi.bind λh=>Qa t l h
theorem DW{ts:List α}{lo:Option Int}(h:nC ts.length lo hi=true):xq ts lo hi=ts:=by
 unfold nC at h;rw[bC]at h;unfold xq;rw[eq_of_beq h.1,eq_of_beq h.2,List.drop_zero,Nat.sub_zero,List.take_length]
inductive T'(X:Cx)(x:V)(lo:Option Int)(hi:Option Int)(H:Hp)(Q:VK):Prop
 |mk (B:fj) (t:Tr):HB B H->Rep X.K (bJ B H) x t->(Fi X H (Qa t lo hi) λt=>∀v H',aI H H'->Rep X.K (bJ B H') v t->Q v H')->T' X x lo hi H Q
def Ua:Rj X (T' X):=by
 intro U s Z H x v M S lo hi sl Q I L hs pl pu ⟨B,t,hb,r,q⟩;by_cases hw:∃ts,t=.tup ts/\nC ts.length lo hi=true
 .obtain⟨ts,rfl,hw⟩:=hw;have b:∀v H',aI H H'->Rep X.K (bJ B H') v (.tup (xq ts lo hi))->Q v H':=q;rw[DW hw]at b;have r0:=r;cases r with
  |@tup a vs _ h rr=>
   cases L;obtain⟨bM,r2,g,hz⟩:=I.tuple h.up;have c6:bM.toArray.size=ts.length:=by rw[cE,<-r2.length];exact rr.length
   refine⟨"tuple",_,wa.lookup,g.typeIs,?_⟩;unfold nC at hw;rw[bC]at hw;exact HT.qN g hs pl pu (by rw[c6];exact⟨eq_of_beq hw.1,eq_of_beq hw.2⟩) ⟨.ref a,H,I,rfl,b _ H (aI.refl H) r0⟩
 .have e:Qa t lo hi=Wr t lo hi:=by
   cases t with
   |tup ts=>
    have:¬nC ts.length lo hi=true:=λz=>hw ⟨ts,rfl,z⟩;exact(aE this).symm
   |_=>rfl
  rw[e]at q;exact Ws U s Z H x v M S lo hi sl Q I L hs pl pu ⟨B,t,hb,r,q⟩
def pR{lo:Option Expr}(he:QE X e F)(b:QO X lo g)(I:QO X hi M):QE X (.Subscript e (.Slice lo hi none p2) pos) (λY=>fZ (F Y) (g Y) (M Y)):=⟨(HN Ua he.h b.h I.h).weak λZ H Q ⟨B,Y,hb,r,q⟩=>⟨B,Y,hb,r,q.bind.mono λt L v H1 s1 r1=>⟨B,Y,hb.same s1,r.same s1,(L.bind.same s1).mono λl S H2 s2=>⟨B,Y,hb.same (s1.trans s2),r.same (s1.trans s2),(S.bind.same (s1.trans s2)).mono λh qh H3 s3=>
  ⟨B,t,hb.same ((s1.trans s2).trans s3),r1.same (bx (s2.trans s3)),(qh.same ((s1.trans s2).trans s3)).mono λt L v H4 s4 r4=>L v H4 (((s1.trans s2).trans s3).trans s4) r4⟩⟩⟩⟩⟩
def GS:gY X (.type "range") (λxs H Q=>∃i j:Int,xs=[.int i,.int j]/\∀r,H r=none->Q (.ref r) (upd H r (.KH i j))):=by
 intro U s Z H xs us Q I r h;obtain⟨i,j,rfl,q⟩:=h;cases r with
 |cons r L=>
  cases L with
  |cons g L=>
   cases L;obtain⟨t,rfl⟩:=r;obtain⟨t',rfl⟩:=g;refine call_range_2 ?_
   exact⟨.ref s.heap.objs.size,_,I.laid (λb o e=>cu _ e) (aZ _) (show cN X.prog X.w _ _ _ (.KH i j)from⟨t,t',_,cQ _ rfl⟩),rfl,q _ (I.cL.fresh (aZ _))⟩
theorem Jg{i:Int}(h:ItemsOf (λk v=>∃t,v=.int (i+k*1) t) acc n):Vals (Ba i n) acc.toList:=by
 refine ud (by have:=h.1;rw[vf,qd];omega) λk x u L b=>?_
 rw[sF]at b;obtain⟨t,rfl⟩:=h.2 k u b;unfold Ba at L;rw[b_]at L;cases e:(List.range n)[k]? with
 |none=>rw[e]at L;cases L
 |some m=>
  rw[e]at L;cases L;have:m=k:=by
   have:=gy.mp e;obtain⟨g,h2⟩:=this;rw[List.getElem_range]at h2;exact h2.symm
  subst this;exact⟨t,by rw[Int.mul_one]⟩
theorem DX{X:Cx}(b:X.calm=true):gY X (.type "list") (λxs H Q=>∃(r:Addr) (i j:Int),xs=[.ref r]/\H r=some (.KH i j)/\(-(2 ^62)<=i/\i<2 ^62/\-(2 ^62)<=j/\j<2 ^62)/\(j - i).toNat<=sizeLine/\∀l,H l=none->Q (.ref l) (upd H l (.lst (Ba i (j - i).toNat)))):=by
 intro U s Z H xs us Q I r h;obtain⟨p,i,j,rfl,g,⟨M,b2,b3,b4⟩,L,q⟩:=h;obtain⟨u,rfl,S⟩:=vals1 r;cases(show u=Value.ref p from S);obtain⟨t,u,v,ho⟩:=(show cN X.prog X.w H s.heap p (.KH i j)from I.cL p _ g);refine call_list_range (n:=(j - i).toNat) (I.ok.hd b) ho (small_one M b2 b3 b4) (by rw[rangeSize_one];split<;>omega) (by rw[eW]at L;exact L) λh' tk acc c' hk hl zY=>?_
 exact⟨.ref s.heap.objs.size,_,I.laid (t':=tk) (o:=.lst (Ba i (j - i).toNat)) hk (aZ _) ⟨by rwa[vf],acc.toList,c',Jg zY,by rwa[sH]⟩,rfl,q _ (I.cL.fresh (aZ _))⟩
theorem Jh:bp K W (Ba i n) (oO i n):=by
 unfold Ba oO
 induction List.range n with
 |nil=>exact .nil
 |cons k l L=>exact .cons (.int _) L
def Ml{X:Cx}{b:Expr}(I:X.mg "list"=none)(hm:X.mg "range"=none)(S:QA X [ag,b] L)(hc:X.calm=true:=by rfl) (hg:Gl X "list":=by rfl) (Vk:Gl X "range":=by rfl) (cU:bK [ag,b]=true:=by rfl):NE X (.Call (.Name "list" p) [.Call (.Name "range" p') [ag,b] [] pos'] [] pos) (λY=>Bl (Il (L Y))):=⟨(qq (DX hc) hg I rfl (qm (qq GS Vk hm rfl S.h (by decide) (by decide) (bE _ _ (aK cU).1) (cq (aK cU).2)) wY)).weak λZ H Q ⟨B,Y,hb,r,q⟩=>⟨B,Y,hb,r,q.bind.bind.mono λts g vs H1 s1 r1=>by
  split at g
  .rename_i i j;obtain⟨_,_,e,h1,h2⟩:=Bj r1;rw[h1.int_inv,h2.int_inv]at e;split at g
   .rename_i hj;have g:Fi X H (if(oO i (j - i).toNat).length<=cX then Rs.ok (Tr.lst (oO i (j - i).toNat))else .bad) _:=g;by_cases M:(oO i (j - i).toNat).length<=cX
    .rw[ay M]at g;rw[lu,iN]at M;refine⟨_,_,e,λr hr=>⟨r,i,j,rfl,bA,by omega,M,λl I=>?_⟩⟩;have s2:=s1.trans (aI.upd (o:=.KH i j) hr);exact g (.ref l) _ (s2.trans (aI.upd I)) (.zO (hb.same s2) I Jh) λp e=>by cases e;exact .upd (s2.free I) (λ_ _ z=>by cases z)
    .rw[aE M]at g;exact g.elim
   .exact g.elim
  .exact g.elim⟩⟩
def cT(h:ZE X e F):ZO X e F:=⟨h.h⟩
def aD:QA X [] (λ_=>.ok []):=⟨ES⟩
def aq(b:QE X ag F)(g:QA X es L)(hs:isStar ag=false:=by rfl):QA X (ag::es) (λY=>Bk (F Y) (L Y)):=⟨zM b.h g.h hs⟩
def aG:ZL X [] (λ_ A=>.ok [] A):=⟨ID⟩
def au(b:ZE X ag F)(g:ZL X es L)(hs:isStar ag=false:=by rfl):ZL X (ag::es) (λY A=>Fe (F Y A) (L Y)):=⟨Ff b.h g.h hs⟩
def z_(b:QE X k F)(g:QE X c7 G)(q:QP X pos keys vals P):QP X pos (some k::keys) (c7::vals) λY=>Ir (F Y) (G Y) (P Y):=LW b.h g.h q
def yd.okQ {fd:FuncData}{h:List Tr->Rs Tr}(g:yd K x qual st f fd)(S:gC N ps (bb st))(len:∀ts t,h ts=.ok t->ts.length=ps.length)
  (r:∀(b:Value) (A:Around) (outer:List Env) (s:Shared) (H:Hp) (E:XK),cZ k (A.deeper (envOfC qual (bb st) s.heap.objs.size f b))->
   ∃G,QB (oN qX P w K mg base N qual (bb st) f b A outer s H E).Hd (fH st) G/\∀ts t,h ts=.ok t->eI (G (startT N.length ts))=.ok t):fL P w K mg base qX (k+1) f fd ps (spT K h):=
 g.ZZ S len λb A outer s H E L=>let⟨G,h,q⟩:=r b A outer s H E L;⟨G,h.h,q⟩
def yd.W9 {fd:FuncData}{h:List Tr->Rs Tr}(g:yd K x qual st f fd)(S:gC N ps (bb st))(len:∀ts t,h ts=.ok t->ts.length=ps.length)
  (r:∀(b:Value) (A:Around) (outer:List Env) (s:Shared) (H:Hp) (E:XK),cZ k (A.deeper (envOfC qual (bb st) s.heap.objs.size f b))->
   ∃G,ZB (oN qX P w K mg base N qual (bb st) f b A outer s H E).Hd (fH st) G/\∀ts t,h ts=.ok t->fm ts=true/\mV (G (startT N.length ts) [])=.ok t):fL P w K mg base qX (k+1) f fd ps (spT K h):=
 g.Z7 S len λb A outer s H E L=>let⟨G,h,q⟩:=r b A outer s H E L;⟨G,h.h,q⟩
def lA(b:ZE X k F)(g:ZE X c7 G)(q:PV X pos keys vals P):PV X pos (some k::keys) (c7::vals) λY A=>IT (F Y A) (G Y) (P Y):=IU b.h g.h q
def DY(h:PV X pos keys vals P)(b:keys.all (·.isSome)=true:=by rfl) (g:keys.length=vals.length:=by rfl) (h0:keys.isEmpty=false:=by rfl) (q:keys.length<=15:=by decide):ZE X (.Dict keys vals pos) (λY A=>PX (P Y) A):=⟨Mf h b g h0 q⟩
def fu(h:JQ X (c7::ag::af) J):QE X (.JoinedStr (c7::ag::af) pos) (λY=>J Y Str.empty):=⟨L5 h.h⟩
def Mm{X:Cx}{g:List Stmt}(q:qD X.K X.mg c xs)(hb:∀pn b,ZB (X.kE pn b) body G)(hs:∀pn e,ZB (X.pQ pn e) (st::g) r)(I:X.N.Nodup)(hi:X.N[aa]?=some n:=by rfl) (M:X.env.scope.names.lookup n=some .local:=by rfl)
  (cU:X.stack=X.env::X.outer:=by rfl) (hf:X.env.frame=some X.env.locals:=by rfl) (S:X.ex=[]:=by rfl) (KO:CV X n:=by exact .inl rfl) (hg:Gl X c:=by rfl) (iH:Db c:=by decide):
  ZS X (.Try body [.ExceptHandler (some (.Name c tp)) (some n) (st::g) hp] [] [] pos) (λY A=>BW X.N.length aa xs (G Y A) r):=⟨IS q (λpn b=>(hb pn b).h) (λpn e=>(hs pn e).h) I hi M cU hf S KO hg iH⟩
def yd.W_ {fd:FuncData}{h:List Tr->Ab->Rz Tr}(g:yd K x qual st f fd)(S:gC N ps (bb st))(len:∀ts A,h ts A≠ .bad->ts.length=ps.length)
  (r:∀(b:Value) (A:Around) (outer:List Env) (s:Shared) (H:Hp) (E:XK),cZ k (A.deeper (envOfC qual (bb st) s.heap.objs.size f b))->
   ∃G,ZB (oN (y2 P w) P w K mg base N qual (bb st) f b A outer s H E) (fH st) G/\∀ts A,h ts A≠ .bad->h ts A=bf (G (startT N.length ts) A)):fL P w K mg base (y2 P w) (k+1) f fd ps (AG K h):=
 g.okS S len λb A outer s H E L=>let⟨G,h,q⟩:=r b A outer s H E L;⟨G,h.h,q⟩
noncomputable def Ji(K:Frag)(D:Addr):Bool:=decide (findIn K (.ref D) "__getattribute__"=some (some (.builtin "BaseException.__getattribute__")))&&(decide (findIn K (.ref D) "__getattr__"=some none)&&(decide (findIn K (.ref D) "__class__"=some (some (.builtin "object.__class__")))&&(decide (mroIn K D (.type "object")=some true)&&decide (mroIn K D (.type "BaseException")=some true))))
def Mn{K:Frag}(h:Ji K D=true):z7 K D:=by
 unfold Ji at h;rw[bC,bC,bC,bC]at h;exact⟨fo h.1,fo h.2.1,fo h.2.2.1,fo h.2.2.2.1,fo h.2.2.2.2⟩
def Ub(K:Frag)(u:Value)(tab:List (Str×Bool)):Bool:=tab.all λp=>decide (kitOne K (.ref (clsAt K p.1)) u=some p.2)
def Uc(K:Frag)(xs:List Str):Bool:=xs.all λx=>Ji K (clsAt K x)&&(clsIn K (clsAt K x)).isSome
theorem f9:∀{l:List (Str×α)} {a:α},l.lookup z=some a->(z,a)∈l
 |[],_,h=>by cases h
 |(y,b)::l,a,h=>by
  rw[cn]at h;cases e:(z==y)with
  |true=>rw[e]at h;cases h;rw[eq_of_beq e];exact cJ ..
  |false=>rw[e]at h;exact cw _ (f9 h)
def Qb{K:Frag}{tab:List (Str×Bool)}(h:Ub K u tab=true)(q:Uc K xs=true)(e:tab.map (·.1)=xs):jD K u tab:=⟨λx b L=>by
 have m:=f9 L;have g:=fo (fU.mp h _ m);have r:x∈xs:=by rw[<-e];exact jH m
 have h2:=fU.mp q x r;rw[bC]at h2;exact⟨g,Mn h2.1,h2.2⟩⟩
def Ud(K:Frag)(c:Str)(xs:List Str):Bool:=xs.all λx=>decide (exmOne K (.ref (clsAt K x)) (.ref (clsAt K c))=some true)
def Jj{K:Frag}{mg:Str->Option Value}(m:mg c=some (.ref (clsAt K c)))(h:Ud K c xs=true):qD K mg c xs:=⟨m,λx L=>fo (fU.mp h x L)⟩
theorem Vl{P:List Value->Prop}(h:P []):∀us:List Value,us.length=0->P us
 |[],_=>h
theorem Ue{P:List Value->Prop}(h:∀a us,us.length=aa->P (a::us)):∀us:List Value,us.length=aa+1->P us
 |a::us,e=>h a us (Nat.succ.inj e)
def Vm{P:List Value->Prop}(h:∀a,P [a]):∀us:List Value,us.length=1->P us:=Ue λa=>Vl (P:=λl=>P (a::l)) (h a)
def Vn{P:List Value->Prop}(h:∀a b,P [a,b]):∀us:List Value,us.length=2->P us:=Ue λa=>Vm (P:=λl=>P (a::l)) (h a)
def Vo{P:List Value->Prop}(h:∀a b c,P [a,b,c]):∀us:List Value,us.length=3->P us:=Ue λa=>Vn (P:=λl=>P (a::l)) (h a)
def Vp{P:List Value->Prop}(h:∀a b c d,P [a,b,c,d]):∀us:List Value,us.length=4->P us:=Ue λa=>Vo (P:=λl=>P (a::l)) (h a)
def Xa{P:List Value->Prop}(h:∀a b c d e,P [a,b,c,d,e]):∀us:List Value,us.length=5->P us:=Ue λa=>Vp (P:=λl=>P (a::l)) (h a)
noncomputable def Mo(K:Frag)(C:Addr):Bool:=plainGet K C Str.empty&&(hasDictIn K C&&(plainOver K C&&decide (findIn K (.ref C) "__setattr__"=some (some (.builtin "object.__setattr__")))))
def Jk{K:Frag}(h:Mo K C=true):C9 K C:=by
 unfold Mo at h;rw[bC,bC,bC]at h;exact⟨h.1,h.2.1,h.2.2.1,fo h.2.2.2⟩
def Xb(K:Frag)(C:Addr)(fs:List Str):Bool:=fs.all λf=>decide (findIn K (.ref C) f=some none)
def DD.gk {K:Frag}{w:World}{kvs:List (Str×Value)}{mg:Str->Option Value}(h:DD K w es kvs bg)(hm:mg x=some (.ref a))(b:K.lookup a=some ⟨.type "dict",none,.dict es.toArray ep,#[]⟩) (hs:(a==sysModules)=false) (hn:(kvs.map (·.1)).Nodup) (g:∀z∈kvs.map (·.1),z.length<=cy):DR K w mg x (kvs.map (·.1)):=
 ⟨a,kvs,hm,⟨hs,_,_,_,b,⟨rfl,rfl,rfl⟩,rfl,λprog=>⟨λe he=>h.keys prog e (by simpa using he),h.pairs prog,hn⟩⟩,rfl,g⟩
structure Df where
 c:Option Str
 x:Str
 q:Str
 st:Stmt
 ps:List Str
def mtA(K:Frag)(c m:Str):Addr:=match findIn K (.ref (clsAt K c)) m with
 |some (some (.ref a))=>a
 |_=>0
noncomputable def Xc(K:Frag)(a:Addr):FuncData:=match K.lookup a with
 |some ⟨_,_,.func d,_⟩=>d
 |_=>default
noncomputable def Xd(K:Frag)(a:Addr):Bool:=match K.lookup a with
 |some ⟨_,_,.func _,_⟩=>true
 |_=>false
def Qc{K:Frag}(h:Xd K a=true):∃b od HL,K.lookup a=some ⟨b,od,.func (Xc K a),HL⟩:=by
 unfold Xd at h;unfold Xc;split at h
 .rename_i e;rw[e];exact⟨_,_,_,rfl⟩
 .cases h
namespace Df
def adr(K:Frag)(d:Df):Addr:=match d.c with
 |none=>clsAt K d.x
 |some c=>mtA K c d.x
def fd(K:Frag)(d:Df):FuncData:=Xc K (d.adr K)
def re(d:Df)(f:FuncData):FuncData:=fnOf d.x d.q (vP d.st) (fH d.st) (bb d.st) .none f.kwdefaults f.doc f.pyModule f.annotations f.code f.closureTuple
def isAt(K:Frag)(d:Df):Bool:=match d.c with
 |none=>decide (nsIn K mainGlobals d.x=some (some (.ref (d.adr K))))
 |some c=>decide (findIn K (.ref (clsAt K c)) d.x=some (some (.ref (d.adr K))))&&(isFn K (.ref (d.adr K))&&Mo K (clsAt K c))
def NR(K:Frag)(d:Df):Bool:=Xd K (d.adr K)&&(codeIn K (d.fd K).code d.q&&(keepIn K (.ref (d.adr K))&&d.isAt K))
structure Ok(K:Frag)(mg:Str->Option Value)(d:Df):Prop where
 fn:yd K d.x d.q d.st (d.adr K) (d.fd K)
 m0:d.c=none->mg d.x=some (.ref (d.adr K))
 m1:∀c,d.c=some c->Meth K (clsAt K c) d.x (d.adr K)/\C9 K (clsAt K c)
def of{K:Frag}{d:Df}(X:K.In h)(G:h.Ns mainGlobals mg)(e:d.fd K=d.re (d.fd K))(k:d.NR K=true):d.Ok K mg:=by
 unfold NR at k;rw[bC,bC,bC]at k;obtain⟨k1,k2,k3,L⟩:=k;obtain⟨b,od,HL,l⟩:=Qc k1;refine⟨⟨⟨b,od,_,_,_,_,_,_,HL,e,l,k2⟩,k3⟩,λz=>?_,λc z=>?_⟩<;>unfold isAt at L<;>rw[z]at L
 .exact mg_of X G (fo L)
 .rw[bC,bC]at L;exact⟨⟨fo L.1,L.2.1,k3⟩,Jk L.2.2⟩
end Df
theorem Jl{K:Frag}(X:K.In h)(G:h.Ns mainGlobals mg):∀{ds:List Df},ds.map (Df.fd K)=ds.map (λd=>d.re (d.fd K))->ds.all (Df.NR K)=true->∀d∈ds,d.Ok K mg
 |[],_,_,d,m=>nomatch m
 |a::ds,e,k,d,m=>by
  rw[i9,bC]at k;rw[aX,aX]at e;injection e with L b
  rcases a_.mp m with rfl|m
  .exact Df.of X G L k.1
  .exact Jl X G b k.2 d m
section
variable {P:Program}{w:World}{K:Frag}{mg:Str->Option Value}{d:Df}{N:List Str}{k:Nat}
structure CQ(P:Program)(w:World)(K:Frag)(mg:Str->Option Value)(base:Heap)(CX:K4)(aa:Nat)(d:Df)(sp:Sp):Prop where
 ok:fL P w K mg base CX aa (d.adr K) (d.fd K) d.ps sp
 bd:Binds K (d.fd K) d.ps []
 df:d.Ok K mg
abbrev Xe(d:Df):Prop:=∀(kV doc pm:Value) (an:Option Addr) (fM ct:Value) (us:List Value),us.length=d.ps.length->bindArgs (fnOf d.x d.q (vP d.st) (fH d.st) (bb d.st) .none kV doc pm an fM ct) ⟨us,[]⟩=pure (d.ps.zip us)
abbrev Xf(CX:K4)(P:Program)(w:World)(K:Frag)(mg:Str->Option Value)(base:Heap)(N:List Str)(d:Df):=oN CX P w K mg base N d.q (bb d.st) (d.adr K)
abbrev Jm(K:Frag)(d:Df)(k:Nat)(fM:Value)(A:Around)(s:Shared):Prop:=cZ k (A.deeper (envOfC d.q (bb d.st) s.heap.objs.size (d.adr K) fM))
def dY(N:List Str){a b:Nat}(D:d.Ok K mg)(hb:N.Nodup->∀g A outer s H E,Jm K d k g A s->ZB (Xf (y2 P w) P w K mg base N d g A outer s H E) (fH d.st) G)(S:gC N d.ps (bb d.st):=by exact⟨rfl,rfl,rfl,by decide,rfl,by decide,by decide⟩) (B:Xe d:=by exact λ_ _ _ _ _ _=>by first|exact Vl rfl|exact Vm λ_=>rfl|exact Vn λ_ _=>rfl|exact Vo λ_ _ _=>rfl|exact Vp λ_ _ _ _=>rfl|exact Xa λ_ _ _ _ _=>rfl) (q:d.ps.length=a:=by rfl) (r:N.length=b:=by rfl):
  CQ P w K mg base (y2 P w) (k+1) d (AG K (dB a b G)):=by
 subst q;subst r;exact⟨yd.W_ D.fn S (λts A e=>BR e) λg A outer s H E L=>⟨G,hb S.nd g A outer s H E L,λts A e=>L_ e⟩,D.fn.binds B,D⟩
def lY(N:List Str){a b:Nat}(D:d.Ok K mg)(hb:N.Nodup->∀g A outer s H E,Jm K d k g A s->QB (Xf qX P w K mg base N d g A outer s H E).Hd (fH d.st) G)(S:gC N d.ps (bb d.st):=by exact⟨rfl,rfl,rfl,by decide,rfl,by decide,by decide⟩) (B:Xe d:=by exact λ_ _ _ _ _ _=>by first|exact Vl rfl|exact Vm λ_=>rfl|exact Vn λ_ _=>rfl|exact Vo λ_ _ _=>rfl|exact Vp λ_ _ _ _=>rfl|exact Xa λ_ _ _ _ _=>rfl) (q:d.ps.length=a:=by rfl) (r:N.length=b:=by rfl):
  CQ P w K mg base qX (k+1) d (spT K (uK a b G)):=by
 subst q;subst r;exact⟨yd.okQ D.fn S (λts t e=>LU e) λg A outer s H E L=>⟨G,hb S.nd g A outer s H E L,λts t e=>Pj e⟩,D.fn.binds B,D⟩
def Qd(N:List Str){a b:Nat}(D:d.Ok K mg)(hb:N.Nodup->∀g A outer s H E,Jm K d k g A s->ZB (Xf qX P w K mg base N d g A outer s H E).Hd (fH d.st) G)(S:gC N d.ps (bb d.st):=by exact⟨rfl,rfl,rfl,by decide,rfl,by decide,by decide⟩) (B:Xe d:=by exact λ_ _ _ _ _ _=>by first|exact Vl rfl|exact Vm λ_=>rfl|exact Vn λ_ _=>rfl|exact Vo λ_ _ _=>rfl|exact Vp λ_ _ _ _=>rfl|exact Xa λ_ _ _ _ _=>rfl) (q:d.ps.length=a:=by rfl) (r:N.length=b:=by rfl):
  CQ P w K mg base qX (k+1) d (spT K (vH a b G)):=by
 subst q;subst r;exact⟨yd.W9 D.fn S (λts t e=>IE e) λg A outer s H E L=>⟨G,hb S.nd g A outer s H E L,λts t e=>LY e⟩,D.fn.binds B,D⟩
def CQ.da {x:Str}(C:CQ P w K mg base CX aa d sp)(g:d.c=none)(b:d.x=x)(r:d.q=x):EN K mg x d.st d.ps (d.adr K) (d.fd K):=
 ⟨by have f:=C.df.fn;rw[b,r]at f;exact f,C.bd,by have m:=C.df.m0 g;rw[b]at m;exact m⟩
def CQ.ma {m:Str}(C:CQ P w K mg base CX aa d sp)(b:d.c=some c)(g:d.x=m):MethAt K c m d.st d.ps (d.adr K) (d.fd K):=
 ⟨⟨d.q,by have f:=C.df.fn;rw[g]at f;exact f⟩,C.bd,by have m:=(C.df.m1 c b).1;rw[g]at m;exact m,(C.df.m1 c b).2⟩
structure GU(K:Frag)(mg:Str->Option Value)(c:Str):Prop where
 m:makesIn K (clsAt K c)=true
 k:keepIn K (.ref (clsAt K c))=true
 g:mg c=some (.ref (clsAt K c))
def CQ.mk' (C:CQ P w K mg base CX aa d sp)(M:GU K mg c)(b:d.c=some c)(q:d.x="__init__"):DN K mg c d.ps (d.adr K) (d.fd K):=
 ⟨by have m:=(C.df.m1 c b).1;rw[q]at m;exact⟨M.m,m.at_,m.fn,M.k⟩,C.bd,M.g⟩
end
section
variable {X:Cx}{d:Df}{k:Nat}{e l:Expr}{kp pos b9:Pos}{x c m:Str}
section
variable {F O:bW->Rs Tr}{L:bW->Rs (List Tr)}{h:List Tr->Rs Tr}(C:CQ X.prog X.w X.K X.mg X.base qX aa d (spT X.K h))
include C
theorem du(b:cZ k X.A)(g:QA X (e::af) L)(r:aa<=k:=by first|decide|omega) (I:d.c=none:=by rfl) (M:d.x=x:=by rfl) (S:d.q=x:=by rfl) (hg:Gl X x:=by rfl) (iH:Db x:=by decide) (cU:bK (e::af)=true:=by rfl):QE X (.Call (.Name x ah) (e::af) [] pos) (λY=>gn h (L Y)):=
 SO (C.da I M S) (C.ok.mono r) b g hg iH cU
theorem pS(b:cZ k X.A)(g:QE X ag F)(q:QA X (e::af) L)(r:aa<=k:=by first|decide|omega) (I:d.c=some c:=by rfl) (M:d.x=m:=by rfl) (cU:bK (e::af)=true:=by rfl) (S:eval (.Call (.Attribute ag m b9) (e::af) [] pos) X.env=yh pos b9 ag m (e::af) X.env pl:=by rfl):QE X (.Call (.Attribute ag m b9) (e::af) [] pos) (λY=>zc c m h (F Y) (L Y)):=
 PL (C.ma I M) (C.ok.mono r) b g q cU S
theorem Ft(b:cZ k X.A)(g:QE X ag F)(q:aa<=k:=by first|decide|omega) (r:d.c=some c:=by rfl) (I:d.x=m:=by rfl) (M:eval (.Call (.Attribute ag m b9) [] [] pos) X.env=yh pos b9 ag m [] X.env pl:=by rfl):QE X (.Call (.Attribute ag m b9) [] [] pos) (λY=>zc c m h (F Y) (.ok [])):=
 L9 (C.ma r I) (C.ok.mono q) b g M
theorem Jn(b:B7 X.K (d.adr X.K))(g:cZ (k+1) X.A)(hm:X.mg "min"=none)(q:QE X l F)(r:QE X ag O)(I:aa<=k:=by first|decide|omega) (M:d.c=some c:=by rfl) (S:d.x=m:=by rfl) (ca:X.calm=true:=by rfl) (hg:Gl X "min":=by rfl) (cU:bK [l]=true:=by rfl) (hb:isCall ag=false:=by rfl) (T9:PySem.W.copiedNames.contains m=false:=by decide):
  QE X (.Call (.Name "min" ah) [l] [⟨some "key",.Attribute ag m b9,kp⟩] pos) (λY=>Je c m h (F Y) (O Y)):=
 Jf (C.ma M S) b (C.ok.mono I) g hm q r ca hg cU hb T9
end
section
variable {F:bW->Ab->Rz Tr}{L:bW->Ab->Rz (List Tr)}{h:List Tr->Ab->Rz Tr}(C:CQ X.prog X.w X.K X.mg X.base (y2 X.prog X.w) aa d (AG X.K h))
include C
theorem iI(b:cZ k X.A)(g:ZL X (e::af) L)(r:aa<=k:=by first|decide|omega) (I:d.c=none:=by rfl) (M:d.x=x:=by rfl) (S:d.q=x:=by rfl) (he:X.ex=[]:=by rfl) (hg:Gl X x:=by rfl) (iH:Db x:=by decide) (cU:bK (e::af)=true:=by rfl):ZE X (.Call (.Name x ah) (e::af) [] pos) (λY A=>(L Y A).bind h):=
 Tv (C.da I M S) (C.ok.mono r) b g he hg iH cU
theorem aV(b:cZ k X.A)(g:ZO X ag F)(q:ZL X (e::af) L)(r:aa<=k:=by first|decide|omega) (I:d.c=some c:=by rfl) (M:d.x=m:=by rfl) (he:X.ex=[]:=by rfl) (cU:bK (e::af)=true:=by rfl) (S:eval (.Call (.Attribute ag m b9) (e::af) [] pos) X.env=yh pos b9 ag m (e::af) X.env pl:=by rfl):ZE X (.Call (.Attribute ag m b9) (e::af) [] pos) (λY A=>vt c m h (F Y A) (L Y)):=
 PM (C.ma I M) (C.ok.mono r) b g q he cU S
theorem Aa(b:cZ k X.A)(g:ZO X ag F)(q:aa<=k:=by first|decide|omega) (r:d.c=some c:=by rfl) (I:d.x=m:=by rfl) (he:X.ex=[]:=by rfl) (M:eval (.Call (.Attribute ag m b9) [] [] pos) X.env=yh pos b9 ag m [] X.env pl:=by rfl):ZE X (.Call (.Attribute ag m b9) [] [] pos) (λY A=>vt c m h (F Y A) λA=>.ok [] A):=
 L' (C.ma r I) (C.ok.mono q) b g he M
theorem Qe(M:GU X.K X.mg c)(b:cZ (k+1) X.A)(g:ZL X (e::af) L)(q:aa<=k:=by first|decide|omega) (r:d.c=some c:=by rfl) (I:d.x="__init__":=by rfl) (he:X.ex=[]:=by rfl) (S:Gl X c:=by rfl) (iH:Db c:=by decide) (cU:bK (e::af)=true:=by rfl):ZE X (.Call (.Name c ah) (e::af) [] pos) (λY A=>BV c h (L Y A)):=
 PR (C.mk' M r I) (C.ok.mono q) b g he S iH cU
theorem Mp(M:GU X.K X.mg c)(b:cZ (k+1) X.A)(g:aa<=k:=by first|decide|omega) (q:d.c=some c:=by rfl) (r:d.x="__init__":=by rfl) (he:X.ex=[]:=by rfl) (I:Gl X c:=by rfl) (iH:Db c:=by decide):ZE X (.Call (.Name c ah) [] [] pos) (λ_ A=>BV c h (.ok [] A)):=
 Mc (C.mk' M q r) (C.ok.mono g) b he I iH
end
end
def Qg(nn:Nat){X:Cx}{i:Nat}{g:List Stmt}(q:qD X.K X.mg c xs)(hb:∀pn r,ZB (X.kE pn r) body G)(hs:∀pn e,ZB (X.pQ pn e) (st::g) I)(M:X.N.Nodup)(hi:X.N[i]?=some n:=by rfl) (S:X.env.scope.names.lookup n=some .local:=by rfl)
  (cU:X.stack=X.env::X.outer:=by rfl) (hf:X.env.frame=some X.env.locals:=by rfl) (hx:X.ex=[]:=by rfl) (KO:CV X n:=by exact .inl rfl) (hg:Gl X c:=by rfl) (b:X.N.length=nn:=by rfl) (iH:Db c:=by decide):
  ZS X (.Try body [.ExceptHandler (some (.Name c tp)) (some n) (st::g) hp] [] [] pos) (λY A=>BW nn i xs (G Y A) I):=by
 subst b;exact Mm q hb hs M hi S cU hf hx KO hg iH
def Jo:aJ n A (.tup ts)=.tup ts:=by cases n<;>rfl
def xE:aJ n A (.str z)=.str z:=by cases n<;>rfl
def DZ:aJ n A (.int z)=.int z:=by cases n<;>rfl
def Jp:aJ n A (.bl z)=.bl z:=by cases n<;>rfl
def Qh:aJ n A .bL=.bL:=by cases n<;>rfl
def Qi:aJ n A (.vg ns)=.vg ns:=by cases n<;>rfl
def ju{A:Ab}{n:Nat}(h:A[aa]?=some (.ins c fs)):aJ (n+1) A (.at aa)=.ob c (fs.map λp=>(p.1,aJ n A p.2)):=by simp only[aJ,h]
def lZ{A:Ab}{n:Nat}(h:A[aa]?=some (.lst ts)):aJ (n+1) A (.at aa)=.lst (ts.map (aJ n A)):=by simp only[aJ,h]
def gQ{A:Ab}{n:Nat}(h:A[aa]?=some (.bh bg)):aJ (n+1) A (.at aa)=.bh (bg.map λp=>(p.1,aJ n A p.2)):=by simp only[aJ,h]
def dz(ts:List Tr):Prop:=∀t∈ts,∃us,t=.tup us
def vV(h:dz ts):ts.map (aJ n A)=ts:=by
 conv=>rhs;rw[<-mC ts]
 exact jI λt L=>by obtain⟨us,rfl⟩:=h t L;exact Jo
def iJ(bg:List (Key×Tr)):Prop:=∀p∈bg,∀n A,aJ n A p.2=p.2
def jU(h:iJ bg):(bg.map λp=>(p.1,aJ n A p.2))=bg:=by
 conv=>rhs;rw[<-mC bg]
 exact jI λp L=>by rw[h p L];rfl
structure Ext(A A':Ab)(pins:List (Nat×Ao)):Prop where
 le:A.length<=A'.length
 at':∀k o,A[k]?=some o->A'[k]?=some ((pins.lookup k).getD o)
def Ext.refl:Ext A A []:=⟨aZ _,λk o e=>e⟩
def Ext.trans {V:List (Nat×Ao)}(a:Ext A A' pins)(b:Ext A' g V):Ext A g (V++pins):=⟨bI a.le b.le,λk o e=>by
 rw[b.at' k _ (a.at' k o e),List.lookup_append];cases V.lookup k<;>rfl⟩
theorem Ext.put {A:Ab}{i:Nat}(h:A[i]?=some b):Ext A (A.set i o) [(i,o)]:=⟨by rw[ki];exact aZ _,λk x e=>by
 by_cases L:k=i
 .subst L;rw[kW (gy.mp e).1];simp only[List.lookup,aU,Option.getD]
 .rw[kY (Ne.symm L),e];have:(k==i)=false:=by simpa using L
  simp only[List.lookup,this,Option.getD]⟩
def Ext.push {o:Ao}:Ext A (A++[o]) []:=⟨by simp,λk x e=>by rw[p_ (gy.mp e).1,e];rfl⟩
def jV{A:Ab}{o:Ao}:(A++[o])[A.length]?=some o:=by simp
def bw{β:Type}:(∀(a:α) (f:α->Rs β),(Rs.ok a).bind f=f a)/\(∀(a:α) (A:Ab) (f:α->Ab->Rz β),(Rz.ok a A).bind f=f a A)/\(∀(c:Tr) (A:Ab) (f:α->Ab->Rz β),(Rz.exc c A:Rz α).bind f=.exc c A):=⟨λ_ _=>rfl,λ_ _ _=>rfl,λ_ _ _=>rfl⟩
def bT(a:α)(A:Ab):lx (.ok a) A=.ok a A:=rfl
def ev:(∀Y A G,zV (.ok (.nx Y) A) G=G Y A)/\(∀t A G,zV (.ok (.ret t) A) G=.ok (.ret t) A)/\(∀c A G,zV (.exc c A) G=.exc c A)
  /\(∀i t A Y,Gw i (.ok t A) Y=.ok (.nx (Y.set i (.sh t))) A)/\(∀i c A Y,Gw i (.exc c A) Y=.exc c A)
  /\(∀t A Y,oy (.ok t A) Y=.ok (.nx Y) A)/\(∀c A Y,oy (.exc c A) Y=.exc c A)/\(∀t A,Gx (.ok t A)=.ok (.ret t) A)/\(∀c A,Gx (.exc c A)=.exc c A)
  /\(∀Y A,bf (.ok (.nx Y) A)=.ok .bL A)/\(∀t A,bf (.ok (.ret t) A)=.ok t A)/\(∀c A,bf (.exc c A)=.exc c A)
  /\(∀x A l,Fe (.ok x A) l=(l A).bind λxs A=>.ok (x::xs) A)/\(∀x l,Bk (.ok x) l=l.bind λxs=>.ok (x::xs))
  /\(∀h x y,Ky h (.ok x) (.ok y)=h x y)/\(∀h l,gn h (.ok l)=h l)/\(∀b,Vb (.ok (.bl b))=.ok b)
  /\(∀A a b,WD (.ok true A) a b=a A)/\(∀A a b,WD (.ok false A) a b=b A)/\(∀a b,SR (.ok true) a b=a)/\(∀a b,SR (.ok false) a b=b)
  /\(∀c Y n,zK (c::Y) (n+1)=zK Y n)/\(∀t Y,zK (.sh t::Y) 0=.ok t)/\(∀A t Y,eJ A (.sh t::Y)=.sh (aJ 5 A t)::eJ A Y)/\(∀A Y,eJ A (.no::Y)=.no::eJ A Y)/\(∀A,eJ A []=[])
  /\(xm (.ok [])=.ok (.tup []))/\(∀a,xm (.ok [a])=.ok (.tup [a]))/\(∀a b,xm (.ok [a,b])=.ok (.tup [a,b]))/\(∀a b c,xm (.ok [a,b,c])=.ok (.tup [a,b,c]))/\(∀a b c d,xm (.ok [a,b,c,d])=.ok (.tup [a,b,c,d]))/\(∀a b c d e,xm (.ok [a,b,c,d,e])=.ok (.tup [a,b,c,d,e]))
  /\(∀ts,xC [.lst ts]=.ok (.int ts.length))/\(∀ts,xC [.tup ts]=.ok (.int ts.length))/\(∀ts,xC [.bh ts]=.ok (.int ts.length))
  /\(∀i j,oP (.int i) (.int j)=.ok (.int (i+j)))/\(∀x t A,IM x (.ok [t] A)=.exc (.str x) A)/\(∀i,S7 (.int i)=.ok (.int (-i)))
  /\(∀i A,lU (.ok (.int i)) A=.ok (.int i) A)/\(∀z A,lU (.ok (.str z)) A=.ok (.str z) A)/\(∀b A,lU (.ok (.bl b)) A=.ok (.bl b) A)/\(∀A,lU (.ok .bL) A=.ok .bL A)/\(∀i A,lU (.ok (.at i)) A=.ok (.at i) A)
  /\(∀b,Ii (.ok true) b=b)/\(∀b,Ii (.ok false) b=.ok false)/\(∀b,Vc (.ok true) b=.ok true)/\(∀b,Vc (.ok false) b=b)/\(∀b,Dp (.ok b)=.ok (!b))/\(∀a b,Lp (.ok true) a b=a)/\(∀a b,Lp (.ok false) a b=b)
  /\(∀z bg,yW (.str z) (.bh bg)=.ok (.bl (eM bg (.inr z)).isSome))/\(∀z bg,Gv (.str z) (.bh bg)=.ok (.bl (!(eM bg (.inr z)).isSome)))/\(∀z,L4 (.str z)=.ok (.str z))/\(∀z y,SX (.str z) (.str y)=.ok (.bl (z==y)))/\(∀i j,SX (.int i) (.int j)=.ok (.bl (i==j)))/\(∀i j,Wn (.int i) (.int j)=.ok (.bl (decide (j<i))))
  /\(∀Y,eI (.ok (.nx Y))=.ok .bL)/\(∀t,eI (.ok (.ret t))=.ok t)/\(∀t,Lr (.ok t)=.ok (.ret t))/\(∀Y G,Dq (.ok (.nx Y)) G=G Y)/\(∀t G,Dq (.ok (.ret t)) G=.ok (.ret t))/\(∀i t Y,O7 i (.ok t) Y=.ok (.nx (Y.set i (.sh t)))):=by
 refine⟨?_,?_,?_,?_,?_,?_,?_,?_,?_,?_,?_,?_,?_,?_,?_,?_,?_,?_,?_,?_,?_,?_,?_,?_,?_,?_,?_,?_,?_,?_,?_,?_,?_,?_,?_,?_,?_,?_,?_,?_,?_,?_,?_,?_,?_,?_,?_,?_,?_,?_,?_,?_,?_,?_,?_,?_,?_,?_,?_,?_,?_,?_⟩<;>intros<;>rfl
def bZ:(∀n A ts,aJ n A (.tup ts)=.tup ts)/\(∀n A z,aJ n A (.str z)=.str z)/\(∀n A i,aJ n A (.int i)=.int i)/\(∀n A b,aJ n A (.bl b)=.bl b)/\(∀n A,aJ n A .bL=.bL)/\(∀n A ns,aJ n A (.vg ns)=.vg ns):=⟨λ_ _ _=>Jo,λ_ _ _=>xE,λ_ _ _=>DZ,λ_ _ _=>Jp,λ_ _=>Qh,λ_ _ _=>Qi⟩
def rK{A:Ab}{i:Nat}(h:A[i]?=some (.lst ts)):Yu F (.ok (.at i) A) l=(l A).bind λus A=>F i us A:=by
 show(if Th A i=true then(l A).bind λus A=>F i us A else .bad)=_;exact ay (by unfold Th;rw[h])
def rL{A:Ab}{t:Tr}{i:Nat}(h:A[i]?=some (.lst ts))(b:ts.length<cX):Pu i [t] A=.ok .bL (A.set i (.lst (ts++[t]))):=by
 show(match A[i]? with|some (.lst ts)=>if ts.length<cX then Rz.ok Tr.bL (A.set i (.lst (ts++[t])))else .bad|_=>.bad)=_;rw[h];exact ay b
def putD(A:Ab)(t b g:Tr)(Y:bW):Rz Out:=match BU A t b g with
 |some A'=>.ok (.nx Y) A'
 |none=>.bad
def fO{A:Ab}:Tx (.ok t A) o k Y=(o A).bind λu A=>(k A).bind λb A=>putD A u b t Y:=rfl
def gR{A:Ab}{i:Nat}(h:A[i]?=some (.bh bg))(b:bg.length<cX):putD A (.at i) (.str z) t Y=.ok (.nx Y) (A.set i (.bh (kz bg (.inr z) t))):=by
 have:BU A (.at i) (.str z) t=some (A.set i (.bh (kz bg (.inr z) t))):=by
  show(match A[i]? with|some (.bh bg)=>if bg.length<cX then some (A.set i (.bh (kz bg (.inr z) t)))else none|_=>none)=_;rw[h];exact ay b
 unfold putD;rw[this]
def Fu(i:Nat)(b:Tr)(A:Ab):Rz Tr:=match kR b with
 |some key=>if mW A i=true then match eM (oQ A i) key with
  |some v=>.ok v (A.set i (.bh (ir (oQ A i) key)))
  |none=>.bad
  else .bad
 |none=>.bad
def uf{A:Ab}{i:Nat}(h:A[i]?=some (.bh bg)):NN (.ok (.at i) A) k=(k A).bind λb A=>Fu i b A:=by
 have e:mW A i=true:=by unfold mW;rw[h]
 show(if mW A i=true then(k A).bind λb A=>Fu i b A else .bad)=_;exact ay e
def ug{A:Ab}{i:Nat}(h:A[i]?=some (.bh bg))(b:eM bg (.inr z)=some v):Fu i (.str z) A=.ok v (A.set i (.bh (ir bg (.inr z)))):=by
 have e:mW A i=true:=by unfold mW;rw[h]
 have g:oQ A i=bg:=by unfold oQ;rw[h]
 unfold Fu;simp only[e,aP,kR,g,b]
def B9(x:Ab->Rz Tr)(i:Nat)(b:Tr)(A:Ab):Rz Tr:=match kR b with
 |some key=>(x A).bind λL A=>if mW A i=true then match eM (oQ A i) key with
  |some v=>.ok v (A.set i (.bh (ir (oQ A i) key)))
  |none=>.ok L A
  else .bad
 |none=>.bad
def vW{A:Ab}{i:Nat}(h:A[i]?=some (.bh bg)):NO (.ok (.at i) A) k x=(k A).bind λb A=>B9 x i b A:=by
 have e:mW A i=true:=by unfold mW;rw[h]
 show(if mW A i=true then(k A).bind λb A=>B9 x i b A else .bad)=_;exact ay e
theorem GV(b:eM bg (.inr z)=none):ir bg (.inr z)=bg:=k_.mpr λp L=>by
 unfold eM at b;rw[Option.map_eq_none_iff,List.find?_eq_none]at b;simpa using b p L
theorem Qj{A:Ab}(h:A[aa]?=some o):A.set aa o=A:=by
 apply List.ext_getElem?;intro k;by_cases L:aa=k
 .subst L;rw[kW (gy.mp h).1,h]
 .rw[kY L]
def Ac{i:Nat}{x:Ab->Rz Tr}(b:x A=.ok .bL A)(h:A[i]?=some (.bh bg)):B9 x i (.str z) A=.ok ((eM bg (.inr z)).getD .bL) (A.set i (.bh (ir bg (.inr z)))):=by
 have e:mW A i=true:=by unfold mW;rw[h]
 have g:oQ A i=bg:=by unfold oQ;rw[h]
 unfold B9;simp only[kR,b,Rz.bind,e,aP,g];cases L:eM bg (.inr z)with
 |some v=>rfl
 |none=>rw[GV L,Qj h];rfl
def xF{z:Str}{y:Str}(h:z.length<=1000)(b:y.length<=1000):(λacc=>eP (.ok (.str z)) (λacc=>eP (.ok (.str y)) (λacc=>pN acc) acc) acc) Str.empty=.ok (.str (Str.empty++z++y)):=by
 have l1:(Str.empty++z).length<=cy:=by rw[hU];show 0+z.length<=1000000;omega
 have l2:(Str.empty++z++y).length<=cy:=by rw[hU,hU];show 0+z.length+y.length<=1000000;omega
 show(if(Str.empty++z).length<=cy then eP (.ok (.str y)) (λacc=>pN acc) (Str.empty++z)else .bad)=_;rw[ay l1];show(if(Str.empty++z++y).length<=cy then pN (Str.empty++z++y)else .bad)=_;rw[ay l2];exact ay l2
noncomputable def roomF(i:Nat):List (Str×Tr):=[("log",.at (i+1)),("ranks",.at (i+2)),("entries",.at (i+3)),("chosen",.at (i+4)),("banned",.at (i+5)),("invited",.at (i+6)),("read_marks",.at (i+7)),("said_by_key",.at (i+8))]
structure aW(A:Ab)(i:Nat)(rows:List Tr)(rk en ch bn iv:List (Key×Tr)):Prop where
 o:A[i]?=some (.ins "Room" (roomF i))
 lg:A[i+1]?=some (.lst rows)
 rk:A[i+2]?=some (.bh rk)
 en:A[i+3]?=some (.bh en)
 ch:A[i+4]?=some (.bh ch)
 bn:A[i+5]?=some (.bh bn)
 iv:A[i+6]?=some (.bh iv)
structure dS(rows:List Tr)(rk en ch bn iv:List (Key×Tr)):Prop where
 lg:dz rows
 rk:iJ rk
 en:iJ en
 ch:iJ ch
 bn:iJ bn
 iv:iJ iv
def aW.GW {rk bn iv:List (Key×Tr)}(h:aW A i rows rk en ch bn iv)(f:dS rows rk en ch bn iv):ly ["Room"] "log" (aJ 5 A (.at i))=.ok (.lst rows):=by
 rw[ju h.o];show Rs.ok (aJ 4 A (.at (i+1)))=_;rw[lZ h.lg,vV f.lg]
def aW.oR {rk bn iv:List (Key×Tr)}(h:aW A i rows rk en ch bn iv)(f:dS rows rk en ch bn iv):ly ["Room"] "ranks" (aJ 5 A (.at i))=.ok (.bh rk):=by
 rw[ju h.o];show Rs.ok (aJ 4 A (.at (i+2)))=_;rw[gQ h.rk,jU f.rk]
def aW.Xg {rk bn iv:List (Key×Tr)}(h:aW A i rows rk en ch bn iv)(f:dS rows rk en ch bn iv):ly ["Room"] "entries" (aJ 5 A (.at i))=.ok (.bh en):=by
 rw[ju h.o];show Rs.ok (aJ 4 A (.at (i+3)))=_;rw[gQ h.en,jU f.en]
def aW.Qk {rk bn iv:List (Key×Tr)}(h:aW A i rows rk en ch bn iv)(f:dS rows rk en ch bn iv):ly ["Room"] "chosen" (aJ 5 A (.at i))=.ok (.bh ch):=by
 rw[ju h.o];show Rs.ok (aJ 4 A (.at (i+4)))=_;rw[gQ h.ch,jU f.ch]
def aW.Jq {rk bn iv:List (Key×Tr)}(h:aW A i rows rk en ch bn iv)(f:dS rows rk en ch bn iv):ly ["Room"] "banned" (aJ 5 A (.at i))=.ok (.bh bn):=by
 rw[ju h.o];show Rs.ok (aJ 4 A (.at (i+5)))=_;rw[gQ h.bn,jU f.bn]
def aW.Ug {rk bn iv:List (Key×Tr)}(h:aW A i rows rk en ch bn iv)(f:dS rows rk en ch bn iv):ly ["Room"] "invited" (aJ 5 A (.at i))=.ok (.bh iv):=by
 rw[ju h.o];show Rs.ok (aJ 4 A (.at (i+6)))=_;rw[gQ h.iv,jU f.iv]
def aW.Xh {rk bn iv:List (Key×Tr)}(h:aW A i rows rk en ch bn iv):pO ["Room"] "log" (.ok (.at i) A)=.ok (.at (i+1)) A:=by unfold pO Rz.bind;simp only[h.o];rfl
def aW.Jr {rk bn iv:List (Key×Tr)}(h:aW A i rows rk en ch bn iv):pO ["Room"] "ranks" (.ok (.at i) A)=.ok (.at (i+2)) A:=by unfold pO Rz.bind;simp only[h.o];rfl
def aW.Xi {rk bn iv:List (Key×Tr)}(h:aW A i rows rk en ch bn iv):pO ["Room"] "entries" (.ok (.at i) A)=.ok (.at (i+3)) A:=by unfold pO Rz.bind;simp only[h.o];rfl
def aW.Mq {rk bn iv:List (Key×Tr)}(h:aW A i rows rk en ch bn iv):pO ["Room"] "chosen" (.ok (.at i) A)=.ok (.at (i+4)) A:=by unfold pO Rz.bind;simp only[h.o];rfl
def aW.Uh {rk bn iv:List (Key×Tr)}(h:aW A i rows rk en ch bn iv):pO ["Room"] "banned" (.ok (.at i) A)=.ok (.at (i+5)) A:=by unfold pO Rz.bind;simp only[h.o];rfl
def aW.Ui {rk bn iv:List (Key×Tr)}(h:aW A i rows rk en ch bn iv):pO ["Room"] "invited" (.ok (.at i) A)=.ok (.at (i+6)) A:=by unfold pO Rz.bind;simp only[h.o];rfl
def aW.call {A:Ab}{rk ch bn iv:List (Key×Tr)}(h:aW A i rows rk en ch bn iv)(hm:CO (roomF i) m=true)(F:List Tr->Ab->Rz Tr)(l:Ab->Rz (List Tr)):vt "Room" m F (.ok (.at i) A) l=(l A).bind λts A=>F (.at i::ts) A:=by
 show(match A[i]? with|some (.ins x fs)=>if x="Room"/\CO fs m=true then(l A).bind λts A=>F (.at i::ts) A else .bad|_=>.bad)=_;rw[h.o];exact ay ⟨rfl,hm⟩
def Ext.same {k:Nat}(e:Ext A A' pins)(h:A[k]?=some o)(n:pins.lookup k=none):A'[k]?=some o:=by rw[e.at' k o h,n];rfl
def Ext.new {k:Nat}(e:Ext A A' pins)(h:A[k]?=some o)(n:pins.lookup k=some o'):A'[k]?=some o':=by rw[e.at' k o h,n];rfl
theorem d9{j:Nat}{o:Ao}(h:aa≠j):[(j,o)].lookup aa=none:=by
 have:(aa==j)=false:=by simpa using h
 simp only[List.lookup,this]
theorem B_{o:Ao}:[(aa,o)].lookup aa=some o:=by simp only[List.lookup,aU]
def aW.e_0 {rk bn iv:List (Key×Tr)}(h:aW A i rows rk en ch bn iv)(e:Ext A A' []):aW A' i rows rk en ch bn iv:=⟨e.same h.o rfl,e.same h.lg rfl,e.same h.rk rfl,e.same h.en rfl,e.same h.ch rfl,e.same h.bn rfl,e.same h.iv rfl⟩
def aW.l6 {rk bn iv:List (Key×Tr)}(h:aW A i rows rk en ch bn iv)(e:Ext A A' [(i+1,.lst b)]):aW A' i b rk en ch bn iv:=⟨e.same h.o (d9 (by omega)),e.new h.lg B_,e.same h.rk (d9 (by omega)),e.same h.en (d9 (by omega)),e.same h.ch (d9 (by omega)),e.same h.bn (d9 (by omega)),e.same h.iv (d9 (by omega))⟩
def aW.Js {rk bn iv:List (Key×Tr)}(h:aW A i rows rk en ch bn iv)(e:Ext A A' [(i+2,.bh d')]):aW A' i rows d' en ch bn iv:=⟨e.same h.o (d9 (by omega)),e.same h.lg (d9 (by omega)),e.new h.rk B_,e.same h.en (d9 (by omega)),e.same h.ch (d9 (by omega)),e.same h.bn (d9 (by omega)),e.same h.iv (d9 (by omega))⟩
def aW.Xj {rk bn iv:List (Key×Tr)}(h:aW A i rows rk en ch bn iv)(e:Ext A A' [(i+3,.bh d')]):aW A' i rows rk d' ch bn iv:=⟨e.same h.o (d9 (by omega)),e.same h.lg (d9 (by omega)),e.same h.rk (d9 (by omega)),e.new h.en B_,e.same h.ch (d9 (by omega)),e.same h.bn (d9 (by omega)),e.same h.iv (d9 (by omega))⟩
def aW.Xk {rk bn iv:List (Key×Tr)}(h:aW A i rows rk en ch bn iv)(e:Ext A A' [(i+4,.bh d')]):aW A' i rows rk en d' bn iv:=⟨e.same h.o (d9 (by omega)),e.same h.lg (d9 (by omega)),e.same h.rk (d9 (by omega)),e.same h.en (d9 (by omega)),e.new h.ch B_,e.same h.bn (d9 (by omega)),e.same h.iv (d9 (by omega))⟩
def aW.Mr {rk bn iv:List (Key×Tr)}(h:aW A i rows rk en ch bn iv)(e:Ext A A' [(i+5,.bh d')]):aW A' i rows rk en ch d' iv:=⟨e.same h.o (d9 (by omega)),e.same h.lg (d9 (by omega)),e.same h.rk (d9 (by omega)),e.same h.en (d9 (by omega)),e.same h.ch (d9 (by omega)),e.new h.bn B_,e.same h.iv (d9 (by omega))⟩
def aW.Uj {rk bn iv:List (Key×Tr)}(h:aW A i rows rk en ch bn iv)(e:Ext A A' [(i+6,.bh d')]):aW A' i rows rk en ch bn d':=⟨e.same h.o (d9 (by omega)),e.same h.lg (d9 (by omega)),e.same h.rk (d9 (by omega)),e.same h.en (d9 (by omega)),e.same h.ch (d9 (by omega)),e.same h.bn (d9 (by omega)),e.new h.iv B_⟩
def mX(h:dz rows):dz (rows++[.tup us]):=λt L=>by
 rcases cF.mp L with L|L
 .exact h t L
 .exact⟨us,cz.mp L⟩
def GX(h:iJ bg):iJ (ir bg k):=λp L=>h p ((eR.mp L).1)
noncomputable def dP{α:Type}(f:α->Tr)(l:List (Str×α)):List (Key×Tr):=l.map λp=>(Sum.inr p.1,f p.2)
noncomputable def dk{α:Type}(l:List (Str×α))(z:Str)(a:α):List (Str×α):=if(l.any λp=>decide (p.1=z))=true then l.map (λp=>if p.1=z then(p.1,a)else p)else l++[(z,a)]
noncomputable def eK{α:Type}(l:List (Str×α))(z:Str):List (Str×α):=l.filter λp=>decide (p.1≠z)
def Fv:((Sum.inr y:Key)=.inr z)↔y=z:=⟨λh=>by injection h,λh=>by rw[h]⟩
def Fw:(decide ((Sum.inr y:Key)=.inr z))=decide (y=z):=wF.mpr Fv
theorem cW{f:α->Tr}{z:Str}:∀{l:List (Str×α)},eM (dP f l) (.inr z)=(l.lookup z).map f
 |[]=>rfl
 |(y,b)::l=>by
  have L:=cW (f:=f) (z:=z) (l:=l);unfold eM at L⊢;show Option.map _ (List.find? _ ((Sum.inr y,f b)::dP f l))=_;rw[jL,cn];by_cases h:y=z
  .subst h;simp
  .have h2:(z==y)=false:=by simpa using Ne.symm h
   simp only[Fw,h,decide_false,h2];exact L
def gS{f:α->Tr}{l:List (Str×α)}{a:α}:kz (dP f l) (.inr z) (f a)=dP f (dk l z a):=by
 unfold kz dk;have e:((dP f l).any λL=>decide (L.1=(.inr z:Key)))=l.any λp=>decide (p.1=z):=by
  unfold dP;rw[sV];congr 1;funext p;exact Fw
 rw[e];split
 .unfold dP;rw[cp,cp];apply jI;intro p b;by_cases h:p.1=z
  .simp[h]
  .simp[h]
 .unfold dP;rw[fD];rfl
def nF{f:α->Tr}{l:List (Str×α)}:ir (dP f l) (.inr z)=dP f (eK l z):=by
 unfold ir eK dP;rw[o8];congr 1;apply sM;intro p L;show decide ((Sum.inr p.1:Key)≠ .inr z)=decide (p.1≠z);simp[Fv]
def gq{f:α->Tr}{l:List (Str×α)}:(dP f l).length=l.length:=aY _
def uh{f:α->Tr}{l:List (Str×α)}(h:∀a n A,aJ n A (f a)=f a):iJ (dP f l):=λp L n A=>by
 obtain⟨q,_,rfl⟩:=bV.mp L;exact h q.2 n A
def Fx{f:α->Tr}{l:List (Str×α)}(h:∀p∈l,p.1.length<=cy):BG (dP f l)=.ok (l.map λp=>.str p.1):=by
 unfold BG;rw[ay]
 .unfold dP;rw[cp];rfl
 .unfold dP;rw[sT,fU];intro p L;exact dA (h p L)
theorem zi{h:List Tr->Rs Tr}{o:Tr}{k:Str->Int×Int}:∀{ns:List Str},(∀z∈ns,h [o,.str z]=.ok (.tup [.int (k z).1,.int (k z).2]))->keysOf h o (ns.map .str)=some (ns.map k)
 |[],_=>rfl
 |z::ns,q=>by
  show((keyOf (h [o,.str z])).bind λk=>(keysOf h o (ns.map .str)).map λks=>k::ks)=_;rw[q z (cJ ..),zi λy L=>q y (cw _ L)]
  rfl
theorem uS:∀j,cO kf j<=j
 |0=>aZ _
 |j+1=>by
  unfold cO;split
  .exact aZ _
  .exact sN (uS j)
theorem ui{kf:Nat->Int×Int}:∀j,(∀a b,a<b->b<=j->(kf a).2<(kf b).2)->(∀a,a<=j->(kf (cO kf j)).1<=(kf a).1)/\(∀a,a<cO kf j->(kf (cO kf j)).1<(kf a).1)
 |0,_=>⟨λa ha=>by cases Nat.le_zero.mp ha;exact Int.le_refl _,λa ha=>absurd ha (Nat.not_lt_zero _)⟩
 |j+1,g=>by
  obtain⟨L,h2⟩:=ui (kf:=kf) j λa b r hb=>g a b r (sN hb);have hb:=uS (kf:=kf) j;have I:=g (cO kf j) (j+1) (Nat.lt_succ_of_le hb) (aZ _);have e:jt (kf (j+1)) (kf (cO kf j))=decide ((kf (j+1)).1<(kf (cO kf j)).1):=by
   unfold jt;by_cases q:(kf (j+1)).1<(kf (cO kf j)).1
   .simp[q]
   .simp[q];intros;omega
  unfold cO;rw[e];by_cases q:(kf (j+1)).1<(kf (cO kf j)).1
  .rw[ay (dA q)];refine⟨λa ha=>?_,λa ha=>Int.lt_of_lt_of_le q (L a (wA ha))⟩;rcases Nat.lt_or_eq_of_le ha with ha|rfl
   .exact Int.le_of_lt (Int.lt_of_lt_of_le q (L a (wA ha)))
   .exact Int.le_refl _
  .rw[aE (by simpa using q)];refine⟨λa ha=>?_,h2⟩;rcases Nat.lt_or_eq_of_le ha with ha|rfl
   .exact L a (wA ha)
   .exact Int.not_lt.mp q
def dv{f:α->Tr}{l:List (Str×α)}:ib (.bh (dP f l)) (.str z)=kc ((l.lookup z).map f):=by
 show(kc (kR (.str z))).bind (λk=>kc (eM (dP f l) k))=_;show kc (eM (dP f l) (.inr z))=_;rw[cW]
theorem mY:∀{ns:List Str},jT (ns.map .str)=true
 |[]=>rfl
 |z::ns=>by rw[aX,jT,Hg,jO];exact mY
def uj{ns:List Str}:(ns.map Tr.str).map (aJ n A)=ns.map .str:=by
 rw[cp];exact jI λz _=>xE
theorem Ca{C:bW->Rs Bool}{F:bW->Rs Tr}{Y:bW}{P:Str->Bool}(hF:∀z,F (.sh (.str z)::Y)=.ok (.str z)):∀{ns:List Str} {c:Cell},(∀z∈ns,C (.sh (.str z)::Y)=.ok (P z))->He (gN 0) C F (ns.map .str) (c::Y)=.ok ((ns.filter P).map .str)
 |[],_,_=>rfl
 |z::ns,c,hC=>by
  have L:=Ca (Y:=Y) hF (ns:=ns) (c:=.sh (.str z)) λy b=>hC y (cw _ b);show(Nt (C (.sh (.str z)::Y))).bind (λk=>if k then(Nt (F (.sh (.str z)::Y))).bind λy=>(He (gN 0) C F (ns.map .str) (.sh (.str z)::Y)).bind λys=>.ok (y::ys)else He (gN 0) C F (ns.map .str) (.sh (.str z)::Y))=_;rw[hC z (cJ ..),hF z,L];show(if P z then _ else _)=_;cases e:P z with
  |true=>rw[kU e];rfl
  |false=>rw[jG (by rw[e];exact i7)];rfl
def Jt{ts:List Tr}(b:CO fs m=true)(g:0<ts.length)(hs:keysOf h (.ob c fs) ts=some ks)(q:ts[cO (λi=>ks.getD i (0,0)) (ts.length - 1)]?=some t):vw c m h (.lst ts) (.ob c fs)=.ok t:=by
 unfold vw;simp only[b,g,and_self,aP,hs,q]
 rfl
def uT{C:bW->Rs Bool}{F:bW->Rs Tr}{r:Rs (List Tr)}{zj:bW}{c:Cell}(P:Str->Bool){ns:List Str}(b:r=.ok (ns.map .str))(q:ns.length<=cX)(g:tY ix Y=c::zj)(hF:∀z,F (.sh (.str z)::zj)=.ok (.str z))(hC:∀z∈ns,C (.sh (.str z)::zj)=.ok (P z)):yR ix (gN 0) C F r Y=.ok (.lst ((ns.filter P).map .str)):=by
 unfold yR;rw[b,g];show(if(ns.map Tr.str).length<=cX then _ else _)=_;rw[ay (by rwa[aY]),Ca hF hC]
 rfl
def uk(h:jT ts=true):uM (.ok (.lst ts)) A=.ok (.at A.length) (A++[.lst ts]):=ay h
def vX{f:α->Tr}{l:List (Str×α)}(h:∀p∈l,p.1.length<=1000):Tn (.ok (.bh (dP f l)))=.ok (l.map λp=>.str p.1):=Fx λp L=>bI (h p L) (by decide)
def map_fst{l:List (Str×α)}:(l.map λp=>Tr.str p.1)=(l.map (·.1)).map .str:=by rw[cp];rfl
def Ext.idem {k:Nat}(e:Ext A A' pins)(h:A[k]?=some o)(b:pins.lookup k=none):Ext A A' ((k,o)::pins):=⟨e.le,λj x q=>by
 rw[cn];by_cases L:j=k
 .subst L;rw[h]at q;cases q;rw[e.at' j o h,b];simp
 .have:(j==k)=false:=by simpa using L
  rw[this];exact e.at' j x q⟩
def Ext.cons {k:Nat}{o:Ao}(a:Ext A A' pins)(b:Ext A' g [(k,o)]):Ext A g ((k,o)::pins):=a.trans b
def Ext.past (a:Ext A A' [])(b:Ext A' g pins):Ext A g pins:=by have:=a.trans b;rwa[hW]at this
structure bz(A:Ab)(aA:List (Str×Bool))(b8:List (Str×Nat)):Prop where
 o:A[0]?=some (.ins "Hall" [("persons",.at 1),("places",.at 2),("hands",.at 3)])
 ps:A[1]?=some (.bh (dP .bl aA))
 pl:A[2]?=some (.bh (dP .at b8))
def flB:iJ (dP .bl l):=uh λ_ _ _=>Jp
def bz.Ju (h:bz A aA b8):ly ["Hall"] "persons" (aJ 5 A (.at 0))=.ok (.bh (dP .bl aA)):=by
 rw[ju h.o];show Rs.ok (aJ 4 A (.at 1))=_;rw[gQ h.ps,jU flB]
def bz.Ms (h:bz A aA b8):ly ["Hall"] "places" (aJ 5 A (.at 0))=.ok (.bh (dP (λj=>aJ 3 A (.at j)) b8)):=by
 rw[ju h.o];show Rs.ok (aJ 4 A (.at 2))=_;rw[gQ h.pl];unfold dP;rw[cp];rfl
def bz.Xm (h:bz A aA b8):pO ["Hall"] "persons" (.ok (.at 0) A)=.ok (.at 1) A:=by unfold pO Rz.bind;simp only[h.o];rfl
def bz.Xn (h:bz A aA b8):pO ["Hall"] "places" (.ok (.at 0) A)=.ok (.at 2) A:=by unfold pO Rz.bind;simp only[h.o];rfl
def bz.call {A:Ab}(h:bz A aA b8)(hm:CO [("persons",.at 1),("places",.at 2),("hands",.at 3)] m=true)(F:List Tr->Ab->Rz Tr)(l:Ab->Rz (List Tr)):vt "Hall" m F (.ok (.at 0) A) l=(l A).bind λts A=>F (.at 0::ts) A:=by
 show(match A[0]? with|some (.ins x fs)=>if x="Hall"/\CO fs m=true then(l A).bind λts A=>F (.at 0::ts) A else .bad|_=>.bad)=_;rw[h.o];exact ay ⟨rfl,hm⟩
def f_{A:Ab}:PN h (.ok x A) b=(b A).bind λy A=>lU (h (aJ 1 A x) (aJ 1 A y)) A:=rfl
def um{A:Ab}{f:α->Tr}{l:List (Str×α)}(h:A[aa]?=some (.bh (dP f l))):aJ 1 A (.at aa)=.bh (dP f l):=by
 rw[gQ h];unfold dP;rw[cp];rfl
theorem GY:(∀T G Y A,mU T G [] Y A=.ok (.nx Y) A)/\(∀T G t ts Y A,mU T G (t::ts) Y A=(lx (T t Y) A).bind λg A=>(G g A).bind λo A=>match o with
  |.nx b=>mU T G ts b A
  |.ct b=>mU T G ts b A
  |.bk b=>.ok (.nx b) A
  |.ret t=>.ok (.ret t) A)/\(∀T G ts A Y,IC T G (.ok ts A) Y=mU T G ts Y A)/\(∀i t Y,gN i t Y=.ok (Y.set i (.sh t)))/\(∀ts,zN (.ok (.tup ts))=.ok ts)/\(∀ts,zN (.ok (.lst ts))=.ok ts):=by
 refine⟨?_,?_,?_,?_,?_,?_⟩<;>intros<;>rfl
noncomputable def yr(j ks kb ka:Nat)(d v p:Str):List (Str×Tr):=[("rows",.at (j+1)),("roles",.at (j+2)),("stays",.at ks),("barred",.at kb),("asked",.at ka),("door",.str d),("voice",.str v),("past",.str p)]
abbrev oS:=Str×Int×Int×Option Int
noncomputable def D0:Option Int->Tr
 |none=>.bL
 |some n=>.int n
def vI(s:oS):Tr:=.tup [.str s.1,.int s.2.1,.int s.2.2.1,D0 s.2.2.2]
structure aT(A:Ab)(j ks kb ka:Nat)(rows:List Tr)(aO:List (Str×Str))(stays:List oS)(aH asked:List Str)(d v p:Str):Prop where
 o:A[j]?=some (.bh (dP id (yr j ks kb ka d v p)))
 rw:A[j+1]?=some (.lst rows)
 rl:A[j+2]?=some (.bh (dP .str aO))
 st:A[ks]?=some (.lst (stays.map vI))
 br:A[kb]?=some (.lst (aH.map .str))
 as:A[ka]?=some (.lst (asked.map .str))
 nd:[j,j+1,j+2,ks,kb,ka].Nodup
def nG{A:Ab}{n:Nat}(h:A[aa]?=some (.bh (dP id l))):aJ (n+1) A (.at aa)=.bh (dP (aJ n A) l):=by
 rw[gQ h];unfold dP;rw[cp];rfl
def rN{A:Ab}(h:A[aa]?=some (.bh (dP id l))):aJ 1 A (.at aa)=.bh (dP id l):=by
 rw[gQ h];unfold dP;rw[cp];rfl
def Jv{stays:List oS}:(stays.map vI).map (aJ n A)=stays.map vI:=vV λt L=>by obtain⟨s,_,rfl⟩:=bV.mp L;exact⟨_,rfl⟩
def aT.Ql {n:Nat}(h:aT A j ks kb ka rows aO stays aH asked d v p)(f:dz rows):ib (aJ (n+2) A (.at j)) (.str "rows")=.ok (.lst rows):=by
 rw[nG h.o,dv];show Rs.ok (aJ (n+1) A (.at (j+1)))=_;rw[lZ h.rw,vV f]
def aT.Qm {n:Nat}(h:aT A j ks kb ka rows aO stays aH asked d v p):ib (aJ (n+2) A (.at j)) (.str "roles")=.ok (.bh (dP .str aO)):=by
 rw[nG h.o,dv];show Rs.ok (aJ (n+1) A (.at (j+2)))=_;rw[gQ h.rl,jU (uh λ_ _ _=>xE)]
def aT.Uk {n:Nat}(h:aT A j ks kb ka rows aO stays aH asked d v p):ib (aJ (n+2) A (.at j)) (.str "stays")=.ok (.lst (stays.map vI)):=by
 rw[nG h.o,dv];show Rs.ok (aJ (n+1) A (.at ks))=_;rw[lZ h.st,Jv]
def aT.Xo {n:Nat}(h:aT A j ks kb ka rows aO stays aH asked d v p):ib (aJ (n+2) A (.at j)) (.str "barred")=.ok (.lst (aH.map .str)):=by
 rw[nG h.o,dv];show Rs.ok (aJ (n+1) A (.at kb))=_;rw[lZ h.br,uj]
def aT.Xp {n:Nat}(h:aT A j ks kb ka rows aO stays aH asked d v p):ib (aJ (n+2) A (.at j)) (.str "asked")=.ok (.lst (asked.map .str)):=by
 rw[nG h.o,dv];show Rs.ok (aJ (n+1) A (.at ka))=_;rw[lZ h.as,uj]
def aT.a_p {n:Nat}(h:aT A j ks kb ka rows aO stays aH asked d v p):ib (aJ (n+1) A (.at j)) (.str "past")=.ok (.str p):=by
 rw[nG h.o,dv];show Rs.ok (aJ n A (.str p))=_;rw[xE]
def aT.Xq (h:aT A j ks kb ka rows aO stays aH asked d v p):ib (aJ 1 A (.at j)) (.str "rows")=.ok (.at (j+1)):=by rw[rN h.o,dv];rfl
def aT.Mt (h:aT A j ks kb ka rows aO stays aH asked d v p):ib (aJ 1 A (.at j)) (.str "roles")=.ok (.at (j+2)):=by rw[rN h.o,dv];rfl
def aT.Xr (h:aT A j ks kb ka rows aO stays aH asked d v p):ib (aJ 1 A (.at j)) (.str "stays")=.ok (.at ks):=by rw[rN h.o,dv];rfl
def aT.ext {j ks kb ka:Nat}(h:aT A j ks kb ka rows aO stays aH asked d v p)(e:Ext A A' pins)(q:∀k∈[j,j+1,j+2,ks,kb,ka],pins.lookup k=none):aT A' j ks kb ka rows aO stays aH asked d v p:=
 ⟨e.same h.o (q _ (by simp)),e.same h.rw (q _ (by simp)),e.same h.rl (q _ (by simp)),e.same h.st (q _ (by simp)),e.same h.br (q _ (by simp)),e.same h.as (q _ (by simp)),h.nd⟩
def aT.ne (h:aT A j ks kb ka rows aO stays aH asked d v p):j≠ks/\j≠kb/\j≠ka/\j+1≠ks/\j+1≠kb/\j+1≠ka/\j+2≠ks/\j+2≠kb/\j+2≠ka/\ks≠kb/\ks≠ka/\kb≠ka:=by
 have:=h.nd;simp only[jK,a_,dr,dt,not_or]at this;obtain⟨⟨_,_,a,b,c⟩,⟨_,d,e,f⟩,⟨g,i,k⟩,⟨l,m⟩,n,_⟩:=this;exact⟨a,b,c,d,e,f,g,i,k,l,m,n⟩
def aT.Ul {j:Nat}:j+2≠j+1/\j+2≠j:=⟨o7 _,jh (Nat.lt_add_of_pos_right (Nat.succ_pos 1))⟩
def aT.uU (h:aT A j ks kb ka rows aO stays aH asked d v p)(e:Ext A A' [(j+1,.lst b)]):aT A' j ks kb ka b aO stays aH asked d v p:=by
 obtain⟨_,_,_,b1,b2,b3,_⟩:=h.ne;exact⟨e.same h.o (d9 (o7 j).symm),e.new h.rw B_,e.same h.rl (d9 aT.Ul.1),e.same h.st (d9 b1.symm),e.same h.br (d9 b2.symm),e.same h.as (d9 b3.symm),h.nd⟩
def aT.Mu (h:aT A j ks kb ka rows aO stays aH asked d v p)(e:Ext A A' [(j+2,.bh (dP .str l7))]):aT A' j ks kb ka rows l7 stays aH asked d v p:=by
 obtain⟨_,_,_,_,_,_,b1,b2,b3,_⟩:=h.ne;exact⟨e.same h.o (d9 aT.Ul.2.symm),e.same h.rw (d9 aT.Ul.1.symm),e.new h.rl B_,e.same h.st (d9 b1.symm),e.same h.br (d9 b2.symm),e.same h.as (d9 b3.symm),h.nd⟩
def aT.Xs {nH:List oS}(h:aT A j ks kb ka rows aO stays aH asked d v p)(e:Ext A A' [(ks,.lst (nH.map vI))]):aT A' j ks kb ka rows aO nH aH asked d v p:=by
 obtain⟨a,_,_,b,_,_,c,_,_,L,g,_⟩:=h.ne;exact⟨e.same h.o (d9 a),e.same h.rw (d9 b),e.same h.rl (d9 c),e.new h.st B_,e.same h.br (d9 L.symm),e.same h.as (d9 g.symm),h.nd⟩
def fh{A:Ab}(h:A[aa]?=some o):aa<A.length:=(gy.mp h).1
def Jw{l1 l2:List Nat}{y:Nat}(h:(l1++aa::l2).Nodup)(b:∀k∈l1++l2,k<y):(l1++y::l2).Nodup:=
 List.perm_middle.nodup_iff.mpr (jK.mpr ⟨λm=>fE _ (b _ m),(jK.mp (List.perm_middle.nodup_iff.mp h)).2⟩)
def aT.Xt {xG:List Str}(h:aT A j ks kb ka rows aO stays aH asked d v p):aT ((A++[Ao.lst (xG.map .str)]).set j (.bh (dP id (yr j ks kb A.length d v p)))) j ks kb A.length rows aO stays aH xG d v p:=by
 obtain⟨a,b,_⟩:=h.ne;have L:Ext A (A++[Ao.lst (xG.map .str)]) []:=Ext.push;have g:Ext (A++[Ao.lst (xG.map .str)]) _ _:=Ext.put (o:=.bh (dP id (yr j ks kb A.length d v p))) (L.same h.o rfl);refine⟨g.new (L.same h.o rfl) B_,g.same (L.same h.rw rfl) (d9 (o7 j)),g.same (L.same h.rl rfl) (d9 aT.Ul.2),g.same (L.same h.st rfl) (d9 a.symm),g.same (L.same h.br rfl) (d9 b.symm),g.same jV (d9 (jh (fh h.o))),Jw (l1:=[j,j+1,j+2,ks,kb]) (l2:=[]) h.nd λk m=>?_⟩;simp only[cF,a_,dr,dt]at m;rcases m with rfl|rfl|rfl|rfl|rfl
 .exact fh h.o
 .exact fh h.rw
 .exact fh h.rl
 .exact fh h.st
 .exact fh h.br
def aT.Xu {nH:List oS}(h:aT A j ks kb ka rows aO stays aH asked d v p):aT ((A++[Ao.lst (nH.map vI)]).set j (.bh (dP id (yr j A.length kb ka d v p)))) j A.length kb ka rows aO nH aH asked d v p:=by
 obtain⟨_,b,c,_⟩:=h.ne;have L:Ext A (A++[Ao.lst (nH.map vI)]) []:=Ext.push;have g:Ext (A++[Ao.lst (nH.map vI)]) _ _:=Ext.put (o:=.bh (dP id (yr j A.length kb ka d v p))) (L.same h.o rfl);refine⟨g.new (L.same h.o rfl) B_,g.same (L.same h.rw rfl) (d9 (o7 j)),g.same (L.same h.rl rfl) (d9 aT.Ul.2),g.same jV (d9 (jh (fh h.o))),g.same (L.same h.br rfl) (d9 b.symm),g.same (L.same h.as rfl) (d9 c.symm),Jw (l1:=[j,j+1,j+2]) (l2:=[kb,ka]) h.nd λk m=>?_⟩;simp only[cF,a_,dr,dt,or_assoc]at m;rcases m with rfl|rfl|rfl|rfl|rfl
 .exact fh h.o
 .exact fh h.rw
 .exact fh h.rl
 .exact fh h.br
 .exact fh h.as
def Fy:Oa (.str a) (.str b)=.ok (.bl (!(a==b))):=rfl
theorem xH:∀{stays:List oS},jT (stays.map vI)=true
 |[]=>rfl
 |s::stays=>by
  rw[aX,jT,xH,mB];obtain⟨a,b,c,e⟩:=s;cases e<;>rfl
theorem Jx{C:bW->Rs Bool}{F:bW->Rs Tr}{Y:bW}{P:α->Bool}{g h:α->Tr}:∀{xs:List α} {c:Cell},(∀x∈xs,C (.sh (g x)::Y)=.ok (P x))->(∀x∈xs,P x=true->F (.sh (g x)::Y)=.ok (h x))->He (gN 0) C F (xs.map g) (c::Y)=.ok ((xs.filter P).map h)
 |[],_,_,_=>rfl
 |x::xs,c,hC,hF=>by
  have b:=Jx (Y:=Y) (C:=C) (F:=F) (P:=P) (g:=g) (h:=h) (xs:=xs) (c:=.sh (g x)) (λy L=>hC y (cw _ L)) λy L=>hF y (cw _ L);show(Nt (C (.sh (g x)::Y))).bind (λk=>if k then(Nt (F (.sh (g x)::Y))).bind λy=>(He (gN 0) C F (xs.map g) (.sh (g x)::Y)).bind λys=>.ok (y::ys)else He (gN 0) C F (xs.map g) (.sh (g x)::Y))=_;rw[hC x (cJ ..),b];show(if P x then _ else _)=_;cases e:P x with
  |true=>rw[kU e,hF x (cJ ..) e];rfl
  |false=>rw[jG (by rw[e];exact i7)];rfl
def jc{C:bW->Rs Bool}{F:bW->Rs Tr}{r:Rs (List Tr)}{zj:bW}{c:Cell}(P:α->Bool)(g h:α->Tr){xs:List α}(b:r=.ok (xs.map g))(I:xs.length<=cX)(q:tY ix Y=c::zj)(hC:∀x∈xs,C (.sh (g x)::zj)=.ok (P x))(hF:∀x∈xs,P x=true->F (.sh (g x)::zj)=.ok (h x)):yR ix (gN 0) C F r Y=.ok (.lst ((xs.filter P).map h)):=by
 unfold yR;rw[b,q];show(if(xs.map g).length<=cX then _ else _)=_;rw[ay (by rwa[aY]),Jx hC hF]
 rfl
def GZ:kz (dP id (yr j ks kb ka d v p)) (.inr "asked") (.at aa)=dP id (yr j ks kb aa d v p):=gS (f:=id) (a:=.at aa)
def G0:kz (dP id (yr j ks kb ka d v p)) (.inr "stays") (.at aa)=dP id (yr j aa kb ka d v p):=gS (f:=id) (a:=.at aa)
def aT.Xv {x:Ao}(h:aT A j ks kb ka rows aO stays aH asked d v p):putD (A++[x]) (.at j) (.str "asked") (.at A.length) Y=.ok (.nx Y) ((A++[x]).set j (.bh (dP id (yr j ks kb A.length d v p)))):=by
 rw[gR (Ext.push.same h.o rfl) (by rw[gq];show 8<cX;decide),GZ]
def aT.Xw {x:Ao}(h:aT A j ks kb ka rows aO stays aH asked d v p):putD (A++[x]) (.at j) (.str "stays") (.at A.length) Y=.ok (.nx Y) ((A++[x]).set j (.bh (dP id (yr j A.length kb ka d v p)))):=by
 rw[gR (Ext.push.same h.o rfl) (by rw[gq];show 8<cX;decide),G0]
open PyProof
def D3{ns:List Int}(h:0<ns.length):rb ns∈ns/\∀x∈ns,x<=rb ns:=by
 obtain⟨q,h2⟩:=argBest_gt (λi=>ns.getD i 0) (ns.length - 1);have L:argBest (λi j=>decide (ns.getD i 0>ns.getD j 0)) (ns.length - 1)<ns.length:=by omega
 constructor
 .unfold rb;rw[p9,cI L];exact mq _
 .intro x b;obtain⟨a,ha,e⟩:=wm b;have:=h2 a (by omega);have g:ns.getD a 0=x:=by rw[p9,cI ha,e];rfl
  rwa[<-g]
theorem ints_map{f:α->Int}:∀{l:List α},ra (l.map λx=>.int (f x))=some (l.map f)
 |[]=>rfl
 |x::l=>by show(ra (l.map λx=>.int (f x))).map (λr=>f x::r)=_;rw[ints_map];rfl
def max_map{f:α->Int}{l:List α}(h:l≠[]):IZ [.lst (l.map λx=>.int (f x))]=.ok (.int (rb (l.map f))):=by
 show(match ra (l.map λx=>Tr.int (f x))with|some ns=>if 0<ns.length then Rs.ok (Tr.int (rb ns))else .bad|none=>.bad)=_;rw[ints_map];exact ay (by rw[aY];exact sI.mpr h)
def Ad{ns:List Str}:yW (.str z) (.lst (ns.map .str))=.ok (.bl (ns.contains z)):=by
 show Gn (yo (.str z) (ns.map .str))=_;have:((ns.map Tr.str).all qY)=true:=by rw[sT];exact fU.mpr λ_ _=>rfl
 unfold yo;rw[ay ⟨rfl,this⟩,sV];show Rs.ok (Tr.bl _)=_;congr 2;rw[List.contains_eq_any_beq];congr 1;funext y;show(y==z)=(z==y);exact km
def Cb{ns:List Str}:Gv (.str z) (.lst (ns.map .str))=.ok (.bl (!ns.contains z)):=by
 show Gn (Dp (yo (.str z) (ns.map .str)))=_;have:Gn (yo (.str z) (ns.map .str))=.ok (.bl (ns.contains z)):=Ad;unfold yo at*;have h:((ns.map Tr.str).all qY)=true:=by rw[sT];exact fU.mpr λ_ _=>rfl
 rw[ay ⟨rfl,h⟩]at*;have e:Rs.ok (Tr.bl ((ns.map Tr.str).any λy=>eqT y (.str z)))=.ok (.bl (ns.contains z)):=this;injection e with e;injection e with e
 show Rs.ok (Tr.bl (!_))=_;rw[e]
def Qn{f:α->Tr}{l:List (Str×α)}:lR (.bh (dP f l))=.ok (!l.isEmpty):=by cases l<;>rfl
def nS(l:List Str):List (Key×Tr):=dP .bl (l.map λz=>(z,true))
theorem Ae{z:Str}:∀{l:List Str},(l.map λz=>(z,true)).lookup z=if l.contains z=true then some true else none
 |[]=>rfl
 |y::l=>by
  rw[aX,cn,List.contains_cons];cases e:(z==y)with
  |true=>rfl
  |false=>rw[Ae,pb]
def uV:eM (nS l) (.inr z)=if l.contains z=true then some (.bl true)else none:=by
 unfold nS;rw[cW,Ae];cases l.contains z<;>rfl
def Fz:ir (nS l) (.inr z)=nS (l.filter λy=>!(y==z)):=by
 unfold nS;rw[nF];congr 1;unfold eK;rw[o8];congr 1;apply sM;intro y _;show decide (y≠z)=!(y==z);by_cases h:y=z
 .subst h;simp
 .simp[h]
def FA:iJ (nS l):=uh λ_ _ _=>Jp
structure c_(A:Ab)(bB:List Str)(d4:List (Str×Nat)):Prop where
 o:A[4]?=some (.bh (dP id [("people",.at 5),("rooms",.at 6)]))
 pe:A[5]?=some (.lst (bB.map .str))
 rs:A[6]?=some (.bh (dP .at d4))
def c_.Xx {n:Nat}(h:c_ A bB d4):ib (aJ (n+2) A (.at 4)) (.str "rooms")=.ok (.bh (dP (λj=>aJ n A (.at j)) d4)):=by
 rw[nG h.o,dv];show Rs.ok (aJ (n+1) A (.at 6))=_;rw[gQ h.rs];unfold dP;rw[cp];rfl
def c_.Xy (h:c_ A bB d4):ib (aJ 1 A (.at 4)) (.str "people")=.ok (.at 5):=by rw[rN h.o,dv];rfl
def c_.Mv (h:c_ A bB d4):ib (aJ 1 A (.at 4)) (.str "rooms")=.ok (.at 6):=by rw[rN h.o,dv];rfl
def aT.Xz {l':List Str}(h:aT A j ks kb ka rows aO stays aH asked d v p)(e:Ext A A' [(ka,.lst (l'.map .str))]):aT A' j ks kb ka rows aO stays aH l' d v p:=by
 have n:=h.ne;exact⟨e.same h.o (d9 (by omega)),e.same h.rw (d9 (by omega)),e.same h.rl (d9 (by omega)),e.same h.st (d9 (by omega)),e.same h.br (d9 (by omega)),e.new h.as B_,h.nd⟩
def aT.XB {l':List Str}(h:aT A j ks kb ka rows aO stays aH asked d v p)(e:Ext A A' [(kb,.lst (l'.map .str))]):aT A' j ks kb ka rows aO stays l' asked d v p:=by
 have n:=h.ne;exact⟨e.same h.o (d9 (by omega)),e.same h.rw (d9 (by omega)),e.same h.rl (d9 (by omega)),e.same h.st (d9 (by omega)),e.new h.br B_,e.same h.as (d9 (by omega)),h.nd⟩
def aT.e_o (h:aT A j ks kb ka rows aO stays aH asked d v p)(e:Ext A A' [(j,.bh (dP id (yr j ks kb ka d' b p')))]):aT A' j ks kb ka rows aO stays aH asked d' b p':=by
 have n:=h.ne;exact⟨e.new h.o B_,e.same h.rw (d9 (by omega)),e.same h.rl (d9 (by omega)),e.same h.st (d9 (by omega)),e.same h.br (d9 (by omega)),e.same h.as (d9 (by omega)),h.nd⟩
def aT.XC {l':List Str}(h:aT A j ks kb ka rows aO stays aH asked d v p):aT ((A++[Ao.lst (l'.map .str)]).set j (.bh (dP id (yr j ks A.length ka d v p)))) j ks A.length ka rows aO stays l' asked d v p:=by
 have n:=h.ne;have l1:=fh h.o;have l2:=fh h.rw;have g:=fh h.rl;have q:=fh h.st;have r:=fh h.as;have L:Ext A (A++[Ao.lst (l'.map .str)]) []:=Ext.push;have b:Ext (A++[Ao.lst (l'.map .str)]) _ _:=Ext.put (o:=.bh (dP id (yr j ks A.length ka d v p))) (L.same h.o rfl);refine⟨b.new (L.same h.o rfl) B_,b.same (L.same h.rw rfl) (d9 (by omega)),b.same (L.same h.rl rfl) (d9 (by omega)),b.same (L.same h.st rfl) (d9 (by omega)),b.same jV (d9 (by omega)),b.same (L.same h.as rfl) (d9 (by omega)),?_⟩;simp only[jK,a_,dr,dt,not_or,List.nodup_nil,not_false_eq_true,and_true];omega
def aT.Y0 {l:List (Str×Tr)}(h:aT A j ks kb ka rows aO stays aH asked d v p)(e:dk (yr j ks kb ka d v p) fk t=l):putD A (.at j) (.str fk) t Y=.ok (.nx Y) (A.set j (.bh (dP id l))):=by
 rw[gR h.o (by rw[gq];show 8<cX;decide),<-e];exact cR (λz=>Rz.ok (Out.nx Y) (A.set j (.bh z))) (gS (f:=id) (a:=t))
def aT.XD (h:aT A j ks kb ka rows aO stays aH asked d v p):ib (aJ 1 A (.at j)) (.str "barred")=.ok (.at kb):=by rw[rN h.o,dv];rfl
def aT.XF (h:aT A j ks kb ka rows aO stays aH asked d v p):ib (aJ 1 A (.at j)) (.str "asked")=.ok (.at ka):=by rw[rN h.o,dv];rfl
set_option maxHeartbeats 4000000 in
def aW.XG {n:Nat}{rk bn iv:List (Key×Tr)}(h:aW A i rows rk en ch bn iv)(f:dz rows):ly ["Room"] "log" (aJ (n+2) A (.at i))=.ok (.lst rows):=by
 rw[ju h.o];show Rs.ok (aJ (n+1) A (.at (i+1)))=_;rw[lZ h.lg,vV f]
def aW.gn {rk bn iv:List (Key×Tr)}(h:aW A i rows rk en ch bn iv)(hm:CO ((roomF i).map λp=>(p.1,aJ n A p.2)) m=true)(F:List Tr->Rs Tr)(l:Rs (List Tr)):zc "Room" m F (.ok (aJ (n+1) A (.at i))) l=l.bind λts=>F (aJ (n+1) A (.at i)::ts):=by
 rw[ju h.o];exact ay ⟨rfl,hm⟩
def bz.gn (h:bz A aA b8)(hm:CO (([("persons",.at 1),("places",.at 2),("hands",.at 3)]:List (Str×Tr)).map λp=>(p.1,aJ n A p.2)) m=true)(F:List Tr->Rs Tr)(l:Rs (List Tr)):zc "Hall" m F (.ok (aJ (n+1) A (.at 0))) l=l.bind λts=>F (aJ (n+1) A (.at 0)::ts):=by
 rw[ju h.o];exact ay ⟨rfl,hm⟩
theorem Cc{f:α->Tr}:∀{l:List (Str×α)},(∀p∈l,p.1.length<=1000)->vq (dP f l)=some (l.map (·.1))
 |[],_=>rfl
 |p::l,h=>by
  show(if p.1.length<=cy then(vq (dP f l)).map (λr=>p.1::r)else none)=_;rw[ay (bI (h p (cJ ..)) (by decide)),Cc λq L=>h q (cw _ L)]
  rfl
def Mw{f:α->Tr}{l:List (Str×α)}(h:∀p∈l,p.1.length<=1000)(b:l.length<64):z3 [.bh (dP f l)]=.ok (.lst ((kC (l.map (·.1))).map .str)):=by
 show BN (vq (dP f l))=_;rw[Cc h];exact ay (by rwa[aY])
theorem Y1:(∀T G Y,Bo T G [] Y=.ok (.nx Y))/\(∀T G t ts Y,Bo T G (t::ts) Y=(T t Y).bind λg=>(G g).bind λo=>match o with
  |.nx b=>Bo T G ts b
  |.ct b=>Bo T G ts b
  |.bk b=>.ok (.nx b)
  |.ret t=>.ok (.ret t))/\(∀T G ts Y,SV T G (.ok ts) Y=Bo T G ts Y)/\(∀ts,zS [.lst ts]=.ok (.tup ts)):=by
 refine⟨?_,?_,?_,?_⟩<;>intros<;>rfl
structure RB where
 bl:List Str
 own:List Str
 TF:List Str
 fl:List (Str×List Str)
 kd:List Df
 er:List Str
 xs:List (Str⊕String)
 cs:List Str
 rs:List Str
namespace RB
def val(K:Frag):Str⊕String->Value
 |.inl c=>.ref (clsAt K c)
 |.inr c=>.type c
noncomputable def tab(b:List Str):Str⊕String->List (Str×Bool)
 |.inl c=>b.map λx=>(x,x==c)
 |.inr _=>b.map λx=>(x,true)
def NR(K:Frag)(o:RB):Bool:=o.bl.all (λx=>decide (nsIn K mainGlobals x=some none))&&(o.own.all (λc=>decide (nsIn K mainGlobals c=some (some (.ref (clsAt K c)))))&&(o.TF.all (λc=>makesIn K (clsAt K c)&&(keepIn K (.ref (clsAt K c))&&decide (nsIn K mainGlobals c=some (some (.ref (clsAt K c))))))&&
 (o.fl.all (λp=>Mo K (clsAt K p.1)&&Xb K (clsAt K p.1) p.2)&&(o.kd.all (λd=>decide (specialIn K (.ref (d.adr K)) "__get__"=some (some (.builtin "function.__get__")))&&decide (takesIn K (.ref (d.adr K))=some false))&&
 (Uc K o.er&&(o.xs.all (λc=>Ub K (val K c) (tab o.er c))&&(o.cs.all (λc=>Ud K c o.er)&&o.rs.all (λc=>excIn K (clsAt K c) Yz "ValueError.__new__"))))))))
structure Ok(o:RB)(K:Frag)(mg:Str->Option Value):Prop where
 bl:∀{x},o.bl.contains x=true->mg x=none
 FC:∀{c},o.own.contains c=true->mg c=some (.ref (clsAt K c))
 Y2:∀{c},o.TF.contains c=true->GU K mg c
 fl:∀{c f fs},o.fl.lookup c=some fs->fs.contains f=true->kD K [c] f
 bn:∀(i:Nat) {d:Df},o.kd[i]?=some d->B7 K (d.adr K)
 xc:∀(i:Nat) {c},o.xs[i]?=some c->jD K (val K c) (tab o.er c)
 ca:∀{c},o.cs.contains c=true->o.own.contains c=true->qD K mg c o.er
 er:∀{c},o.rs.contains c=true->o.own.contains c=true->q_ K mg c
def ok{o:RB}{K:Frag}(X:K.In h)(G:h.Ns mainGlobals mg)(k:o.NR K=true):o.Ok K mg:=by
 unfold NR at k;simp only[bC,fU,jJ]at k;obtain⟨k1,k2,k3,L,k5,b,g,r,I⟩:=k;have FC:∀{c},o.own.contains c=true->mg c=some (.ref (clsAt K c)):=λm=>mg_of X G (k2 _ (ck.mp m));refine⟨λm=>mg_none_of X G (k1 _ (ck.mp m)),FC,λm=>?_,λ{c f fs} l m=>?_,λi d e=>?_,λi c e=>?_,λm n=>Jj (FC n) (r _ (ck.mp m)),λm n=>⟨FC n,I _ (ck.mp m)⟩⟩
 .have q:=k3 _ (ck.mp m);exact⟨q.1,q.2.1,mg_of X G q.2.2⟩
 .have q:=L _ (f9 l);refine⟨λx M=>?_⟩;cases cz.mp M;exact⟨Jk q.1,(fo (fU.mp q.2 f (ck.mp m)):findIn K (.ref (clsAt K c)) f=some none)⟩
 .have q:=k5 _ (eQ e);exact⟨q.1,q.2⟩
 .refine Qb (g _ (eQ e)) b ?_
  cases c<;>simp[tab,Function.comp_def]
end RB
end L2
namespace XH
open PySem.W (Frag)
open PySem L2
variable {aw d6:Str}{ar:List (Str×Str)}{rows:List Tr}{α:Type}{K:bW->Ab->Rz Out}
noncomputable def top(i:Nat):Stmt:=PySem.Challenge.pw_talkhall_k16_whole_rights.main.body.getD i (.Pass ⟨0,0,0,0⟩)
def Mx:Stmt->List Stmt
 |.ClassDef _ _ _ b _ _ _ _ _ _ _=>b
 |_=>[]
def eC(i j:Nat):Stmt:=(Mx (top i)).getD j (.Pass ⟨0,0,0,0⟩)
def Af:Df:=⟨none,"level","level",top 23,["role"]⟩
def iu:Df:=⟨some "Room","claim","Room.claim",eC 24 4,["self","who"]⟩
def iR:Df:=⟨some "Room","write_row","Room.write_row",eC 24 1,["self","who","word","parts"]⟩
def l8:Df:=⟨some "Room","let_in","Room.let_in",eC 24 2,["self","who","word","role"]⟩
def iT:Df:=⟨some "Room","give_role","Room.give_role",eC 24 3,["self","who","whom","role"]⟩
def kF:Df:=⟨some "Room","need_in","Room.need_in",eC 24 6,["self","who"]⟩
def gU:Df:=⟨some "Hall","need_people","Hall.need_people",eC 26 1,["self","names"]⟩
def iw:Df:=⟨some "Hall","place","Hall.place",eC 26 2,["self","room"]⟩
def iU:Df:=⟨some "Hall","place_for","Hall.place_for",eC 26 3,["self","names","room"]⟩
def pT:Df:=⟨some "Hall","come","Hall.come",eC 26 5,["self","who"]⟩
def gD:Df:=⟨some "Room","__init__","Room.__init__",eC 24 0,["self","who"]⟩
def jv:Df:=⟨some "Hall","__init__","Hall.__init__",eC 26 0,["self"]⟩
def nJ:Df:=⟨some "Hall","found","Hall.found",eC 26 8,["self","who","room"]⟩
def eY:Df:=⟨some "Room","see_to_owner","Room.see_to_owner",eC 24 5,["self"]⟩
def gV:Df:=⟨some "Room","need_keeper","Room.need_keeper",eC 24 7,["self","who"]⟩
def iy:Df:=⟨some "Room","need_above","Room.need_above",eC 24 8,["self","who","whom"]⟩
def jw:Df:=⟨some "Room","may_give","Room.may_give",eC 24 9,["self","who","whom","role"]⟩
def rO:Df:=⟨none,"comes_in","comes_in",top 18,["row","who"]⟩
def rP:Df:=⟨none,"goes_out","goes_out",top 19,["row","who"]⟩
def pU:Df:=⟨none,"sets_past","sets_past",top 20,["row"]⟩
def uW:Df:=⟨none,"seen_by","seen_by",top 21,["rows","who"]⟩
def jx:Df:=⟨some "Room","sees_say","Room.sees_say",eC 24 10,["self","who","number"]⟩
def d_:Df:=⟨some "Room","was_taken_back","Room.was_taken_back",eC 24 11,["self","number"]⟩
def jy:Df:=⟨some "Room","has_said","Room.has_said",eC 24 13,["self","who","number"]⟩
def jz:Df:=⟨some "Room","need_say","Room.need_say",eC 24 12,["self","who","number"]⟩
def nK:Df:=⟨some "Room","enter","Room.enter",eC 24 14,["self","who"]⟩
def nL:Df:=⟨some "Room","leave","Room.leave",eC 24 15,["self","who"]⟩
def kG:Df:=⟨some "Room","arrange","Room.arrange",eC 24 16,["self","who","what","value"]⟩
def rQ:Df:=⟨some "Room","ask","Room.ask",eC 24 17,["self","who","whom"]⟩
def pV:Df:=⟨some "Room","role","Room.role",eC 24 18,["self","who","whom","role"]⟩
def rR:Df:=⟨some "Room","out","Room.out",eC 24 19,["self","who","whom"]⟩
def rS:Df:=⟨some "Room","bar","Room.bar",eC 24 20,["self","who","whom"]⟩
def nM:Df:=⟨some "Room","unbar","Room.unbar",eC 24 21,["self","who","whom"]⟩
def rV:Df:=⟨some "Room","say","Room.say",eC 24 22,["self","who","words","answer"]⟩
def pW:Df:=⟨some "Room","mend","Room.mend",eC 24 24,["self","who","number","words"]⟩
def iV:Df:=⟨some "Room","take_back","Room.take_back",eC 24 25,["self","who","number"]⟩
def nN:Df:=⟨some "Hall","enter","Hall.enter",eC 26 9,["self","who","room"]⟩
def nO:Df:=⟨some "Hall","leave","Hall.leave",eC 26 10,["self","who","room"]⟩
def kH:Df:=⟨some "Hall","arrange","Hall.arrange",eC 26 11,["self","who","room","what","value"]⟩
def rW:Df:=⟨some "Hall","ask","Hall.ask",eC 26 12,["self","who","room","whom"]⟩
def pX:Df:=⟨some "Hall","role","Hall.role",eC 26 13,["self","who","room","whom","role"]⟩
def rX:Df:=⟨some "Hall","out","Hall.out",eC 26 14,["self","who","room","whom"]⟩
def rY:Df:=⟨some "Hall","bar","Hall.bar",eC 26 15,["self","who","room","whom"]⟩
def nP:Df:=⟨some "Hall","unbar","Hall.unbar",eC 26 16,["self","who","room","whom"]⟩
def rZ:Df:=⟨some "Hall","say","Hall.say",eC 26 17,["self","who","room","words","answer"]⟩
def pY:Df:=⟨some "Hall","mend","Hall.mend",eC 26 18,["self","who","room","number","words"]⟩
def iW:Df:=⟨some "Hall","take_back","Hall.take_back",eC 26 19,["self","who","room","number"]⟩
def nQ:Df:=⟨some "Hall","rooms","Hall.rooms",eC 26 7,["self"]⟩
def pZ:Df:=⟨some "Room","rows","Room.rows",eC 24 30,["self"]⟩
def p4:Df:=⟨some "Hall","rows","Hall.rows",eC 26 25,["self","room"]⟩
def xI:Df:=⟨none,"_law_rank","_law_rank",top 36,["_law_room","_law_who"]⟩
def xJ:Df:=⟨none,"_law_word","_law_word",top 32,["_law_kept"]⟩
def uX:Df:=⟨none,"_law_begin","_law_begin",top 35,["_law_people"]⟩
def Ag:Df:=⟨none,"_law_row","_law_row",top 38,["_law_room","_law_who","_law_parts"]⟩
def qF:Df:=⟨none,"_law_enter","_law_enter",top 39,["_law_room","_law_who","_law_word_here"]⟩
def uo:Df:=⟨none,"_law_quit","_law_quit",top 40,["_law_room","_law_who","_law_number"]⟩
def Ah:Df:=⟨none,"_law_mix","_law_mix",top 29,["_law_cell_here","_law_prime","_law_many"]⟩
def xK:Df:=⟨none,"_law_cell","_law_cell",top 28,["_law_script","_law_k"]⟩
def ke:Df:=⟨none,"_law_owned","_law_owned",top 41,["_law_room"]⟩
def lB:Df:=⟨none,"_law_changed","_law_changed",top 43,["_law_room","_law_deed_here"]⟩
def xM:Df:=⟨none,"_law_done","_law_done",top 42,["_law_model","_law_deed_here"]⟩
def p5:Df:=⟨none,"_law_rank_of","_law_rank_of",top 46,["_law_roles","_law_who"]⟩
def uq:Df:=⟨none,"_law_may","_law_may",top 47,["_law_rows","_law_row_here","_law_roles","_law_settings"]⟩
def l9:Df:=⟨none,"_law_are_right","_law_are_right",top 48,["_law_rows"]⟩
def qG:Df:=⟨none,"_law_words","_law_words",top 31,["_law_cell_here"]⟩
def ur:Df:=⟨none,"_law_deed","_law_deed",top 44,["_law_cell_here","_law_model","_law_words_here"]⟩
def xN:Df:=⟨none,"_law_call","_law_call",top 33,["_law_hall_here","_law_deed_here"]⟩
def xO:Df:=⟨none,"_law_told","_law_told",top 34,["_law_hall_here","_law_deed_here"]⟩
def xQ:Df:=⟨none,"_law_hall","_law_hall",top 45,["_law_hall_here","_law_model"]⟩
def zk:Df:=⟨none,"law","law",top 49,["_law_script"]⟩
def DS:List Df:=[Af,iu,iR,l8,iT,kF,gU,iw,iU,pT,gD,jv,nJ,eY,gV,iy,jw,rO,rP,pU,uW,jx,d_,jy,jz,nK,nL,kG,rQ,pV,rR,rS,nM,rV,pW,iV,nN,nO,kH,rW,pX,rX,rY,nP,rZ,pY,iW,nQ,pZ,p4,xI,xJ,uX,Ag,qF,uo,Ah,xK,ke,lB,xM,p5,uq,l9,qG,ur,xN,xO,xQ,zk]
structure RC(K:Frag)(w:World)(mg:Str->Option Value):Prop where
 d:∀(i:Nat) {e:Df},DS[i]?=some e->e.Ok K mg
 ValueError:mg "ValueError"=none
 all:mg "all"=none
 any:mg "any"=none
 dict:mg "dict"=none
 int:mg "int"=none
 isinstance:mg "isinstance"=none
 len:mg "len"=none
 list:mg "list"=none
 max:mg "max"=none
 min:mg "min"=none
 range:mg "range"=none
 sorted:mg "sorted"=none
 str:mg "str"=none
 tuple:mg "tuple"=none
 Ai:B7 K (iu.adr K)
 Qo:GU K mg "Hall"
 Qp:GU K mg "Room"
 My:NJ K mg "ROLES" [.str "guest",.str "speaker",.str "keeper",.str "owner"]
 mZ:kD K ["Room"] "banned"
 uu:kD K ["Room"] "chosen"
 uY:kD K ["Room"] "entries"
 Mz:kD K ["Hall"] "hands"
 qH:kD K ["Room"] "invited"
 vx:kD K ["Room"] "log"
 qI:kD K ["Hall"] "persons"
 jj:kD K ["Hall"] "places"
 dc:kD K ["Room"] "ranks"
 Aj:kD K ["Room"] "read_marks"
 yt:kD K ["Room"] "said_by_key"
 Jy:DB K w mg "SETTINGS" [("door",.tup [.str "open",.str "asked"]),("voice",.tup [.str "all",.str "some"]),("past",.tup [.str "shown",.str "hidden"])]
 D4:DR K w mg "SETTINGS" ["door","voice","past"]
 Jz:jD K (.ref (clsAt K "Barred")) [("Known",false),("NoPerson",false),("NoRoom",false),("NotIn",false),("NotAsked",false),("Barred",true),("NoRight",false),("NoRow",false),("NoHand",false),("NoLine",false)]
 MA:jD K (.ref (clsAt K "Known")) [("Known",true),("NoPerson",false),("NoRoom",false),("NotIn",false),("NotAsked",false),("Barred",false),("NoRight",false),("NoRow",false),("NoHand",false),("NoLine",false)]
 JA:jD K (.ref (clsAt K "NoHand")) [("Known",false),("NoPerson",false),("NoRoom",false),("NotIn",false),("NotAsked",false),("Barred",false),("NoRight",false),("NoRow",false),("NoHand",true),("NoLine",false)]
 JB:jD K (.ref (clsAt K "NoLine")) [("Known",false),("NoPerson",false),("NoRoom",false),("NotIn",false),("NotAsked",false),("Barred",false),("NoRight",false),("NoRow",false),("NoHand",false),("NoLine",true)]
 D5:jD K (.ref (clsAt K "NoPerson")) [("Known",false),("NoPerson",true),("NoRoom",false),("NotIn",false),("NotAsked",false),("Barred",false),("NoRight",false),("NoRow",false),("NoHand",false),("NoLine",false)]
 G1:jD K (.ref (clsAt K "NoRight")) [("Known",false),("NoPerson",false),("NoRoom",false),("NotIn",false),("NotAsked",false),("Barred",false),("NoRight",true),("NoRow",false),("NoHand",false),("NoLine",false)]
 JC:jD K (.ref (clsAt K "NoRoom")) [("Known",false),("NoPerson",false),("NoRoom",true),("NotIn",false),("NotAsked",false),("Barred",false),("NoRight",false),("NoRow",false),("NoHand",false),("NoLine",false)]
 MB:jD K (.ref (clsAt K "NoRow")) [("Known",false),("NoPerson",false),("NoRoom",false),("NotIn",false),("NotAsked",false),("Barred",false),("NoRight",false),("NoRow",true),("NoHand",false),("NoLine",false)]
 D6:jD K (.ref (clsAt K "NotAsked")) [("Known",false),("NoPerson",false),("NoRoom",false),("NotIn",false),("NotAsked",true),("Barred",false),("NoRight",false),("NoRow",false),("NoHand",false),("NoLine",false)]
 MC:jD K (.ref (clsAt K "NotIn")) [("Known",false),("NoPerson",false),("NoRoom",false),("NotIn",true),("NotAsked",false),("Barred",false),("NoRight",false),("NoRow",false),("NoHand",false),("NoLine",false)]
 Ak:jD K (.type "ValueError") [("Known",true),("NoPerson",true),("NoRoom",true),("NotIn",true),("NotAsked",true),("Barred",true),("NoRight",true),("NoRow",true),("NoHand",true),("NoLine",true)]
 G3:mg "Barred"=some (.ref (clsAt K "Barred"))
 JD:mg "Known"=some (.ref (clsAt K "Known"))
 G4:mg "NoHand"=some (.ref (clsAt K "NoHand"))
 G5:mg "NoLine"=some (.ref (clsAt K "NoLine"))
 Cd:mg "NoPerson"=some (.ref (clsAt K "NoPerson"))
 D7:mg "NoRight"=some (.ref (clsAt K "NoRight"))
 G6:mg "NoRoom"=some (.ref (clsAt K "NoRoom"))
 JE:mg "NoRow"=some (.ref (clsAt K "NoRow"))
 Ce:mg "NotAsked"=some (.ref (clsAt K "NotAsked"))
 JF:mg "NotIn"=some (.ref (clsAt K "NotIn"))
 Cf:qD K mg "TalkError" ["Known","NoPerson","NoRoom","NotIn","NotAsked","Barred","NoRight","NoRow","NoHand","NoLine"]
 JG:q_ K mg "Barred"
 nR:q_ K mg "Known"
 D8:q_ K mg "NoPerson"
 m5:q_ K mg "NoRight"
 JH:q_ K mg "NoRoom"
 FD:q_ K mg "NoRow"
 D9:q_ K mg "NotAsked"
 MD:q_ K mg "NotIn"
abbrev CS(n:Nat)(d:Df)(a b:Nat):={F:bW->Ab->Rz Out//∀{P:Program} {w:World} {K:Frag} {mg:Str->Option Value} {base:Heap},RC K w mg->CQ P w K mg base (y2 P w) n d (AG K (dB a b F))}
abbrev CP(n:Nat)(d:Df)(a b:Nat):={F:bW->Rs Out//∀{P:Program} {w:World} {K:Frag} {mg:Str->Option Value} {base:Heap},RC K w mg->CQ P w K mg base qX n d (spT K (uK a b F))}
abbrev CZ(n:Nat)(d:Df)(a b:Nat):={F:bW->Ab->Rz Out//∀{P:Program} {w:World} {K:Frag} {mg:Str->Option Value} {base:Heap},RC K w mg->CQ P w K mg base qX n d (spT K (vH a b F))}
abbrev KS(n:Nat)(d:Df)(m:List Tr->Ab->Rz Tr):Prop:=∀{P:Program} {w:World} {K:Frag} {mg:Str->Option Value} {base:Heap},RC K w mg->CQ P w K mg base (y2 P w) n d (AG K m)
abbrev KP(n:Nat)(d:Df)(m:List Tr->Rs Tr):Prop:=∀{P:Program} {w:World} {K:Frag} {mg:Str->Option Value} {base:Heap},RC K w mg->CQ P w K mg base qX n d (spT K m)
noncomputable def FE:CP 1 Af 1 1:=⟨_,λT=>lY ["role"] (T.d 0 rfl) λ_ _ _ _ _ _ _ L=>(cS (di (Tu (aB L) T.My (ak 0))))⟩
def vY:=uK 1 1 FE.1
def lC:KP 1 Af vY:=FE.2
noncomputable def jW:CP 2 iu 2 2:=⟨_,λT=>lY ["self","who"] (T.d 1 rfl) λ_ _ _ _ _ _ _ L=>(cS (di (bu (aq (Iq (du (lC T) L (aq (bc (aB L) (cx T.dc (ak 0)) (ak 1)) aD))) (aq (bc (aB L) (cx T.uY (ak 0)) (ak 1)) aD)))))⟩
def iz:=uK 2 2 jW.1
def Al:KP 2 iu iz:=jW.2
noncomputable def f':CS 1 iR 4 5:=⟨_,λT=>dY ["self","who","word","parts","number"] (T.d 2 rfl) λL _ _ _ _ _ _ b=>(aC (eO (i:=4) (az (dh fI (eE js T.len (aq (cx T.vx (ak 0)) aD)) aF)) L) (aC (aS (xt kT m_ gZ rJ (cT (gP T.vx (av (ak 0)))) (au (az (dh fI (bu (aq (ak 4) (aq (ak 1) (aq (ak 2) aD)))) (ak 3))) aG))) (aL (eB (av (ak 4))))))⟩
def m6:=dB 4 5 f'.1
def bX:KS 1 iR m6:=f'.2
noncomputable def jd:CS 2 l8 4 4:=⟨_,λT=>dY ["self","who","word","role"] (T.d 3 rfl) λ_ _ _ _ _ _ _ L=>(aC (fg (aB L) (cT (gP T.uY (av (ak 0)))) (av (ak 1)) (aV (bX T) L (cT (av (ak 0))) (au (av (ak 1)) (au (av (ak 2)) (au (az (bu aD)) aG))))) (aC (fg (aB L) (cT (gP T.dc (av (ak 0)))) (av (ak 1)) (av (ak 3))) (aL (aS (DM (cT (gP T.qH (av (ak 0)))) (av (ak 1)) (az kx))))))⟩
def rf:=dB 4 4 jd.1
def rg:KS 2 l8 rf:=jd.2
noncomputable def gb:CS 2 iT 4 4:=⟨_,λT=>dY ["self","who","whom","role"] (T.d 4 rfl) λ_ _ _ _ _ _ _ L=>(aC (aS (aV (bX T) L (cT (av (ak 0))) (au (av (ak 1)) (au (az ax) (au (az (bu (aq (ak 2) (aq (ak 3) aD)))) aG))))) (aL (fg (aB L) (cT (gP T.dc (av (ak 0)))) (av (ak 2)) (av (ak 3)))))⟩
def m7:=dB 4 4 gb.1
def m8:KS 2 iT m7:=gb.2
noncomputable def iA:CS 1 kF 2 2:=⟨_,λT=>dY ["self","who"] (T.d 5 rfl) λ_ _ _ _ _ _ _ L=>(aL (dg (ba (bj (vo (aB L)) (ak 1) (cx T.dc (ak 0)))) (aL (dR T.MD (au (az (fu (bO (dF (ak 1)) (bO ax iq)))) aG))) bS))⟩
def kI:=dB 2 2 iA.1
def cg:KS 1 kF kI:=iA.2
noncomputable def dw:CS 1 gU 2 3:=⟨_,λT=>dY ["self","names","name"] (T.d 6 rfl) λL _ _ _ _ _ _ b=>(aL (y4 (mO (ak 1)) (fc 2 L) (ff 2) (aL (dg (ba (bj (vo (aB b)) (ak 2) (cx T.qI (ak 0)))) (aL (dR T.D8 (au (az (fu (bO ax (bO (dF (ak 2)) iq)))) aG))) bS))))⟩
def gW:=dB 2 3 dw.1
def kJ:KS 1 gU gW:=dw.2
noncomputable def jX:CS 1 iw 2 2:=⟨_,λT=>dY ["self","room"] (T.d 7 rfl) λ_ _ _ _ _ _ _ L=>(aC (dg (ba (bj (vo (aB L)) (ak 1) (cx T.jj (ak 0)))) (aL (dR T.JH (au (az (fu (bO ax (bO (dF (ak 1)) iq)))) aG))) bS) (aL (eB (ue (aB L) (cT (gP T.jj (av (ak 0)))) (av (ak 1))))))⟩
def uv:=dB 2 2 jX.1
def Am:KS 1 iw uv:=jX.2
noncomputable def dW:CS 2 iU 3 3:=⟨_,λT=>dY ["self","names","room"] (T.d 8 rfl) λ_ _ _ _ _ _ _ L=>(aC (aS (aV (kJ T) L (cT (av (ak 0))) (au (av (ak 1)) aG))) (aL (eB (aV (Am T) L (cT (av (ak 0))) (au (av (ak 2)) aG)))))⟩
def iX:=dB 3 3 dW.1
def bY:KS 2 iU iX:=dW.2
noncomputable def g8:CS 1 pT 2 2:=⟨_,λT=>dY ["self","who"] (T.d 9 rfl) λ_ _ _ _ _ _ _ L=>(aC (dg (ba (bj (jR (aB L)) (ak 1) (cx T.qI (ak 0)))) (aL (dR T.nR (au (az (fu (bO (dF (ak 1)) (bO ax iq)))) aG))) bS) (aL (fg (aB L) (cT (gP T.qI (av (ak 0)))) (av (ak 1)) (az yn))))⟩
def lD:=dB 2 2 g8.1
def vy:KS 1 pT lD:=g8.2
def oz:CS 3 gD 2 2:=⟨_,λT=>dY ["self","who"] (T.d 10 rfl) λ_ _ _ _ _ _ _ L=>(aC (pP T.vx (av (ak 0)) (fx (xw aD))) (aC (pP T.dc (av (ak 0)) (fx kA)) (aC (pP T.uY (av (ak 0)) (fx kA)) (aC (pP T.uu (av (ak 0)) (fx (xx (Fq rfl) T.dict (aq (Lv (N':=["what"]) (ix:=[none]) (ji.of (N:=["self","who"]) (sc:=bb gD.st) rfl rfl (by decide)) (P5 T.D4) ⟨λs H ex=>⟨(fc 0 (by show List.Nodup (["what"]:List Str);decide)),vk,(bu (aq (ak 0) (aq (bc (aB L) (Ta T.Jy (ak 0)) aF) aD)))⟩⟩ (ff 0)) aD)))) (aC (pP T.mZ (av (ak 0)) (fx kA)) (aC (pP T.qH (av (ak 0)) (fx kA)) (aC (pP T.Aj (av (ak 0)) (fx kA)) (aC (pP T.yt (av (ak 0)) (fx kA)) (aL (aS (aV (rg T) L (cT (av (ak 0))) (au (av (ak 1)) (au (az ax) (au (az ax) aG))))))))))))))⟩
def vJ:=dB 2 2 oz.1
def vK:KS 3 gD vJ:=oz.2
noncomputable def oA:CS 1 jv 1 1:=⟨_,λT=>dY ["self"] (T.d 11 rfl) λ_ _ _ _ _ _ _ L=>(aC (pP T.qI (av (ak 0)) (fx kA)) (aC (pP T.jj (av (ak 0)) (fx kA)) (aL (pP T.Mz (av (ak 0)) (fx (xw aD))))))⟩
def oB:=dB 1 1 oA.1
def vL:KS 1 jv oB:=oA.2
noncomputable def jY:CS 5 nJ 3 3:=⟨_,λT=>dY ["self","who","room"] (T.d 12 rfl) λ_ _ _ _ _ _ _ L=>(aC (aS (aV (kJ T) L (cT (av (ak 0))) (au (az (bu (aq (ak 1) aD))) aG))) (aC (dg (ba (bj (jR (aB L)) (ak 2) (cx T.jj (ak 0)))) (aL (dR T.nR (au (az (fu (bO ax (bO (dF (ak 2)) (bO ax iq))))) aG))) bS) (aL (fg (aB L) (cT (gP T.jj (av (ak 0)))) (av (ak 2)) (Qe (vK T) T.Qp L (au (av (ak 1)) aG))))))⟩
def nT:=dB 3 3 jY.1
def An:KS 5 nJ nT:=jY.2
def eZ:CS 4 eY 1 3:=⟨_,λT=>dY ["self","owners","heir"] (T.d 13 rfl) λb _ _ _ _ _ _ L=>(aC (IV (i:=1) (N':=["name","self"]) (ix:=[none,some 0]) (ji.of (N:=["self","owners","heir"]) (sc:=bb eY.st) rfl rfl (by decide)) (Fg (cx T.dc (ak 0))) ⟨λs H ex=>⟨(fc 0 (by show List.Nodup (["name","self"]:List Str);decide)),(yT (bj (cM (cD L)) (bc (aB L) (cx T.dc (ak 1)) (ak 0)) ax)),(ak 0)⟩⟩ (ff 0) b) (aL (dg (ba (jr (tW (bj Dy (eE js T.len (aq (cx T.dc (ak 0)) aD)) aF) (nz (bj (cM (cD L)) (eE js T.len (aq (ak 1) aD)) aF))))) (aC (eO (i:=2) (az (Jn (Al T) T.Ai L T.min (mM (L6 rfl) T.list (aq (cx T.dc (ak 0)) aD)) (ak 0))) b) (aL (aS (aV (m8 T) L (cT (av (ak 0))) (au (av (ak 2)) (au (av (ak 2)) (au (az ax) aG))))))) bS)))⟩
def jE:=dB 1 3 eZ.1
def gs:KS 4 eY jE:=eZ.2
noncomputable def fw:CS 2 gV 2 2:=⟨_,λT=>dY ["self","who"] (T.d 14 rfl) λ_ _ _ _ _ _ _ L=>(aL (dg (ba (bj LG (du (lC T) L (aq (bc (aB L) (cx T.dc (ak 0)) (ak 1)) aD)) (du (lC T) L (aq ax aD)))) (aL (dR T.m5 (au (az (fu (bO (dF (ak 1)) (bO ax iq)))) aG))) bS))⟩
def kK:=dB 2 2 fw.1
def dZ:KS 2 gV kK:=fw.2
noncomputable def fJ:CS 3 iy 3 3:=⟨_,λT=>dY ["self","who","whom"] (T.d 15 rfl) λ_ _ _ _ _ _ _ L=>(aC (aS (aV (dZ T) L (cT (av (ak 0))) (au (av (ak 1)) aG))) (aL (dg (ba (jr (tW (bj (jR (aB L)) (ak 2) (cx T.dc (ak 0))) (nz (bj SY (du (lC T) L (aq (bc (aB L) (cx T.dc (ak 0)) (ak 2)) aD)) (du (lC T) L (aq (bc (aB L) (cx T.dc (ak 0)) (ak 1)) aD))))))) (aL (dR T.m5 (au (az (fu (bO (dF (ak 2)) (bO ax (bO (dF (ak 1)) iq))))) aG))) bS)))⟩
def lE:=dB 3 3 fJ.1
def lF:KS 3 iy lE:=fJ.2
noncomputable def gE:CP 2 jw 4 4:=⟨_,λT=>lY ["self","who","whom","role"] (T.d 16 rfl) λ_ _ _ _ _ _ _ L=>(bN (lS (bj (cM (cD L)) (bc (aB L) (cx T.dc (ak 0)) (ak 1)) ax) (cS (di (dN Wq (eE (NQ rfl) T.max (aq (du (lC T) L (aq (bc (aB L) (cx T.dc (ak 0)) (ak 2)) aD)) (aq (du (lC T) L (aq (ak 3) aD)) aD))) (du (lC T) L (aq ax aD))))) gw) (cS (di (dN (cM (cD L)) (bc (aB L) (cx T.dc (ak 0)) (ak 1)) ax))))⟩
def oC:=uK 4 4 gE.1
def vM:KP 2 jw oC:=gE.2
def nU:CP 1 rO 2 2:=⟨_,λT=>lY ["row","who"] (T.d 17 rfl) λ_ _ _ _ _ _ _ L=>(cS (di (ou (dN (cM (cD L)) (bc (aB L) (ak 0) aF) (ak 1)) (lq (dN (jR (aB L)) (bc (aB L) (ak 0) aF) (bu (aq ax (aq ax aD))))))))⟩
def xR:=uK 2 2 nU.1
def D_:KP 1 rO xR:=nU.2
def nV:CP 1 rP 2 2:=⟨_,λT=>lY ["row","who"] (T.d 18 rfl) λ_ _ _ _ _ _ _ L=>(bN (lS (bj (cM (cD L)) (bc (aB L) (ak 0) aF) ax) (cS (di (dN (cM (cD L)) (bc (aB L) (ak 0) aF) (ak 1)))) gw) (cS (di (ou (dN (jR (aB L)) (bc (aB L) (ak 0) aF) (bu (aq ax (aq ax aD)))) (lq (dN (cM (cD L)) (bc (aB L) (ak 0) aF) (ak 1)))))))⟩
def xT:=uK 2 2 nV.1
def Ea:KP 1 rP xT:=nV.2
def lG:CP 1 pU 1 1:=⟨_,λT=>lY ["row"] (T.d 19 rfl) λ_ _ _ _ _ _ _ L=>(cS (di (ou (dN (cM (cD L)) (bc (aB L) (ak 0) aF) ax) (lq (dN (cM (cD L)) (bc (aB L) (ak 0) aF) ax)))))⟩
def vz:=uK 1 1 lG.1
def Cg:KP 1 pU vz:=lG.2
def qJ:CZ 2 uW 2 6:=⟨_,λT=>Qd ["rows","who","seen","inside","past","row"] (T.d 20 rfl) λL _ _ _ _ _ _ b=>(aC (eO (i:=2) (fx (xw aD)) L) (aC (eO (i:=3) (az yn) L) (aC (eO (i:=4) (az ax) L) (aC (y4 (mO (ak 0)) (fc 5 L) (ff 5) (aC (dg (ba (lp (du (D_ T) b (aq (ak 5) (aq (ak 1) aD))))) (aC (eO (i:=3) (az yn) L) (aL (dg (ba (bj (cM (cD b)) (ak 4) ax)) (aL (eO (i:=2) (fx (Ml T.list T.range (aq aF (aq (bc (aB b) (ak 5) aF) aD)))) L)) bS))) bS) (aC (dg (ba (lp (ak 3))) (aL (aS (xt kT m_ gZ rJ (cT (av (ak 2))) (au (az (bc (aB b) (ak 5) aF)) aG)))) bS) (aC (dg (ba (lp (du (Ea T) b (aq (ak 5) (aq (ak 1) aD))))) (aL (eO (i:=3) (az yn) L)) bS) (aL (dg (ba (lp (du (Cg T) b (aq (ak 5) aD)))) (aL (eO (i:=4) (az (bc (aB b) (ak 5) aF)) L)) bS)))))) (aL (eB (az (mM zT T.tuple (aq (ak 2) aD)))))))))⟩
def uZ:=vH 2 6 qJ.1
def G7:KP 2 uW uZ:=qJ.2
def gF:CP 3 jx 3 3:=⟨_,λT=>lY ["self","who","number"] (T.d 21 rfl) λ_ _ _ _ _ _ _ L=>(cS (di (ou (dN (jR (aB L)) (ak 2) (du (G7 T) L (aq (cx T.vx (ak 0)) (aq (ak 1) aD)))) (lq (dN (cM (cD L)) (bc (aB L) (bc (aB L) (cx T.vx (ak 0)) (dh E3 (ak 2) aF)) aF) ax)))))⟩
def oE:=uK 3 3 gF.1
def oF:KP 3 jx oE:=gF.2
def ee:CP 1 d_ 2 2:=⟨_,λT=>lY ["self","number"] (T.d 22 rfl) λ_ _ _ _ _ _ _ L=>(cS (di (eE (TV rfl) T.any (aq (Lv (N':=["row","number"]) (ix:=[none,some 1]) (ji.of (N:=["self","number"]) (sc:=bb d_.st) rfl rfl (by decide)) (mO (cx T.vx (ak 0))) ⟨λs H ex=>⟨(fc 0 (by show List.Nodup (["row","number"]:List Str);decide)),vk,(ou (dN (cM (cD L)) (bc (aB L) (ak 0) aF) ax) (lq (dN (cM (cD L)) (bc (aB L) (ak 0) aF) (ak 1))))⟩⟩ (ff 0)) aD))))⟩
def iK:=uK 2 2 ee.1
def oU:KP 1 d_ iK:=ee.2
def gG:CP 1 jy 3 3:=⟨_,λT=>lY ["self","who","number"] (T.d 23 rfl) λ_ _ _ _ _ _ _ L=>(cS (di (dN (cM (cD L)) (bc (aB L) (bc (aB L) (cx T.vx (ak 0)) (dh E3 (ak 2) aF)) aF) (ak 1))))⟩
def gH:=uK 3 3 gG.1
def oG:KP 1 jy gH:=gG.2
def gJ:CS 4 jz 3 3:=⟨_,λT=>dY ["self","who","number"] (T.d 24 rfl) λ_ _ _ _ _ _ _ L=>(aL (dg (ba (jr (O6 (vj (lp (pS (oF T) L (ak 0) (aq (ak 1) (aq (ak 2) aD))))) (Ij (lp (pS (oU T) L (ak 0) (aq (ak 2) aD))))))) (aL (dR T.FD (au (az (fu (bO (dF (ak 1)) (bO ax (bO (dF (ak 2)) (bO ax iq)))))) aG))) bS))⟩
def oH:=dB 3 3 gJ.1
def oJ:KS 4 jz oH:=gJ.2
noncomputable def dC:CS 5 nK 2 2:=⟨_,λT=>dY ["self","who"] (T.d 25 rfl) λ_ _ _ _ _ _ _ L=>(aC (dg (ba (bj (jR (aB L)) (ak 1) (cx T.dc (ak 0)))) (aL (dR T.nR (au (az (fu (bO (dF (ak 1)) (bO ax iq)))) aG))) bS) (aC (dg (ba (bj (jR (aB L)) (ak 1) (cx T.mZ (ak 0)))) (aL (dR T.JG (au (az (fu (bO (dF (ak 1)) (bO ax iq)))) aG))) bS) (aC (dg (ba (jr (tW (bj (cM (cD L)) (bc (aB L) (cx T.uu (ak 0)) ax) ax) (nz (bj (vo (aB L)) (ak 1) (cx T.qH (ak 0))))))) (aL (dR T.D9 (au (az (fu (bO (dF (ak 1)) (bO ax iq)))) aG))) bS) (aC (aS (aV (rg T) L (cT (av (ak 0))) (au (av (ak 1)) (au (az ax) (au (az ax) aG))))) (aL (aS (Aa (gs T) L (cT (av (ak 0))))))))))⟩
def eL:=dB 2 2 dC.1
def Ap:KS 5 nK eL:=dC.2
noncomputable def gc:CS 5 nL 2 2:=⟨_,λT=>dY ["self","who"] (T.d 26 rfl) λ_ _ _ _ _ _ _ L=>(aC (aS (aV (cg T) L (cT (av (ak 0))) (au (av (ak 1)) aG))) (aC (aS (aV (bX T) L (cT (av (ak 0))) (au (av (ak 1)) (au (az ax) (au (az (bu aD)) aG))))) (aC (aS (xB (cT (gP T.dc (av (ak 0)))) (av (ak 1)))) (aL (aS (Aa (gs T) L (cT (av (ak 0)))))))))⟩
def gf:=dB 2 2 gc.1
def Aq:KS 5 nL gf:=gc.2
noncomputable def iB:CS 3 kG 4 4:=⟨_,λT=>dY ["self","who","what","value"] (T.d 27 rfl) λ_ _ _ _ _ _ _ L=>(aC (aS (aV (cg T) L (cT (av (ak 0))) (au (av (ak 1)) aG))) (aC (aS (aV (dZ T) L (cT (av (ak 0))) (au (av (ak 1)) aG))) (aC (aS (aV (bX T) L (cT (av (ak 0))) (au (av (ak 1)) (au (az ax) (au (az (bu (aq (ak 2) (aq (ak 3) aD)))) aG))))) (aL (fg (aB L) (cT (gP T.uu (av (ak 0)))) (av (ak 2)) (av (ak 3)))))))⟩
def kL:=dB 4 4 iB.1
def xU:KS 3 kG kL:=iB.2
noncomputable def nW:CS 3 rQ 3 3:=⟨_,λT=>dY ["self","who","whom"] (T.d 28 rfl) λ_ _ _ _ _ _ _ L=>(aC (aS (aV (cg T) L (cT (av (ak 0))) (au (av (ak 1)) aG))) (aC (aS (aV (dZ T) L (cT (av (ak 0))) (au (av (ak 1)) aG))) (aC (dg (ba (bj (jR (aB L)) (ak 2) (cx T.dc (ak 0)))) (aL (dR T.nR (au (az (fu (bO (dF (ak 2)) (bO ax iq)))) aG))) bS) (aC (aS (aV (bX T) L (cT (av (ak 0))) (au (av (ak 1)) (au (az ax) (au (az (bu (aq (ak 2) aD))) aG))))) (aL (fg (aB L) (cT (gP T.qH (av (ak 0)))) (av (ak 2)) (az yn)))))))⟩
def r6:=dB 3 3 nW.1
def Eb:KS 3 rQ r6:=nW.2
noncomputable def g9:CS 5 pV 4 4:=⟨_,λT=>dY ["self","who","whom","role"] (T.d 29 rfl) λ_ _ _ _ _ _ _ L=>(aC (aS (aV (cg T) L (cT (av (ak 0))) (au (av (ak 1)) aG))) (aC (aS (aV (cg T) L (cT (av (ak 0))) (au (av (ak 2)) aG))) (aC (dg (ba (vj (lp (pS (vM T) L (ak 0) (aq (ak 1) (aq (ak 2) (aq (ak 3) aD))))))) (aL (dR T.m5 (au (az (fu (bO (dF (ak 1)) (bO ax (bO (dF (ak 2)) (bO ax (bO (dF (ak 3)) iq))))))) aG))) bS) (aC (dg (ba (bj (cM (cD L)) (bc (aB L) (cx T.dc (ak 0)) (ak 2)) (ak 3))) (aL (dR T.nR (au (az (fu (bO (dF (ak 2)) (bO ax (bO (dF (ak 3)) iq))))) aG))) bS) (aC (aS (aV (m8 T) L (cT (av (ak 0))) (au (av (ak 1)) (au (av (ak 2)) (au (av (ak 3)) aG))))) (aL (aS (Aa (gs T) L (cT (av (ak 0)))))))))))⟩
def fP:=dB 4 4 g9.1
def Ci:KS 5 pV fP:=g9.2
noncomputable def nX:CS 4 rR 3 3:=⟨_,λT=>dY ["self","who","whom"] (T.d 30 rfl) λ_ _ _ _ _ _ _ L=>(aC (aS (aV (cg T) L (cT (av (ak 0))) (au (av (ak 1)) aG))) (aC (aS (aV (cg T) L (cT (av (ak 0))) (au (av (ak 2)) aG))) (aC (aS (aV (lF T) L (cT (av (ak 0))) (au (av (ak 1)) (au (av (ak 2)) aG)))) (aC (aS (aV (bX T) L (cT (av (ak 0))) (au (av (ak 1)) (au (az ax) (au (az (bu (aq (ak 2) aD))) aG))))) (aL (aS (xB (cT (gP T.dc (av (ak 0)))) (av (ak 2)))))))))⟩
def r8:=dB 3 3 nX.1
def Ec:KS 4 rR r8:=nX.2
noncomputable def nY:CS 4 rS 3 3:=⟨_,λT=>dY ["self","who","whom"] (T.d 31 rfl) λ_ _ _ _ _ _ _ L=>(aC (aS (aV (cg T) L (cT (av (ak 0))) (au (av (ak 1)) aG))) (aC (aS (aV (lF T) L (cT (av (ak 0))) (au (av (ak 1)) (au (av (ak 2)) aG)))) (aC (dg (ba (bj (jR (aB L)) (ak 2) (cx T.mZ (ak 0)))) (aL (dR T.nR (au (az (fu (bO (dF (ak 2)) (bO ax iq)))) aG))) bS) (aC (aS (aV (bX T) L (cT (av (ak 0))) (au (av (ak 1)) (au (az ax) (au (az (bu (aq (ak 2) aD))) aG))))) (aC (fg (aB L) (cT (gP T.mZ (av (ak 0)))) (av (ak 2)) (az yn)) (aL (aS (DM (cT (gP T.dc (av (ak 0)))) (av (ak 2)) (az kx)))))))))⟩
def r9:=dB 3 3 nY.1
def Ed:KS 4 rS r9:=nY.2
noncomputable def jZ:CS 3 nM 3 3:=⟨_,λT=>dY ["self","who","whom"] (T.d 32 rfl) λ_ _ _ _ _ _ _ L=>(aC (aS (aV (cg T) L (cT (av (ak 0))) (au (av (ak 1)) aG))) (aC (aS (aV (dZ T) L (cT (av (ak 0))) (au (av (ak 1)) aG))) (aC (dg (ba (bj (vo (aB L)) (ak 2) (cx T.mZ (ak 0)))) (aL (dR T.nR (au (az (fu (bO (dF (ak 2)) (bO ax iq)))) aG))) bS) (aC (aS (aV (bX T) L (cT (av (ak 0))) (au (av (ak 1)) (au (az ax) (au (az (bu (aq (ak 2) aD))) aG))))) (aL (aS (xB (cT (gP T.mZ (av (ak 0)))) (av (ak 2)))))))))⟩
def nZ:=dB 3 3 jZ.1
def Ar:KS 3 nM nZ:=jZ.2
def n5:CS 4 rV 4 4:=⟨_,λT=>dY ["self","who","words","answer"] (T.d 33 rfl) λ_ _ _ _ _ _ _ L=>(aC (aS (aV (cg T) L (cT (av (ak 0))) (au (av (ak 1)) aG))) (aC (dg (ba (jr (tW (bj (cM (cD L)) (bc (aB L) (cx T.uu (ak 0)) ax) ax) (nz (bj (cM (cD L)) (bc (aB L) (cx T.dc (ak 0)) (ak 1)) ax))))) (aL (dR T.m5 (au (az (fu (bO (dF (ak 1)) (bO ax iq)))) aG))) bS) (aC (dg (ba (jr (tW (bj S1 (ak 3) kx) (nz (vj (lp (pS (oF T) L (ak 0) (aq (ak 1) (aq (ak 3) aD))))))))) (aL (dR T.FD (au (az (fu (bO (dF (ak 1)) (bO ax (bO (dF (ak 3)) iq))))) aG))) bS) (aL (eB (aV (bX T) L (cT (av (ak 0))) (au (av (ak 1)) (au (az ax) (au (az (bu (aq (ak 2) (aq (ak 3) aD)))) aG)))))))))⟩
def r_:=dB 4 4 n5.1
def Ee:KS 4 rV r_:=n5.2
def lH:CS 5 pW 4 4:=⟨_,λT=>dY ["self","who","number","words"] (T.d 34 rfl) λ_ _ _ _ _ _ _ L=>(aC (aS (aV (cg T) L (cT (av (ak 0))) (au (av (ak 1)) aG))) (aC (aS (aV (oJ T) L (cT (av (ak 0))) (au (av (ak 1)) (au (av (ak 2)) aG)))) (aC (dg (ba (vj (lp (pS (oG T) L (ak 0) (aq (ak 1) (aq (ak 2) aD)))))) (aL (dR T.m5 (au (az (fu (bO (dF (ak 1)) (bO ax (bO (dF (ak 2)) iq))))) aG))) bS) (aL (aS (aV (bX T) L (cT (av (ak 0))) (au (av (ak 1)) (au (az ax) (au (az (bu (aq (ak 2) (aq (ak 3) aD)))) aG)))))))))⟩
def p7:=dB 4 4 lH.1
def Cj:KS 5 pW p7:=lH.2
def gg:CS 5 iV 3 3:=⟨_,λT=>dY ["self","who","number"] (T.d 35 rfl) λ_ _ _ _ _ _ _ L=>(aC (aS (aV (cg T) L (cT (av (ak 0))) (au (av (ak 1)) aG))) (aC (aS (aV (oJ T) L (cT (av (ak 0))) (au (av (ak 1)) (au (av (ak 2)) aG)))) (aC (dg (ba (vj (lp (pS (oG T) L (ak 0) (aq (ak 1) (aq (ak 2) aD)))))) (aL (aS (aV (dZ T) L (cT (av (ak 0))) (au (av (ak 1)) aG)))) bS) (aL (aS (aV (bX T) L (cT (av (ak 0))) (au (av (ak 1)) (au (az ax) (au (az (bu (aq (ak 2) aD))) aG)))))))))⟩
def iY:=dB 3 3 gg.1
def u0:KS 5 iV iY:=gg.2
noncomputable def j6:CS 6 nN 3 3:=⟨_,λT=>dY ["self","who","room"] (T.d 36 rfl) λ_ _ _ _ _ _ _ L=>(aL (aS (aV (Ap T) L (cT (aV (bY T) L (cT (av (ak 0))) (au (az (bu (aq (ak 1) aD))) (au (av (ak 2)) aG)))) (au (av (ak 1)) aG))))⟩
def n6:=dB 3 3 j6.1
def As:KS 6 nN n6:=j6.2
noncomputable def j7:CS 6 nO 3 3:=⟨_,λT=>dY ["self","who","room"] (T.d 37 rfl) λ_ _ _ _ _ _ _ L=>(aL (aS (aV (Aq T) L (cT (aV (bY T) L (cT (av (ak 0))) (au (az (bu (aq (ak 1) aD))) (au (av (ak 2)) aG)))) (au (av (ak 1)) aG))))⟩
def n8:=dB 3 3 j7.1
def Au:KS 6 nO n8:=j7.2
noncomputable def iC:CS 4 kH 5 5:=⟨_,λT=>dY ["self","who","room","what","value"] (T.d 38 rfl) λ_ _ _ _ _ _ _ L=>(aL (aS (aV (xU T) L (cT (aV (bY T) L (cT (av (ak 0))) (au (az (bu (aq (ak 1) aD))) (au (av (ak 2)) aG)))) (au (av (ak 1)) (au (av (ak 3)) (au (av (ak 4)) aG))))))⟩
def xV:=dB 5 5 iC.1
def xW:KS 4 kH xV:=iC.2
noncomputable def n_:CS 4 rW 4 4:=⟨_,λT=>dY ["self","who","room","whom"] (T.d 39 rfl) λ_ _ _ _ _ _ _ L=>(aL (aS (aV (Eb T) L (cT (aV (bY T) L (cT (av (ak 0))) (au (az (bu (aq (ak 1) (aq (ak 3) aD)))) (au (av (ak 2)) aG)))) (au (av (ak 1)) (au (av (ak 3)) aG)))))⟩
def Ef:=dB 4 4 n_.1
def Eg:KS 4 rW Ef:=n_.2
noncomputable def lI:CS 6 pX 5 5:=⟨_,λT=>dY ["self","who","room","whom","role"] (T.d 40 rfl) λ_ _ _ _ _ _ _ L=>(aL (aS (aV (Ci T) L (cT (aV (bY T) L (cT (av (ak 0))) (au (az (bu (aq (ak 1) (aq (ak 3) aD)))) (au (av (ak 2)) aG)))) (au (av (ak 1)) (au (av (ak 3)) (au (av (ak 4)) aG))))))⟩
def Ck:=dB 5 5 lI.1
def Cm:KS 6 pX Ck:=lI.2
noncomputable def og:CS 5 rX 4 4:=⟨_,λT=>dY ["self","who","room","whom"] (T.d 41 rfl) λ_ _ _ _ _ _ _ L=>(aL (aS (aV (Ec T) L (cT (aV (bY T) L (cT (av (ak 0))) (au (az (bu (aq (ak 1) (aq (ak 3) aD)))) (au (av (ak 2)) aG)))) (au (av (ak 1)) (au (av (ak 3)) aG)))))⟩
def Eh:=dB 4 4 og.1
def Ei:KS 5 rX Eh:=og.2
noncomputable def oh:CS 5 rY 4 4:=⟨_,λT=>dY ["self","who","room","whom"] (T.d 42 rfl) λ_ _ _ _ _ _ _ L=>(aL (aS (aV (Ed T) L (cT (aV (bY T) L (cT (av (ak 0))) (au (az (bu (aq (ak 1) (aq (ak 3) aD)))) (au (av (ak 2)) aG)))) (au (av (ak 1)) (au (av (ak 3)) aG)))))⟩
def Ej:=dB 4 4 oh.1
def Ek:KS 5 rY Ej:=oh.2
noncomputable def j8:CS 4 nP 4 4:=⟨_,λT=>dY ["self","who","room","whom"] (T.d 43 rfl) λ_ _ _ _ _ _ _ L=>(aL (aS (aV (Ar T) L (cT (aV (bY T) L (cT (av (ak 0))) (au (az (bu (aq (ak 1) (aq (ak 3) aD)))) (au (av (ak 2)) aG)))) (au (av (ak 1)) (au (av (ak 3)) aG)))))⟩
def Av:=dB 4 4 j8.1
def Aw:KS 4 nP Av:=j8.2
def oj:CS 5 rZ 5 5:=⟨_,λT=>dY ["self","who","room","words","answer"] (T.d 44 rfl) λ_ _ _ _ _ _ _ L=>(aL (eB (aV (Ee T) L (cT (aV (bY T) L (cT (av (ak 0))) (au (az (bu (aq (ak 1) aD))) (au (av (ak 2)) aG)))) (au (av (ak 1)) (au (av (ak 3)) (au (av (ak 4)) aG))))))⟩
def xX:=dB 5 5 oj.1
def El:KS 5 rZ xX:=oj.2
def lJ:CS 6 pY 5 5:=⟨_,λT=>dY ["self","who","room","number","words"] (T.d 45 rfl) λ_ _ _ _ _ _ _ L=>(aL (aS (aV (Cj T) L (cT (aV (bY T) L (cT (av (ak 0))) (au (az (bu (aq (ak 1) aD))) (au (av (ak 2)) aG)))) (au (av (ak 1)) (au (av (ak 3)) (au (av (ak 4)) aG))))))⟩
def Cn:=dB 5 5 lJ.1
def Co:KS 6 pY Cn:=lJ.2
def gi:CS 6 iW 4 4:=⟨_,λT=>dY ["self","who","room","number"] (T.d 46 rfl) λ_ _ _ _ _ _ _ L=>(aL (aS (aV (u0 T) L (cT (aV (bY T) L (cT (av (ak 0))) (au (az (bu (aq (ak 1) aD))) (au (av (ak 2)) aG)))) (au (av (ak 1)) (au (av (ak 3)) aG)))))⟩
def u3:=dB 4 4 gi.1
def u4:KS 6 iW u3:=gi.2
noncomputable def gK:CP 1 iw 2 2:=⟨_,λT=>lY ["self","room"] (T.d 7 rfl) λ_ _ _ _ _ _ _ L=>(bN (lS (bj (vo (aB L)) (ak 1) (cx T.jj (ak 0))) (cS TN) gw) (cS (di (bc (aB L) (cx T.jj (ak 0)) (ak 1)))))⟩
def oK:=uK 2 2 gK.1
def vN:KP 1 iw oK:=gK.2
noncomputable def j9:CP 1 nQ 1 1:=⟨_,λT=>lY ["self"] (T.d 47 rfl) λ_ _ _ _ _ _ _ L=>(cS (di (mM zT T.tuple (aq (eE (IJ rfl) T.sorted (aq (cx T.jj (ak 0)) aD)) aD))))⟩
def uw:=uK 1 1 j9.1
def Ax:KP 1 nQ uw:=j9.2
noncomputable def lK:CP 1 pZ 1 1:=⟨_,λT=>lY ["self"] (T.d 48 rfl) λ_ _ _ _ _ _ _ L=>(cS (di (mM zT T.tuple (aq (cx T.vx (ak 0)) aD))))⟩
def vA:=uK 1 1 lK.1
def Cp:KP 1 pZ vA:=lK.2
noncomputable def lL:CP 2 p4 2 2:=⟨_,λT=>lY ["self","room"] (T.d 49 rfl) λ_ _ _ _ _ _ _ L=>(cS (di (Ft (Cp T) L (pS (vN T) L (ak 0) (aq (ak 1) aD)))))⟩
def vB:=uK 2 2 lL.1
def Cq:KP 2 p4 vB:=lL.2
noncomputable def ux:CP 1 xI 2 2:=⟨_,λT=>lY ["_law_room","_law_who"] (T.d 50 rfl) λ_ _ _ _ _ _ _ L=>(cS (di (Lq (bj (jR (aB L)) (ak 1) (bc (aB L) (ak 0) ax)) (NK (aB L) (aq ax (aq ax (aq ax (aq ax aD)))) (bc (aB L) (bc (aB L) (ak 0) ax) (ak 1))) (Iq aF))))⟩
def Cr:=uK 2 2 ux.1
def Cs:KP 1 xI Cr:=ux.2
noncomputable def Ct:CP 1 xJ 1 3:=⟨_,λT=>lY ["_law_kept","_law_kinds","_law_words_here"] (T.d 51 rfl) λL _ _ _ _ _ _ b=>(bN (fb (i:=1) (tX (aq (lX T.MA T.JD T.isinstance (ak 0)) (aq (lX T.D5 T.Cd T.isinstance (ak 0)) aD))) L) (bN (fb (i:=1) (dh fI (ak 1) (tX (aq (lX T.JC T.G6 T.isinstance (ak 0)) (aq (lX T.MC T.JF T.isinstance (ak 0)) aD)))) L) (bN (fb (i:=1) (dh fI (ak 1) (tX (aq (lX T.D6 T.Ce T.isinstance (ak 0)) (aq (lX T.Jz T.G3 T.isinstance (ak 0)) aD)))) L) (bN (fb (i:=1) (dh fI (ak 1) (tX (aq (lX T.G1 T.D7 T.isinstance (ak 0)) aD))) L) (bN (fb (i:=1) (dh fI (ak 1) (tX (aq (lX T.MB T.JE T.isinstance (ak 0)) (aq (lX T.JA T.G4 T.isinstance (ak 0)) (aq (lX T.JB T.G5 T.isinstance (ak 0)) aD))))) L) (bN (fb (i:=2) (bu (aq ax (aq ax (aq ax (aq ax (aq ax (aq ax aD))))))) L) (bN (fb (i:=2) (dh fI (ak 2) (bu (aq ax (aq ax (aq ax (aq ax aD)))))) L) (bN (lS (jr (O6 (bj (LF (cD b)) (Ts PySem.F.slot_list_count PySem.F.type_list_count (PK (aB b)) (ak 1) yn) aF) (Ij (vj (lp (P4 T.Ak T.ValueError T.isinstance (ak 0))))))) (cS (di ax)) gw) (cS (di (bc (aB b) (ak 2) (Ts PySem.F.slot_list_index PySem.F.type_list_index (PH (aB b)) (ak 1) yn))))))))))))⟩
def xY:=uK 1 3 Ct.1
def JI:KP 1 xJ xY:=Ct.2
noncomputable def zl:CS 1 uX 1 1:=⟨_,λT=>dY ["_law_people"] (T.d 52 rfl) λ_ _ _ _ _ _ _ L=>(aL (eB (DY (lA (av ax) (fx (xx L3 T.list (aq (ak 0) aD))) (lA (av ax) (fx kA) DO)))))⟩
def zm:=dB 1 1 zl.1
def G8:KS 1 uX zm:=zl.2
noncomputable def vZ:CS 1 Ag 3 3:=⟨_,λT=>dY ["_law_room","_law_who","_law_parts"] (T.d 53 rfl) λ_ _ _ _ _ _ _ L=>(aC (aS (xt kT m_ gZ rJ (cT (ue (aB L) (cT (av (ak 0))) (az ax))) (au (az (dh fI (bu (aq (dh fI (eE js T.len (aq (bc (aB L) (ak 0) ax) aD)) aF) (aq (ak 1) aD))) (ak 2))) aG))) (aL (eB (az (eE js T.len (aq (bc (aB L) (ak 0) ax) aD))))))⟩
def Ay:=dB 3 3 vZ.1
def uy:KS 1 Ag Ay:=vZ.2
def qK:CS 2 qF 3 5:=⟨_,λT=>dY ["_law_room","_law_who","_law_word_here","_law_number","_law_first"] (T.d 54 rfl) λb _ _ _ _ _ _ L=>(aC (eO (i:=3) (iI (uy T) L (au (av (ak 0)) (au (av (ak 1)) (au (az (bu (aq (ak 2) aD))) aG)))) b) (aC (eO (i:=4) (az (Lq (bj (cM (cD L)) (bc (aB L) (ak 0) ax) ax) aF (ak 3))) b) (aC (aS (xt kT m_ gZ rJ (cT (ue (aB L) (cT (av (ak 0))) (az ax))) (au (az (bu (aq (ak 1) (aq (ak 4) (aq (ak 3) (aq kx aD)))))) aG))) (aC (fg (aB L) (cT (ue (aB L) (cT (av (ak 0))) (az ax))) (av (ak 1)) (az ax)) (aL (fg (aB L) (cT (av (ak 0))) (az ax) (fx (Pw (N':=["_law_one","_law_who"]) (ix:=[none,some 1]) (ji.of (N:=["_law_room","_law_who","_law_word_here","_law_number","_law_first"]) (sc:=bb qF.st) rfl rfl (by decide)) (mO (bc (aB L) (ak 0) ax)) ⟨λs H ex=>⟨(fc 0 (by show List.Nodup (["_law_one","_law_who"]:List Str);decide)),(yT (bj (LF (cD L)) (ak 0) (ak 1))),(ak 0)⟩⟩ (ff 0)))))))))⟩
def u5:=dB 3 5 qK.1
def zo:KS 2 qF u5:=qK.2
def uz:CS 1 uo 3 3:=⟨_,λT=>dY ["_law_room","_law_who","_law_number"] (T.d 55 rfl) λ_ _ _ _ _ _ _ L=>(aC (aS (xB (cT (ue (aB L) (cT (av (ak 0))) (az ax))) (av (ak 1)))) (aL (fg (aB L) (cT (av (ak 0))) (az ax) (fx (Pw (N':=["_law_stay","_law_who","_law_number"]) (ix:=[none,some 1,some 2]) (ji.of (N:=["_law_room","_law_who","_law_number"]) (sc:=bb uo.st) rfl rfl (by decide)) (mO (bc (aB L) (ak 0) ax)) ⟨λs H ex=>⟨(fc 0 (by show List.Nodup (["_law_stay","_law_who","_law_number"]:List Str);decide)),vk,(Lq (jr (tW (bj (cM (cD L)) (bc (aB L) (ak 0) aF) (ak 1)) (nz (bj Pg (bc (aB L) (ak 0) aF) kx)))) (dh fI (pR (ak 0) nB (iP aF)) (bu (aq (ak 2) aD))) (ak 0))⟩⟩ (ff 0))))))⟩
def xZ:=dB 3 3 uz.1
def Cu:KS 1 uo xZ:=uz.2
noncomputable def v5:CP 1 Ah 3 4:=⟨_,λT=>lY ["_law_cell_here","_law_prime","_law_many","_law_blend"] (T.d 56 rfl) λL _ _ _ _ _ _ b=>(bN (fb (i:=3) (dh yU (dh E4 (ak 0) aF) (ak 1)) L) (cS (di (dh yU (dh yU (dh E4 (ak 3) (dh fI (ak 3) aF)) (ak 1)) (ak 2)))))⟩
def Az:=uK 3 4 v5.1
def fK:KP 1 Ah Az:=v5.2
noncomputable def Cv:CP 1 xK 2 2:=⟨_,λT=>lY ["_law_script","_law_k"] (T.d 57 rfl) λ_ _ _ _ _ _ _ L=>(bN (lS (bj LG (ak 1) (eE js T.len (aq (ak 0) aD))) (cS (di (bc (aB L) (ak 0) (ak 1)))) gw) (cS (di aF)))⟩
def Cw:=uK 2 2 Cv.1
def JJ:KP 1 xK Cw:=Cv.2
def qL:CS 2 ke 1 3:=⟨_,λT=>dY ["_law_room","_law_most","_law_there"] (T.d 58 rfl) λb _ _ _ _ _ _ L=>(aC (dg (ba (jr (O6 (vj (lp (bc (aB L) (ak 0) ax))) (Ij (bj (jR (aB L)) ax (IG (N':=["_law_who","_law_room"]) (ix:=[none,some 0]) (ji.of (N:=["_law_room","_law_most","_law_there"]) (sc:=bb ke.st) rfl rfl (by decide)) (Fg (bc (aB L) (ak 0) ax)) ⟨λs H ex=>⟨(fc 0 (by show List.Nodup (["_law_who","_law_room"]:List Str);decide)),vk,(bc (aB L) (bc (aB L) (ak 1) ax) (ak 0))⟩⟩ (ff 0))))))) (aL Pp) bS) (aC (eO (i:=1) (az (eE (NQ rfl) T.max (aq (IG (N':=["_law_who","_law_room"]) (ix:=[none,some 0]) (ji.of (N:=["_law_room","_law_most","_law_there"]) (sc:=bb ke.st) rfl rfl (by decide)) (Fg (bc (aB L) (ak 0) ax)) ⟨λs H ex=>⟨(fc 0 (by show List.Nodup (["_law_who","_law_room"]:List Str);decide)),vk,(du (Cs T) L (aq (ak 1) (aq (ak 0) aD)))⟩⟩ (ff 0)) aD))) b) (aC (LZ (i:=2) (N':=["_law_stay","_law_most","_law_room"]) (ix:=[none,some 1,some 0]) (ji.of (N:=["_law_room","_law_most","_law_there"]) (sc:=bb ke.st) rfl rfl (by decide)) (mO (bc (aB L) (ak 0) ax)) ⟨λs H ex=>⟨(fc 0 (by show List.Nodup (["_law_stay","_law_most","_law_room"]:List Str);decide)),(yT (jr (tW (bj Pg (bc (aB L) (ak 0) aF) kx) (nz (bj (cM (cD L)) (du (Cs T) L (aq (ak 2) (aq (bc (aB L) (ak 0) aF) aD))) (ak 1)))))),(bc (aB L) (ak 0) aF)⟩⟩ (ff 0) b) (aC (fg (aB L) (cT (ue (aB L) (cT (av (ak 0))) (az ax))) (az (bc (aB L) (ak 2) aF)) (az ax)) (aL (aS (iI (uy T) L (au (av (ak 0)) (au (az (bc (aB L) (ak 2) aF)) (au (az (bu (aq ax (aq (bc (aB L) (ak 2) aF) (aq ax aD))))) aG))))))))))⟩
def kg:=dB 1 3 qL.1
def G9:KS 2 ke kg:=qL.2
def bU:CS 2 lB 2 6:=⟨_,λT=>dY ["_law_room","_law_deed_here","_law_word_here","_law_who","_law_names","_law_number"] (T.d 59 rfl) λb _ _ _ _ _ _ L=>(aC (IB (EW (is:=[2,3]) (pD (i:=2) (pD (i:=3) EU b) b)) (Dt [2,3]) (az (pR (ak 1) nB (iP aF)))) (aC (eO (i:=4) (fx (xx (Fq rfl) T.dict (aq (tX (aq (bu (aq ax (aq ax aD))) (aq (bu (aq ax (aq ax aD))) aD))) aD))) b) (aC (eO (i:=5) (iI (uy T) L (au (av (ak 0)) (au (av (ak 3)) (au (az (dh fI (bu (aq (Iw (aB L) (ak 4) (ak 2) (ak 2)) aD)) (pR (ak 1) (iP aF) nB))) aG)))) b) (aC (dg (ba (bj (cM (cD L)) (ak 2) ax)) (aL (fg (aB L) (cT (av (ak 0))) (az (bc (aB L) (ak 1) aF)) (az (bc (aB L) (ak 1) aF)))) bS) (aC (dg (ba (bj (cM (cD L)) (ak 2) ax)) (aL (aS (xt kT m_ gZ rJ (cT (ue (aB L) (cT (av (ak 0))) (az ax))) (au (az (bc (aB L) (ak 1) aF)) aG)))) bS) (aC (dg (ba (bj (cM (cD L)) (ak 2) ax)) (aL (fg (aB L) (cT (ue (aB L) (cT (av (ak 0))) (az ax))) (az (bc (aB L) (ak 1) aF)) (az (bc (aB L) (ak 1) aF)))) bS) (aC (dg (ba (bj (cM (cD L)) (ak 2) ax)) (aL (aS (xt kT m_ gZ rJ (cT (ue (aB L) (cT (av (ak 0))) (az ax))) (au (az (bc (aB L) (ak 1) aF)) aG)))) bS) (aC (dg (ba (bj (cM (cD L)) (ak 2) ax)) (aL (fg (aB L) (cT (av (ak 0))) (az ax) (fx (Pw (N':=["_law_one","_law_deed_here"]) (ix:=[none,some 1]) (ji.of (N:=["_law_room","_law_deed_here","_law_word_here","_law_who","_law_names","_law_number"]) (sc:=bb lB.st) rfl rfl (by decide)) (mO (bc (aB L) (ak 0) ax)) ⟨λs H ex=>⟨(fc 0 (by show List.Nodup (["_law_one","_law_deed_here"]:List Str);decide)),(yT (bj (LF (cD L)) (ak 0) (bc (aB L) (ak 1) aF))),(ak 0)⟩⟩ (ff 0))))) bS) (aL (dg (ba (jr (tW (bj (jR (aB L)) (ak 2) (bu (aq ax (aq ax aD)))) (nz (bj (jR (aB L)) (bc (aB L) (ak 1) aF) (bc (aB L) (ak 0) ax)))))) (aL (aS (iI (Cu T) L (au (av (ak 0)) (au (az (bc (aB L) (ak 1) aF)) (au (av (ak 5)) aG)))))) bS))))))))))⟩
def dU:=dB 2 6 bU.1
def Cy:KS 2 lB dU:=bU.2
noncomputable def fy:CS 3 xM 2 5:=⟨_,λT=>dY ["_law_model","_law_deed_here","_law_word_here","_law_who","_law_room"] (T.d 60 rfl) λb _ _ _ _ _ _ L=>(aC (IB (EW (is:=[2,3]) (pD (i:=2) (pD (i:=3) EU b) b)) (Dt [2,3]) (az (pR (ak 1) nB (iP aF)))) (aC (dg (ba (bj (cM (cD L)) (ak 2) ax)) (aC (aS (xt kT m_ gZ rJ (cT (ue (aB L) (cT (av (ak 0))) (az ax))) (au (av (ak 3)) aG))) (aL (eB (az kx)))) bS) (aC (dg (ba (bj (cM (cD L)) (ak 2) ax)) (aC (eO (i:=4) (DY (lA (av ax) (fx (xw aD)) (lA (av ax) (fx kA) (lA (av ax) (fx (xw aD)) (lA (av ax) (fx (xw aD)) (lA (av ax) (fx (xw aD)) DO)))))) b) (aC (aS (TU (cT (av (ak 4))) (av (Iu (z_ ax ax (z_ ax ax (z_ ax ax Nz))))))) (aC (fg (aB L) (cT (ue (aB L) (cT (av (ak 0))) (az ax))) (az (bc (aB L) (ak 1) aF)) (av (ak 4))) (aC (aS (iI (zo T) L (au (av (ak 4)) (au (av (ak 3)) (au (az ax) aG))))) (aC (fg (aB L) (cT (ue (aB L) (cT (av (ak 4))) (az ax))) (av (ak 3)) (az ax)) (aL (eB (az kx)))))))) bS) (aC (eO (i:=4) (ue (aB L) (cT (ue (aB L) (cT (av (ak 0))) (az ax))) (az (bc (aB L) (ak 1) aF))) b) (aC (dg (ba (bj (cM (cD L)) (ak 2) ax)) (aL (eB (iI (uy T) L (au (av (ak 4)) (au (av (ak 3)) (au (az (dh fI (pR (ak 1) nB (iP aF)) (pR (ak 1) (iP aF) nB))) aG)))))) bS) (aC (dg (ba (bj (cM (cD L)) (ak 2) ax)) (aL (aS (iI (zo T) L (au (av (ak 4)) (au (av (ak 3)) (au (az ax) aG)))))) (aL (dg (ba (bj (cM (cD L)) (ak 2) ax)) (aL (aS (iI (Cu T) L (au (av (ak 4)) (au (av (ak 3)) (au (iI (uy T) L (au (av (ak 4)) (au (av (ak 3)) (au (az (bu (aq ax aD))) aG)))) aG)))))) (aL (aS (iI (Cy T) L (au (av (ak 4)) (au (av (ak 1)) aG)))))))) (aC (aS (iI (G9 T) L (au (av (ak 4)) aG))) (aL (eB (az kx))))))))))⟩
def cP:=dB 2 5 fy.1
def Cz:KS 3 xM cP:=fy.2
def lM:CP 1 p5 2 2:=⟨_,λT=>lY ["_law_roles","_law_who"] (T.d 61 rfl) λ_ _ _ _ _ _ _ L=>(cS (di (Lq (bj (jR (aB L)) (ak 1) (ak 0)) (NK (aB L) (aq ax (aq ax (aq ax (aq ax aD)))) (bc (aB L) (ak 0) (ak 1))) (Iq aF))))⟩
def vC:=uK 2 2 lM.1
def vD:KP 1 p5 vC:=lM.2
def v7:CP 2 uq 4 10:=⟨_,λT=>lY ["_law_rows","_law_row_here","_law_roles","_law_settings","_law_who","_law_word_here","_law_mine","_law_alone","_law_said","_law_before"] (T.d 62 rfl) λb _ _ _ _ _ _ L=>(bN (SU (EW (is:=[4,5]) (pD (i:=4) (pD (i:=5) EU b) b)) (pR (ak 1) (iP aF) (iP aF))) (bN (fb (i:=6) (du (vD T) L (aq (ak 2) (aq (ak 4) aD))) b) (bN (lS (bj (jR (aB L)) (ak 5) (bu (aq ax (aq ax aD)))) (cS (di (dN LG (ak 6) aF))) gw) (bN (lS (bj (cM (cD L)) (ak 5) ax) (bN (fb (i:=7) (dN (vo (aB L)) ax (IG (N':=["_law_one","_law_roles"]) (ix:=[none,some 2]) (ji.of (N:=["_law_rows","_law_row_here","_law_roles","_law_settings","_law_who","_law_word_here","_law_mine","_law_alone","_law_said","_law_before"]) (sc:=bb uq.st) rfl rfl (by decide)) (Fg (ak 2)) ⟨λs H ex=>⟨(fc 0 (by show List.Nodup (["_law_one","_law_roles"]:List Str);decide)),vk,(bc (aB L) (ak 1) (ak 0))⟩⟩ (ff 0))) b) (cS (di (Lo (ou (ak 7) (lq (dN (cM (cD L)) (pR (ak 1) (iP aF) nB) (bu (aq (ak 4) (aq ax aD)))))) (Lo (dN Dy (ak 6) aF) (lq (ou (dN (cM (cD L)) (ak 6) aF) (lq (dN (jR (aB L)) (bc (aB L) (ak 1) aF) (bu (aq ax (aq ax aD)))))))))))) gw) (bN (lS (bj (jR (aB L)) (ak 5) (bu (aq ax (aq ax (aq ax aD))))) (cS (di (dN Dy (ak 6) aF))) gw) (bN (lS (bj (jR (aB L)) (ak 5) (bu (aq ax (aq ax aD)))) (cS (di (ou (dN Dy (ak 6) aF) (lq (dN LG (du (vD T) L (aq (ak 2) (aq (bc (aB L) (ak 1) aF) aD))) (ak 6)))))) gw) (bN (lS (bj (cM (cD L)) (ak 5) ax) (cS (di (Lo (dN Dy (ak 6) aF) (lq (ou (dN (cM (cD L)) (ak 6) aF) (lq (dN (cM (cD L)) (bc (aB L) (ak 3) ax) ax))))))) gw) (bN (lS (bj (jR (aB L)) (ak 5) (bu (aq ax (aq ax aD)))) (bN (fb (i:=8) (bc (aB L) (ak 0) (dh E3 (bc (aB L) (ak 1) aF) aF)) b) (bN (E2 (i:=9) (N':=["_law_one"]) (ix:=[none]) (ji.of (N:=["_law_rows","_law_row_here","_law_roles","_law_settings","_law_who","_law_word_here","_law_mine","_law_alone","_law_said","_law_before"]) (sc:=bb uq.st) rfl rfl (by decide)) (mO (pR (ak 0) nB (iP (dh E3 (bc (aB L) (ak 1) aF) aF)))) ⟨λs H ex=>⟨(fc 0 (by show List.Nodup (["_law_one"]:List Str);decide)),(yT (bj (cM (cD L)) (bc (aB L) (ak 0) aF) ax)),(bc (aB L) (ak 0) aF)⟩⟩ (ff 0) b) (cS (di (ou (dN (cM (cD L)) (bc (aB L) (ak 8) aF) ax) (ou (dN (vo (aB L)) (bc (aB L) (ak 1) aF) (ak 9)) (lq (Lo (dN (cM (cD L)) (bc (aB L) (ak 8) aF) (ak 4)) (lq (ou (dN (cM (cD L)) (ak 5) ax) (lq (dN Dy (ak 6) aF)))))))))))) gw) (cS (di (dN SY (ak 6) aF)))))))))))⟩
def FF:=uK 4 10 v7.1
def ME:KP 2 uq FF:=v7.2
def je:CZ 3 l9 1 6:=⟨_,λT=>Qd ["_law_rows","_law_roles","_law_settings","_law_row_here","_law_who","_law_word_here"] (T.d 63 rfl) λb _ _ _ _ _ _ L=>(aC (eO (i:=1) (fx kA) b) (aC (eO (i:=2) (DY (lA (av ax) (az ax) DO)) b) (aC (y4 (mO (ak 0)) (fc 3 b) (ff 3) (aC (dg (ba (vj (lp (du (ME T) L (aq (ak 0) (aq (ak 3) (aq (ak 1) (aq (ak 2) aD)))))))) (aL (eB (az yn))) bS) (aC (IB (EW (is:=[4,5]) (pD (i:=4) (pD (i:=5) EU b) b)) (Dt [4,5]) (az (pR (ak 3) (iP aF) (iP aF)))) (aC (dg (ba (bj (jR (aB L)) (ak 5) (bu (aq ax (aq ax aD))))) (aL (fg (aB L) (cT (av (ak 1))) (av (ak 4)) (az (bc (aB L) (bu (aq ax (aq ax aD))) (mM NL T.int (aq (dN (cM (cD L)) (ak 5) ax) aD)))))) bS) (aC (dg (ba (bj (cM (cD L)) (ak 5) ax)) (aL (fg (aB L) (cT (av (ak 1))) (az (bc (aB L) (ak 3) aF)) (az (bc (aB L) (ak 3) aF)))) bS) (aC (dg (ba (bj (cM (cD L)) (ak 5) ax)) (aL (aS (xB (cT (av (ak 1))) (av (ak 4))))) bS) (aC (dg (ba (bj (jR (aB L)) (ak 5) (bu (aq ax (aq ax aD))))) (aL (aS (DM (cT (av (ak 1))) (az (bc (aB L) (ak 3) aF)) (az kx)))) bS) (aL (dg (ba (bj (cM (cD L)) (ak 5) ax)) (aL (fg (aB L) (cT (av (ak 2))) (az (bc (aB L) (ak 3) aF)) (az (bc (aB L) (ak 3) aF)))) bS))))))))) (aL (eB (az yn))))))⟩
def l_:=vH 1 6 je.1
def yu:KP 3 l9 l_:=je.2
def qM:CP 2 qG 1 4:=⟨_,λT=>lY ["_law_cell_here","_law_signs","_law_some","_law_many"] (T.d 64 rfl) λb _ _ _ _ _ _ L=>(bN (fb (i:=1) ax b) (bN (lS (bj (cM (cD L)) (dh yU (ak 0) aF) aF) (bN (fb (i:=2) (bu (aq ax (aq ax (aq ax (aq ax (aq ax (aq ax (aq ax (aq ax aD))))))))) b) (bN (fb (i:=2) (dh fI (ak 2) (bu (aq ax (aq ax (aq ax (aq ax aD)))))) b) (cS (di (bc (aB L) (ak 2) (du (fK T) L (aq (ak 0) (aq aF (aq aF aD))))))))) gw) (bN (fb (i:=3) (dh fI aF (du (fK T) L (aq (ak 0) (aq aF (aq aF aD))))) b) (bN (lS (bj (cM (cD L)) (du (fK T) L (aq (ak 0) (aq aF (aq aF aD)))) aF) (cS (fb (i:=3) aF b)) gw) (cS (di (Wt PySem.F.slot_str_join PySem.F.type_str_join Ph ax (aq (Lv (N':=["_law_k","_law_signs","_law_cell_here"]) (ix:=[none,some 1,some 0]) (ji.of (N:=["_law_cell_here","_law_signs","_law_some","_law_many"]) (sc:=bb qG.st) rfl rfl (by decide)) (Br T.range (aq (ak 3) aD)) ⟨λs H ex=>⟨(fc 0 (by show List.Nodup (["_law_k","_law_signs","_law_cell_here"]:List Str);decide)),vk,(bc (aB L) (ak 1) (du (fK T) L (aq (dh fI (ak 2) (dh E4 aF (ak 0))) (aq aF (aq (eE js T.len (aq (ak 1) aD)) aD)))))⟩⟩ (ff 0)) aD))))))))⟩
def zp:=uK 1 4 qM.1
def zq:KP 2 qG zp:=qM.2
def uA:CP 3 ur 3 12:=⟨_,λT=>lY ["_law_cell_here","_law_model","_law_words_here","_law_names","_law_who","_law_whom","_law_room","_law_word_here","_law_some","_law_there","_law_number","_law_said"] (T.d 65 rfl) λb _ _ _ _ _ _ L=>(bN (fb (i:=3) (bu (aq ax (aq ax (aq ax (aq ax (aq ax aD)))))) b) (bN (lS (bj (cM (cD L)) (du (fK T) L (aq (ak 0) (aq aF (aq aF aD)))) aF) (cS (fb (i:=3) (bu (aq ax (aq ax (aq ax aD)))) b)) gw) (bN (fb (i:=4) (bc (aB L) (ak 3) (du (fK T) L (aq (ak 0) (aq aF (aq (eE js T.len (aq (ak 3) aD)) aD))))) b) (bN (fb (i:=5) (bc (aB L) (ak 3) (du (fK T) L (aq (ak 0) (aq aF (aq (eE js T.len (aq (ak 3) aD)) aD))))) b) (bN (fb (i:=6) (bc (aB L) (bu (aq ax (aq ax (aq ax (aq ax aD))))) (du (fK T) L (aq (ak 0) (aq aF (aq aF aD))))) b) (bN (fb (i:=7) (bc (aB L) (ak 2) (du (fK T) L (aq (ak 0) (aq aF (aq (eE js T.len (aq (ak 2) aD)) aD))))) b) (bN (lS (bj (jR (aB L)) (ak 7) (bu (aq ax (aq ax (aq ax (aq ax aD)))))) (cS (di (pR (bu (aq (ak 7) (aq (ak 4) (aq (ak 6) aD)))) nB (iP (dh fI aF (mM NL T.int (aq (dN (LF (cD L)) (ak 7) ax) aD))))))) gw) (bN (lS (bj (cM (cD L)) (ak 7) ax) (bN (fb (i:=8) (tX (aq (bu (aq ax (aq ax aD))) (aq (bu (aq ax (aq ax aD))) (aq (bu (aq ax (aq ax aD))) aD)))) b) (bN (fb (i:=8) (dh fI (ak 8) (tX (aq (bu (aq ax (aq ax aD))) (aq (bu (aq ax (aq ax aD))) (aq (bu (aq ax (aq ax aD))) aD))))) b) (cS (di (dh fI (bu (aq (ak 7) (aq (ak 4) (aq (ak 6) aD)))) (bc (aB L) (ak 8) (du (fK T) L (aq (ak 0) (aq aF (aq aF aD)))))))))) gw) (bN (lS (bj (cM (cD L)) (ak 7) ax) (cS (di (bu (aq (ak 7) (aq (ak 4) (aq (ak 6) (aq (ak 5) (aq (bc (aB L) (bu (aq ax (aq ax (aq ax (aq ax aD))))) (du (fK T) L (aq (ak 0) (aq aF (aq aF aD))))) aD)))))))) gw) (bN (lS (bj (jR (aB L)) (ak 7) (bu (aq ax (aq ax (aq ax (aq ax aD)))))) (cS (di (bu (aq (ak 7) (aq (ak 4) (aq (ak 6) (aq (ak 5) aD))))))) gw) (bN (fb (i:=9) (bc (aB L) (Iw (aB L) (bc (aB L) (ak 1) ax) (ak 6) (Iu (z_ ax (tX aD) Nz))) ax) b) (bN (fb (i:=10) (du (fK T) L (aq (ak 0) (aq aF (aq (dh fI (eE js T.len (aq (ak 9) aD)) aF) aD)))) b) (bN (E2 (i:=11) (N':=["_law_row_here"]) (ix:=[none]) (ji.of (N:=["_law_cell_here","_law_model","_law_words_here","_law_names","_law_who","_law_whom","_law_room","_law_word_here","_law_some","_law_there","_law_number","_law_said"]) (sc:=bb ur.st) rfl rfl (by decide)) (mO (ak 9)) ⟨λs H ex=>⟨(fc 0 (by show List.Nodup (["_law_row_here"]:List Str);decide)),(yT (bj (cM (cD L)) (bc (aB L) (ak 0) aF) ax)),(bc (aB L) (ak 0) aF)⟩⟩ (ff 0) b) (bN (lS (jr (tW (lp (ak 11)) (nz (bj Dy (dh yU (ak 0) aF) aF)))) (cS (fb (i:=10) (bc (aB L) (ak 11) (du (fK T) L (aq (ak 0) (aq aF (aq (eE js T.len (aq (ak 11) aD)) aD))))) b)) gw) (bN (lS (bj (cM (cD L)) (ak 7) ax) (cS (di (bu (aq (ak 7) (aq (ak 4) (aq (ak 6) (aq (du (zq T) L (aq (dh fI (ak 0) aF) aD)) (aq (bc (aB L) (bu (aq kx (aq kx (aq (ak 10) aD)))) (du (fK T) L (aq (ak 0) (aq aF (aq aF aD))))) aD)))))))) gw) (bN (lS (bj (cM (cD L)) (ak 7) ax) (cS (di (bu (aq (ak 7) (aq (ak 4) (aq (ak 6) (aq (ak 10) (aq (du (zq T) L (aq (dh fI (ak 0) aF) aD)) aD)))))))) gw) (cS (di (bu (aq (ak 7) (aq (ak 4) (aq (ak 6) (aq (ak 10) aD)))))))))))))))))))))))⟩
def CA:=uK 3 12 uA.1
def JK:KP 3 ur CA:=uA.2
noncomputable def bR:CS 7 xN 2 3:=⟨_,λT=>dY ["_law_hall_here","_law_deed_here","_law_word_here"] (T.d 66 rfl) λb _ _ _ _ _ _ L=>(aC (eO (i:=2) (az (bc (aB L) (ak 1) aF)) b) (aC (dg (ba (bj (cM (cD L)) (ak 2) ax)) (aL (eB (aV (vy T) L (cT (av (ak 0))) (au (az (bc (aB L) (ak 1) aF)) aG)))) bS) (aC (dg (ba (bj (cM (cD L)) (ak 2) ax)) (aL (eB (aV (An T) L (cT (av (ak 0))) (au (az (bc (aB L) (ak 1) aF)) (au (az (bc (aB L) (ak 1) aF)) aG))))) bS) (aC (dg (ba (bj (cM (cD L)) (ak 2) ax)) (aL (eB (aV (As T) L (cT (av (ak 0))) (au (az (bc (aB L) (ak 1) aF)) (au (az (bc (aB L) (ak 1) aF)) aG))))) bS) (aC (dg (ba (bj (cM (cD L)) (ak 2) ax)) (aL (eB (aV (Au T) L (cT (av (ak 0))) (au (az (bc (aB L) (ak 1) aF)) (au (az (bc (aB L) (ak 1) aF)) aG))))) bS) (aC (dg (ba (bj (cM (cD L)) (ak 2) ax)) (aL (eB (aV (xW T) L (cT (av (ak 0))) (au (az (bc (aB L) (ak 1) aF)) (au (az (bc (aB L) (ak 1) aF)) (au (az (bc (aB L) (ak 1) aF)) (au (az (bc (aB L) (ak 1) aF)) aG))))))) bS) (aC (dg (ba (bj (cM (cD L)) (ak 2) ax)) (aL (eB (aV (Eg T) L (cT (av (ak 0))) (au (az (bc (aB L) (ak 1) aF)) (au (az (bc (aB L) (ak 1) aF)) (au (az (bc (aB L) (ak 1) aF)) aG)))))) bS) (aC (dg (ba (bj (cM (cD L)) (ak 2) ax)) (aL (eB (aV (Cm T) L (cT (av (ak 0))) (au (az (bc (aB L) (ak 1) aF)) (au (az (bc (aB L) (ak 1) aF)) (au (az (bc (aB L) (ak 1) aF)) (au (az (bc (aB L) (ak 1) aF)) aG))))))) bS) (aC (dg (ba (bj (cM (cD L)) (ak 2) ax)) (aL (eB (aV (Ei T) L (cT (av (ak 0))) (au (az (bc (aB L) (ak 1) aF)) (au (az (bc (aB L) (ak 1) aF)) (au (az (bc (aB L) (ak 1) aF)) aG)))))) bS) (aC (dg (ba (bj (cM (cD L)) (ak 2) ax)) (aL (eB (aV (Ek T) L (cT (av (ak 0))) (au (az (bc (aB L) (ak 1) aF)) (au (az (bc (aB L) (ak 1) aF)) (au (az (bc (aB L) (ak 1) aF)) aG)))))) bS) (aC (dg (ba (bj (cM (cD L)) (ak 2) ax)) (aL (eB (aV (Aw T) L (cT (av (ak 0))) (au (az (bc (aB L) (ak 1) aF)) (au (az (bc (aB L) (ak 1) aF)) (au (az (bc (aB L) (ak 1) aF)) aG)))))) bS) (aC (dg (ba (bj (cM (cD L)) (ak 2) ax)) (aL (eB (aV (El T) L (cT (av (ak 0))) (au (az (bc (aB L) (ak 1) aF)) (au (az (bc (aB L) (ak 1) aF)) (au (az (bc (aB L) (ak 1) aF)) (au (az (bc (aB L) (ak 1) aF)) aG))))))) bS) (aC (dg (ba (bj (cM (cD L)) (ak 2) ax)) (aL (eB (aV (Co T) L (cT (av (ak 0))) (au (az (bc (aB L) (ak 1) aF)) (au (az (bc (aB L) (ak 1) aF)) (au (az (bc (aB L) (ak 1) aF)) (au (az (bc (aB L) (ak 1) aF)) aG))))))) bS) (aL (eB (aV (u4 T) L (cT (av (ak 0))) (au (az (bc (aB L) (ak 1) aF)) (au (az (bc (aB L) (ak 1) aF)) (au (az (bc (aB L) (ak 1) aF)) aG)))))))))))))))))))⟩
def cj:=dB 2 3 bR.1
def CB:KS 7 xN cj:=bR.2
noncomputable def jk:CS 8 xO 2 5:=⟨_,λT=>dY ["_law_hall_here","_law_deed_here","_law_kept","_law_answer","e"] (T.d 67 rfl) λL _ _ _ _ _ _ b=>(aC (eO (i:=2) (az kx) L) (aC (eO (i:=3) (az kx) L) (aC (Qg 5 (i:=4) T.Cf (λpn g=>(aL (eO (i:=3) (iI (CB T) b (au (av (ak 0)) (au (av (ak 1)) aG))) L))) (λpn e=>(aL (eO (i:=2) (av (ak 4)) L))) L) (aC (dg (ba (bj Pg (ak 2) kx)) (aL (eB (av (ak 3)))) bS) (aL (eB (az (du (JI T) b (aq (ak 2) aD)))))))))⟩
def fQ:=dB 2 5 jk.1
def JL:KS 8 xO fQ:=jk.2
noncomputable def CC:CS 8 xQ 2 4:=⟨_,λT=>dY ["_law_hall_here","_law_model","_law_who","_law_deed_here"] (T.d 68 rfl) λb _ _ _ _ _ _ L=>(aC (y4 (mO (bu (aq ax (aq ax (aq ax (aq ax (aq ax aD))))))) (fc 2 b) (ff 2) (aL (aS (aV (vy T) L (cT (av (ak 0))) (au (av (ak 2)) aG))))) (aL (y4 (mO (bu (aq (bu (aq ax (aq ax (aq ax aD)))) (aq (bu (aq ax (aq ax (aq ax aD)))) (aq (bu (aq ax (aq ax (aq ax aD)))) (aq (bu (aq ax (aq ax (aq ax aD)))) aD)))))) (fc 3 b) (ff 3) (aC (aS (iI (CB T) L (au (av (ak 0)) (au (av (ak 3)) aG)))) (aL (aS (iI (Cz T) L (au (av (ak 1)) (au (av (ak 3)) aG)))))))))⟩
def CD:=dB 2 4 CC.1
def JM:KS 8 xQ CD:=CC.2
def FG:CZ 9 zk 1 6:=⟨_,λT=>Qd ["_law_script","_law_hall_here","_law_model","_law_words_here","_law_k","_law_deed_here"] (T.d 69 rfl) λb _ _ _ _ _ _ L=>(aC (eO (i:=1) (Mp (vL T) T.Qo L) b) (aC (eO (i:=2) (iI (G8 T) L (au (az (bu (aq ax (aq ax (aq ax (aq ax (aq ax aD))))))) aG)) b) (aC (aS (iI (JM T) L (au (av (ak 1)) (au (av (ak 2)) aG)))) (aC (eO (i:=3) (az (bu (aq ax (aq ax (aq ax (aq ax (aq ax (aq ax (aq ax (aq ax aD)))))))))) b) (aC (eO (i:=3) (az (dh fI (ak 3) (bu (aq ax (aq ax (aq ax (aq ax (aq ax (aq ax (aq ax aD)))))))))) b) (aC (y4 (Br T.range (aq aF aD)) (fc 4 b) (ff 4) (aC (eO (i:=5) (az (du (JK T) L (aq (dh fI (du (JJ T) L (aq (ak 0) (aq (dh yU (ak 4) aF) aD))) (dh E4 aF (ak 4))) (aq (ak 2) (aq (ak 3) aD))))) b) (aL (dg (PZ (PY (Mb S6 T.isinstance (au (iI (JL T) L (au (av (ak 1)) (au (av (ak 5)) aG))) (au (av (Wg T.str)) aG))))) (aL (aS (iI (Cz T) L (au (av (ak 2)) (au (av (ak 5)) aG))))) bS)))) (aL (eB (az (eE (Td rfl) T.all (aq (Lv (N':=["_law_room","_law_hall_here"]) (ix:=[none,some 1]) (ji.of (N:=["_law_script","_law_hall_here","_law_model","_law_words_here","_law_k","_law_deed_here"]) (sc:=bb zk.st) rfl rfl (by decide)) (mO (Ft (Ax T) L (ak 1))) ⟨λs H ex=>⟨(fc 0 (by show List.Nodup (["_law_room","_law_hall_here"]:List Str);decide)),vk,(du (yu T) L (aq (pS (Cq T) L (ak 1) (aq (ak 0) aD)) aD))⟩⟩ (ff 0)) aD)))))))))))⟩
def x6:=vH 1 6 FG.1
def Um:KP 9 zk x6:=FG.2
def iD{ps:List Tr}(h:aW A i rows rk en ch bn iv)(f:dS rows rk en ch bn iv)(b:rows.length<cX)(g:3+ps.length<=cX)(q:jT ps=true):
  m6 [.at i,.str aw,.str c9,.tup ps] A=.ok (.int (rows.length+1)) (A.set (i+1) (.lst (rows++[.tup (.int (rows.length+1):: .str aw:: .str c9::ps)]))):=by
 show bf (f'.1 [.sh (.at i),.sh (.str aw),.sh (.str c9),.sh (.tup ps),.no] A)=_;unfold f';have L:oP (.tup [.int (rows.length+1),.str aw,.str c9]) (.tup ps)=.ok (.tup (.int (rows.length+1):: .str aw:: .str c9::ps)):=ay g;have r:∀A,lU (.ok (.tup (.int (rows.length+1):: .str aw:: .str c9::ps))) A=.ok (.tup (.int (rows.length+1):: .str aw:: .str c9::ps)) A:=λA=>ay (by simpa only[Hg,jT,jO]using q);simp only[ev,bw,bT,bZ,h.GW f,h.Xh,aQ,aR,rK h.lg,rL h.lg b,L,r]
noncomputable abbrev d7(rows:List Tr)(aw c9:Str)(ps:List Tr):Tr:=.tup (.int (rows.length+1):: .str aw:: .str c9::ps)
def MF(h:aW A i rows rk en ch bn iv)(f:dS rows rk en ch bn iv)(b:rows.length<cX)(g:rk.length<cX)(he:en.length<cX):
  ∃A',rf [.at i,.str aw,.str c9,.str role] A=.ok .bL A'/\Ext A A' [(i+6,.bh (ir iv (.inr aw))),(i+2,.bh (kz rk (.inr aw) (.str role))),(i+3,.bh (kz en (.inr aw) (.int (rows.length+1)))),(i+1,.lst (rows++[d7 rows aw c9 []]))]/\aW A' i (rows++[d7 rows aw c9 []]) (kz rk (.inr aw) (.str role)) (kz en (.inr aw) (.int (rows.length+1))) ch bn (ir iv (.inr aw)):=by
 have h1:=h.l6 (Ext.put (o:=.lst (rows++[d7 rows aw c9 []])) h.lg);have h2:=h1.Xj (Ext.put (o:=.bh (kz en (.inr aw) (.int (rows.length+1)))) h1.en);have L:=h2.Js (Ext.put (o:=.bh (kz rk (.inr aw) (.str role))) h2.rk);refine⟨_,?_,((Ext.put h.lg).trans (Ext.put h1.en)).trans ((Ext.put h2.rk).trans (Ext.put L.iv)),L.Uj (Ext.put L.iv)⟩;show bf (jd.1 [.sh (.at i),.sh (.str aw),.sh (.str c9),.sh (.str role)] A)=_;unfold jd;have q:∀A,lU (.ok (.tup [])) A=.ok (.tup []) A:=λA=>rfl;have w:=iD (aw:=aw) (c9:=c9) (ps:=[]) h f b (by decide) rfl;simp only[ev,bw,bT,bZ,h.call (m:="write_row") rfl,q,w,fO,h1.Xi,gR h1.en he,h2.Jr,gR h2.rk g,L.Ui,vW L.iv,Ac _ L.iv]
def JN(h:aW A i rows rk en ch bn iv)(f:dS rows rk en ch bn iv)(b:rows.length<cX)(g:rk.length<cX):
  ∃A',m7 [.at i,.str aw,.str d6,.str role] A=.ok .bL A'/\Ext A A' [(i+2,.bh (kz rk (.inr d6) (.str role))),(i+1,.lst (rows++[d7 rows aw "role" [.str d6,.str role]]))]/\aW A' i (rows++[d7 rows aw "role" [.str d6,.str role]]) (kz rk (.inr d6) (.str role)) en ch bn iv:=by
 have h1:=h.l6 (Ext.put (o:=.lst (rows++[d7 rows aw "role" [.str d6,.str role]])) h.lg);refine⟨_,?_,(Ext.put h.lg).trans (Ext.put h1.rk),h1.Js (Ext.put h1.rk)⟩;show bf (gb.1 [.sh (.at i),.sh (.str aw),.sh (.str d6),.sh (.str role)] A)=_;unfold gb;have L:∀A,lU (.ok (.tup [.str d6,.str role])) A=.ok (.tup [.str d6,.str role]) A:=λA=>rfl;have w:=iD (aw:=aw) (c9:="role") (ps:=[.str d6,.str role]) h f b (by show 3+2<=cX;decide) rfl;simp only[ev,bw,bT,bZ,h.call (m:="write_row") rfl,L,w,fO,h1.Jr,gR h1.rk g]
def x8(h:aW A i rows rk en ch bn iv)(f:dS rows rk en ch bn iv)(hw:aw.length<=1000):
  kI [.at i,.str aw] A=if(eM rk (.inr aw)).isSome=true then .ok .bL A else .exc (.str "NotIn") A:=by
 show bf (iA.1 [.sh (.at i),.sh (.str aw)] A)=_;unfold iA;simp only[ev,bw,bT,bZ,h.oR f];cases e:(eM rk (.inr aw)).isSome with
 |true=>simp only[dM,ev,aP]
 |false=>
  have s:=xF (z:=aw) (y:=" is not in the room") hw (by decide);simp only[dJ,ev,bw,bT,bZ,s,bP,bq]
noncomputable abbrev eN:List Str:=["guest","speaker","keeper","owner"]
noncomputable def lvl(r:Str):Int:=if r="owner"then 3 else if r="keeper"then 2 else if r="speaker"then 1 else 0
def j_{r:Str}(h:r∈eN):vY [.str r]=.ok (.int (lvl r)):=by
 have:r="guest"\/r="speaker"\/r="keeper"\/r="owner":=by simpa using h
 rcases this with rfl|rfl|rfl|rfl<;>rfl
structure G_(ar:List (Str×Str))(z:Str):Prop where
 ex:∃j r,ar[j]?=some (z,r)/\(∀p∈ar,lvl p.2<=lvl r)/\∀(a:Nat) (p:Str×Str),a<j->ar[a]?=some p->lvl p.2<lvl r
theorem G_.one (a:G_ ar y)(b:G_ ar z):y=z:=by
 obtain⟨j,r,h1,h2,I⟩:=a.ex;obtain⟨k,s,g1,g2,g3⟩:=b.ex;have L:=h2 _ (eQ g1);have g:=g2 _ (eQ h1);rcases Nat.lt_trichotomy j k with q|q|q
 .have:=g3 j _ q h1;simp only at L g this;omega
 .subst q;rw[h1]at g1;cases g1;rfl
 .have:=I k _ q g1;simp only at L g this;omega
structure cC(ar:List (Str×Str))(ents:List (Str×Int))(ent:Str->Int):Prop where
 rl:∀p∈ar,p.2∈eN
 nd:(ar.map (·.1)).Nodup
 sh:∀p∈ar,p.1.length<=1000
 en:∀p∈ar,ents.lookup p.1=some (ent p.1)
 up:(ar.map λp=>ent p.1).Pairwise (· <·)
theorem iE:∀{ar:List (Str×Str)},(ar.map (·.1)).Nodup->∀p∈ar,ar.lookup p.1=some p.2
 |q::ar,nd,p,L=>by
  rw[aX,jK]at nd;rw[cn];rcases a_.mp L with rfl|L
  .simp
  .have:(p.1==q.1)=false:=by
    simp only[gB];intro e;exact nd.1 (e▸jH L)
   rw[this];exact iE nd.2 p L
def MG{p:Str×Str}(h:aW A i rows (dP .str ar) (dP .int ents) ch bn iv)(f:dS rows (dP .str ar) (dP .int ents) ch bn iv)(k:cC ar ents ent)(b:p∈ar):
  iz [aJ 5 A (.at i),.str p.1]=.ok (.tup [.int (-(lvl p.2)),.int (ent p.1)]):=by
 show eI (jW.1 [.sh (aJ 5 A (.at i)),.sh (.str p.1)])=_;unfold jW;simp only[ev,bw,h.oR f,h.Xg f,dv,iE k.nd p b,k.en p b,cA,kc,j_ (k.rl p b)]
theorem Qq(h:aW A i rows (dP .str ar) (dP .int ents) ch bn iv)(f:dS rows (dP .str ar) (dP .int ents) ch bn iv)(k:cC ar ents ent)(S:ar≠[]):
  ∃z,G_ ar z/\Je "Room" "claim" iz (.ok (.lst (ar.map λp=>.str p.1))) (.ok (aJ 5 A (.at i)))=.ok (.str z):=by
 have c6:0<ar.length:=sI.mpr S
 let key:Str->Int×Int:=λz=>(-(lvl ((ar.lookup z).getD "")),ent z)
 have I:∀p∈ar,key p.1=(-(lvl p.2),ent p.1):=λp g=>by show(-(lvl ((ar.lookup p.1).getD "")),ent p.1)=_;rw[iE k.nd p g];rfl
 have hs:keysOf iz (aJ 5 A (.at i)) ((ar.map (·.1)).map .str)=some ((ar.map (·.1)).map key):=zi λz hz=>by
  obtain⟨p,g,rfl⟩:=bV.mp hz;rw[MG h f k g,I p g]
 let kf:Nat->Int×Int:=λa=>((ar.map (·.1)).map key).getD a (0,0)
 have q:∀a p,ar[a]?=some p->kf a=(-(lvl p.2),ent p.1):=λa p e=>by
  show((ar.map (·.1)).map key).getD a (0,0)=_;rw[p9,b_,b_,e];exact I p (eQ e)
 have r:∀a b,a<b->b<=ar.length - 1->(kf a).2<(kf b).2:=λa b LB hb=>by
  have L:b<ar.length:=by omega
  have M:a<ar.length:=by omega
  rw[q a _ (cI M),q b _ (cI L)];have:=List.pairwise_iff_getElem.mp k.up a b (by simpa using M) (by simpa using L) LB;simpa using this
 obtain⟨h1,h2⟩:=ui (kf:=kf) (ar.length - 1) r;have hb:=uS (kf:=kf) (ar.length - 1);have L:cO kf (ar.length - 1)<ar.length:=by omega
 refine⟨ar[cO kf (ar.length - 1)].1,⟨cO kf (ar.length - 1),ar[cO kf (ar.length - 1)].2,cI L,λp g=>?_,λa p ha e=>?_⟩,?_⟩
 .obtain⟨a,ha,e⟩:=wm g;have:=h1 a (by omega);rw[q _ _ (cI L),q a p (by rw[cI ha,e])]at this;simp only at this;omega
 .have:=h2 a ha;rw[q _ _ (cI L),q a p e]at this;simp only at this;omega
 .show vw "Room" "claim" iz (.lst (ar.map λp=>.str p.1)) (aJ 5 A (.at i))=_;rw[ju h.o]at hs⊢;rw[show(ar.map λp=>Tr.str p.1)=(ar.map (·.1)).map .str by rw[cp];rfl];refine Jt rfl (by simpa using c6) hs ?_
  rw[show((ar.map (·.1)).map Tr.str).length=ar.length by simp];show((ar.map (·.1)).map Tr.str)[cO kf (ar.length - 1)]?=_
  rw[b_,b_,cI L]
  rfl
inductive fR(rows:List Tr)(ar:List (Str×Str)):List Tr->List (Str×Str)->Prop
 |same:(ar=[]\/∃p∈ar,p.2="owner")->fR rows ar rows ar
 |x9 (z:Str):G_ ar z->(∀p∈ar,p.2≠"owner")->ar≠[]->fR rows ar (rows++[d7 rows z "role" [.str z,.str "owner"]]) (dk ar z "owner")
theorem fR.one (a:fR rows ar I k1)(b:fR rows ar M k2):I=M/\k1=k2:=by
 cases a with
 |same h=>
  cases b with
  |same _=>exact⟨rfl,rfl⟩
  |x9 z _ L q=>
   rcases h with h|⟨p,r,e⟩
   .exact absurd h q
   .exact absurd e (L p r)
 |x9 z g L q=>
  cases b with
  |same h=>
   rcases h with h|⟨p,r,e⟩
   .exact absurd h q
   .exact absurd e (L p r)
  |x9 y g' _ _=>cases g.one g';exact⟨rfl,rfl⟩
theorem JO(h:aW A i rows (dP .str ar) (dP .int ents) ch bn iv)(f:dS rows (dP .str ar) (dP .int ents) ch bn iv)(k:cC ar ents ent)(hl:rows.length<cX)(hr:ar.length<cX):
  ∃A' g q,jE [.at i] A=.ok .bL A'/\fR rows ar g q/\Ext A A' [(i+2,.bh (dP .str q)),(i+1,.lst g)]/\aW A' i g (dP .str q) (dP .int ents) ch bn iv:=by
 let P:Str->Bool:=λz=>ar.lookup z==some ("owner":Str)
 have h1:=h.e_0 (Ext.push (o:=.lst ((((ar.map (·.1)).filter P).map .str))));have e0:Ext A (A++[.lst ((((ar.map (·.1)).filter P).map .str))]) [(i+2,.bh (dP .str ar)),(i+1,.lst rows)]:=(Ext.push.idem h.lg rfl).idem h.rk (d9 (by omega));have I:∀p∈ar,P p.1=(p.2==("owner":Str)):=λp L=>by show(ar.lookup p.1==some ("owner":Str))=_;rw[iE k.nd p L];rfl
 have t1:aJ 5 (A++[Ao.lst (((ar.map (·.1)).filter P).map .str)]) (.at A.length)=.lst (((ar.map (·.1)).filter P).map .str):=by rw[lZ jV,uj]
 show∃A' g q,bf (eZ.1 [.sh (.at i),.no,.no] A)=.ok .bL A'/\_;unfold eZ;simp only[ev,bw,bT,bZ,h.oR f,vX k.sh,map_fst];rw[uT (zj:=[.sh (aJ 5 A (.at i))]) P rfl (by simpa using cG hr) rfl (λ_=>rfl) ?hC]
 case hC=>
  intro z b;obtain⟨p,L,rfl⟩:=bV.mp b;simp only[ev,bw,h.oR f,dv,iE k.nd p L,cA,kc,I p L]
 simp only[uk mY,ev,bw,bT,bZ,aQ,aR,h1.oR f,t1,gq,aY];by_cases r:ar=[]
 .subst r;exact⟨_,_,_,rfl,.same (.inl rfl),e0,h1⟩
 have M:(decide ((0:Int)<(ar.length:Int)))=true:=dA (by have:=sI.mpr r;omega);simp only[M,ev,bw,bT];by_cases S:∃p∈ar,p.2="owner"
 .have:((((ar.map (·.1)).filter P).length:Int)==0)=false:=by
   obtain⟨p,L,e⟩:=S;have hm:p.1∈(ar.map (·.1)).filter P:=eR.mpr ⟨jH L,by rw[I p L,e];exact aU _⟩;have:=List.length_pos_of_mem hm;simp only[gB];omega
  simp only[this,ev];exact⟨_,_,_,rfl,.same (.inr S),e0,h1⟩
 .have Hn:∀p∈ar,p.2≠"owner":=λp L e=>S ⟨p,L,e⟩;have:((ar.map (·.1)).filter P)=[]:=List.filter_eq_nil_iff.mpr λz b=>by
   obtain⟨p,L,rfl⟩:=bV.mp b;rw[I p L];simpa using Hn p L
  obtain⟨z,b,ez⟩:=Qq h1 f k r;obtain⟨A',q1,q2,q3⟩:=JN (aw:=z) (d6:=z) (role:="owner") h1 f hl (by rwa[gq]);rw[map_fst]at ez;have el:DI [.bh (dP .str ar)]=.ok (.lst ((ar.map (·.1)).map .str)):=by
   show(BG (dP .str ar)).bind (λts=>Rs.ok (Tr.lst ts))=_;rw[Fx λp L=>bI (k.sh p L) (by decide),map_fst];rfl
  have e9:((((ar.map (·.1)).filter P).length:Int)==0)=true:=by rw[this];rfl
  simp only[e9,ev,bw,bT,bZ,h1.oR f,el,ez,aQ,aR,h1.call (m:="give_role") rfl,q1];rw[gS]at q2 q3;exact⟨_,_,_,rfl,.x9 z b Hn r,Ext.past Ext.push q2,q3⟩
theorem lookup_none:∀{l:List (Str×α)},l.lookup z=none->∀p∈l,p.1≠z
 |q::l,h,p,L=>by
  rw[cn]at h;cases e:(z==q.1)with
  |true=>rw[e]at h;cases h
  |false=>
   rw[e]at h;rcases a_.mp L with rfl|L
   .intro q;rw[q,aU]at e;cases e
   .exact lookup_none h p L
def kM{l:List (Str×α)}{a:α}(h:l.lookup z=none):dk l z a=l++[(z,a)]:=by
 unfold dk;rw[aE];intro q;obtain⟨p,L,e⟩:=o6.mp q;exact lookup_none h p L (fo e)
def om{a:α}:∀{l:List (Str×α)},(dk l z a).lookup y=if y=z then some a else l.lookup y:=by
 intro l;unfold dk;split
 .rename_i h
  induction l with
  |nil=>cases h
  |cons p l g=>
   rw[aX,cn,cn];by_cases r:p.1=z
   .rw[ay r];by_cases L:y=z
    .subst L;rw[ay rfl,r];simp
    .have S:(y==p.1)=false:=by simpa[r]using L
     rw[aE L];simp only[S]
     clear g h
     induction l with
     |nil=>rfl
     |cons q l g=>
      rw[aX,cn,cn];by_cases M:q.1=z
      .rw[ay M];have I:(y==q.1)=false:=by simpa[M]using L
       simp only[I];exact g
      .rw[aE M];split
       .rfl
       .exact g
   .rw[aE r];have h2:(l.any λp=>decide (p.1=z))=true:=by
     rw[i8]at h;simpa[r]using h
    cases e:(y==p.1)with
    |true=>
     have:y=p.1:=by simpa using e
     rw[aE (by rwa[this])]
    |false=>exact g h2
 .rename_i h;rw[List.lookup_append];have hn:l.lookup z=none:=by
   cases e:l.lookup z with
   |none=>rfl
   |some b=>
    exfalso;apply h
    clear h
    induction l with
    |nil=>cases e
    |cons p l g=>
     rw[cn]at e;rw[i8];cases I:(z==p.1)with
     |true=>have:z=p.1:=by simpa using I
            simp[this]
     |false=>rw[I]at e;simp[g e]
  by_cases L:y=z
  .subst L;rw[hn,ay rfl];simp
  .rw[aE L];have:(y==z)=false:=by simpa using L
   simp[List.lookup,this]
theorem cC.enter {n:Int}{r:Str}(k:cC ar ents ent)(I:ar.lookup aw=none)(M:∀p∈ar,ent p.1<n)(hw:aw.length<=1000)(S:r∈eN):cC (dk ar aw r) (dk ents aw n) λz=>if z=aw then n else ent z:=by
 rw[kM I];have g:=lookup_none I;refine⟨λp L=>?_,?_,λp L=>?_,λp L=>?_,?_⟩
 .rcases cF.mp L with L|L
  .exact k.rl p L
  .cases cz.mp L;exact S
 .rw[fD,wB];refine⟨k.nd,by simp,λa q b hb=>?_⟩;obtain⟨p,L,rfl⟩:=bV.mp q;cases(cz.mp hb);exact g p L
 .rcases cF.mp L with L|L
  .exact k.sh p L
  .cases cz.mp L;exact hw
 .rw[om];rcases cF.mp L with L|L
  .rw[aE (g p L),aE (g p L)];exact k.en p L
  .cases cz.mp L;rw[ay rfl,ay rfl]
 .rw[fD,List.pairwise_append];refine⟨?_,by simp,λa q b hb=>?_⟩
  .have:(ar.map λp=>if p.1=aw then n else ent p.1)=ar.map λp=>ent p.1:=jI λp L=>aE (g p L);rw[this];exact k.up
  .obtain⟨p,L,rfl⟩:=bV.mp q;simp at hb;subst hb;rw[aE (g p L)];exact M p L
def cC.leave (k:cC ar ents ent):cC (eK ar aw) ents ent:=by
 have s:(eK ar aw).Sublist ar:=wo;exact⟨λp L=>k.rl p (s.subset L),k.nd.sublist (s.map _),λp L=>k.sh p (s.subset L),λp L=>k.en p (s.subset L),k.up.sublist (s.map _)⟩
def uB{l:List (Str×α)}{a:α}(h:aw∈l.map (·.1)):(dk l aw a).map (·.1)=l.map (·.1):=by
 unfold dk;obtain⟨p,L,e⟩:=bV.mp h;rw[ay (o6.mpr ⟨p,L,dA e⟩),cp];exact jI λq _=>by show(if q.1=aw then(q.1,a)else q).1=q.1;split<;>rfl
def AA{l:List (Str×α)}{a:α}{p:Str×α}(h:p∈dk l z a):p=(z,a)\/p∈l:=by
 unfold dk at h;split at h
 .obtain⟨q,b,e⟩:=bV.mp h;split at e
  .rename_i L;left;rw[<-e,L]
  .right;rwa[<-e]
 .rcases cF.mp h with h|h
  .exact .inr h
  .exact .inl (cz.mp h)
theorem cC.role {r:Str}(k:cC ar ents ent)(h:aw∈ar.map (·.1))(M:r∈eN):cC (dk ar aw r) ents ent:=by
 have g:=uB (a:=r) h;have hm:∀p∈dk ar aw r,∃q∈ar,q.1=p.1:=λp L=>by
  have:p.1∈ar.map (·.1):=by rw[<-g];exact jH L
  obtain⟨q,b,e⟩:=bV.mp this;exact⟨q,b,e⟩
 refine⟨λp L=>?_,by rw[g];exact k.nd,λp L=>?_,λp L=>?_,?_⟩
 .rcases AA L with rfl|L
  .exact M
  .exact k.rl p L
 .obtain⟨q,b,e⟩:=hm p L;rw[<-e];exact k.sh q b
 .obtain⟨q,b,e⟩:=hm p L;rw[<-e];exact k.en q b
 .have:((dk ar aw r).map λp=>ent p.1)=ar.map λp=>ent p.1:=by
   have I:∀l:List (Str×Str),(l.map λp=>ent p.1)=(l.map (·.1)).map ent:=λl=>by rw[cp];rfl
   rw[I,I,g]
  rw[this];exact k.up
def fR.Em (o:fR rows ar q b)(k:cC ar ents ent):cC b ents ent:=by
 cases o with
 |same _=>exact k
 |x9 z g _ _=>
  obtain⟨j,r,e,_⟩:=g.ex;exact k.role (bV.mpr ⟨_,eQ e,rfl⟩) (by decide)
def FH(f:dS rows rk en ch bn iv)(h1:iJ b)(h2:iJ g)(I:iJ q)(M:iJ r)(S:iJ iv'):dS (rows++[.tup us]) b g q r iv':=⟨mX f.lg,h1,h2,I,M,S⟩
def RE:iJ (dP .str l):=uh λ_ _ _=>xE
def XI:iJ (dP .int l):=uh λ_ _ _=>DZ
def JP(h:aW A i rows (dP .str ar) (dP .int ents) (dP .str b) bn iv)(f:dS rows (dP .str ar) (dP .int ents) (dP .str b) bn iv)(hw:aw.length<=1000)(g:ar.lookup aw=some r):
  eL [.at i,.str aw] A=.exc (.str "Known") A:=by
 show bf (dC.1 [.sh (.at i),.sh (.str aw)] A)=_;unfold dC;have s:=xF (z:=aw) (y:=" is in the room") hw (by decide);simp only[ev,bw,bT,bZ,h.oR f,cW,g,cA,fT,s]
def JR(h:aW A i rows (dP .str ar) (dP .int ents) (dP .str b) bn iv)(f:dS rows (dP .str ar) (dP .int ents) (dP .str b) bn iv)(hw:aw.length<=1000)(g:ar.lookup aw=none)(hb:eM bn (.inr aw)=some r):
  eL [.at i,.str aw] A=.exc (.str "Barred") A:=by
 show bf (dC.1 [.sh (.at i),.sh (.str aw)] A)=_;unfold dC;have s:=xF (z:=aw) (y:=" is barred") hw (by decide);simp only[ev,bw,bT,bZ,h.oR f,cW,g,mw,mh,h.Jq f,hb,fT,s]
def JS(h:aW A i rows (dP .str ar) (dP .int ents) (dP .str b) bn iv)(f:dS rows (dP .str ar) (dP .int ents) (dP .str b) bn iv)(hw:aw.length<=1000)(g:ar.lookup aw=none)(hb:eM bn (.inr aw)=none)(hd:b.lookup ("door":Str)=some ("asked":Str))(q:eM iv (.inr aw)=none):
  eL [.at i,.str aw] A=.exc (.str "NotAsked") A:=by
 show bf (dC.1 [.sh (.at i),.sh (.str aw)] A)=_;unfold dC;have s:=xF (z:=aw) (y:=" is not asked") hw (by decide);have L:b.lookup (Str.ofString "door")=some (Str.ofString "asked"):=hd;simp only[ev,bw,bT,bZ,h.oR f,cW,g,mw,mh,h.Jq f,hb,h.Qk f,dv,L,cA,kc,aU,h.Ug f,q,dJ,s]
def MH{aw:Str}(h:aW A i rows (dP .str ar) (dP .int ents) (dP .str r) bn iv)(f:dS rows (dP .str ar) (dP .int ents) (dP .str r) bn iv)(k:cC ar ents ent)(S:∀p∈ar,ent p.1<rows.length+1)(hl:rows.length+1<cX)(Y3:ar.length+1<cX)(he:ents.length<cX)(hw:aw.length<=1000)
  (I:ar.lookup aw=none) (hb:eM bn (.inr aw)=none) (hd:r.lookup ("door":Str)=some d) (b:d≠"asked"\/(eM iv (.inr aw)).isSome=true):
  ∃A' g q,eL [.at i,.str aw] A=.ok .bL A'/\fR (rows++[d7 rows aw "enter" []]) (dk ar aw "guest") g q/\Ext A A' ([(i+2,.bh (dP .str q)),(i+1,.lst g)]++[(i+6,.bh (ir iv (.inr aw))),(i+2,.bh (dP .str (dk ar aw "guest"))),(i+3,.bh (dP .int (dk ents aw (rows.length+1)))),(i+1,.lst (rows++[d7 rows aw "enter" []]))])
   /\aW A' i g (dP .str q) (dP .int (dk ents aw (rows.length+1))) (dP .str r) bn (ir iv (.inr aw)):=by
 obtain⟨A1,q1,M,L⟩:=MF (aw:=aw) (c9:="enter") (role:="guest") h f (by omega) (by rw[gq];omega) (by rwa[gq]);rw[gS,gS]at M L;have hs:(dk ar aw "guest").length<cX:=by rwa[kM I,dI]
 obtain⟨A2,g,q,s1,s2,s3,s4⟩:=JO L (FH f RE XI f.ch f.bn (GX f.iv)) (k.enter (n:=rows.length+1) I S hw (by decide)) (by rwa[dI]) hs;refine⟨A2,g,q,?_,s2,M.trans s3,s4⟩;show bf (dC.1 [.sh (.at i),.sh (.str aw)] A)=_;unfold dC;have KN:r.lookup (Str.ofString "door")=some d:=hd;have hc:Ii (.ok (d==("asked":Str))) (.ok (!(eM iv (.inr aw)).isSome))=.ok false:=by
  rcases b with b|b
  .rw[show(d==("asked":Str))=false by simpa using b];rfl
  .rw[b];cases(d==("asked":Str))<;>rfl
 simp only[ev,bw,bT,bZ,h.oR f,cW,I,mw,mh,h.Jq f,hb,h.Qk f,dv,KN,cA,kc,h.Ug f,hc,h.call (m:="let_in") rfl,q1,L.call (m:="see_to_owner") rfl,s1]
def JT(h:aW A i rows (dP .str ar) (dP .int ents) (dP .str b) bn iv)(f:dS rows (dP .str ar) (dP .int ents) (dP .str b) bn iv)(hw:aw.length<=1000)(g:ar.lookup aw=none):
  gf [.at i,.str aw] A=.exc (.str "NotIn") A:=by
 show bf (gc.1 [.sh (.at i),.sh (.str aw)] A)=_;unfold gc;have n:=x8 h f hw;rw[cW,g]at n;simp only[ev,bw,bT,bZ,h.call (m:="need_in") rfl,n,mw,mh,bP,bq]
def MI{aw:Str}(h:aW A i rows (dP .str ar) (dP .int ents) (dP .str q) bn iv)(f:dS rows (dP .str ar) (dP .int ents) (dP .str q) bn iv)(k:cC ar ents ent)(hl:rows.length+1<cX)(M:ar.length<cX)(hw:aw.length<=1000)
  (I:ar.lookup aw=some r):
  ∃A' b g,gf [.at i,.str aw] A=.ok .bL A'/\fR (rows++[d7 rows aw "leave" []]) (eK ar aw) b g/\Ext A A' ([(i+2,.bh (dP .str g)),(i+1,.lst b)]++[(i+2,.bh (dP .str (eK ar aw))),(i+1,.lst (rows++[d7 rows aw "leave" []]))])
   /\aW A' i b (dP .str g) (dP .int ents) (dP .str q) bn iv:=by
 have w:=iD (aw:=aw) (c9:="leave") (ps:=[]) h f (by omega) (by decide) rfl;have h1:=h.l6 (Ext.put (o:=.lst (rows++[d7 rows aw "leave" []])) h.lg);have h2:=h1.Js (Ext.put (o:=.bh (dP .str (eK ar aw))) h1.rk);obtain⟨L,b,g,s1,s2,s3,s4⟩:=JO h2 (FH f RE XI f.ch f.bn f.iv) (k.leave (aw:=aw)) (by rwa[dI]) (nk (i6 ..) M);refine⟨L,b,g,?_,s2,((Ext.put h.lg).trans (Ext.put h1.rk)).trans s3,s4⟩;show bf (gc.1 [.sh (.at i),.sh (.str aw)] A)=_;unfold gc;have n:=x8 h f hw;rw[cW,I]at n;have S:∀A,lU (.ok (.tup [])) A=.ok (.tup []) A:=λA=>rfl;have p:=ug (z:=aw) (v:=.str r) h1.rk (by rw[cW,I];rfl);rw[nF]at p;simp only[ev,bw,bT,bZ,h.call (m:="need_in") rfl,n,cA,fT,aP,h.call (m:="write_row") rfl,S,w,h1.Jr,uf h1.rk,p,h2.call (m:="see_to_owner") rfl,s1]
def FI(h:bz A aA b8)(hw:aw.length<=1000):gW [.at 0,.tup [.str aw]] A=if(aA.lookup aw).isSome=true then .ok .bL A else .exc (.str "NoPerson") A:=by
 show bf (dw.1 [.sh (.at 0),.sh (.tup [.str aw]),.no] A)=_;unfold dw;have s:=xF (z:="nobody is called ") (y:=aw) (by decide) hw;simp only[ev,bw,bT,bZ,GY,aQ,aR,h.Ju,cW,nq];cases(aA.lookup aw).isSome with
 |true=>simp only[dM,ev,bw,aP]
 |false=>simp only[dJ,ev,bw,bT,bZ,s,bP,bq]
def FJ(h:bz A aA b8)(b:b8.lookup c8=some j):uv [.at 0,.str c8] A=.ok (.at j) A:=by
 show bf (jX.1 [.sh (.at 0),.sh (.str c8)] A)=_;unfold jX;simp only[ev,bw,bT,bZ,h.Ms,cW,b,cA,fT,dM,h.Xn,f_,um h.pl,dv,kc]
def iZ(h:bz A aA b8)(hw:aw.length<=1000)(b:b8.lookup c8=some j):iX [.at 0,.tup [.str aw],.str c8] A=if(aA.lookup aw).isSome=true then .ok (.at j) A else .exc (.str "NoPerson") A:=by
 show bf (dW.1 [.sh (.at 0),.sh (.tup [.str aw]),.sh (.str c8)] A)=_;unfold dW;simp only[ev,bw,bT,bZ,h.call (m:="need_people") rfl,FI h hw];cases(aA.lookup aw).isSome with
 |true=>simp only[aP,ev,bw,bT,bZ,h.call (m:="place") rfl,FJ h b]
 |false=>simp only[bP,bq,ev]
def MJ(h:bz A aA b8)(hw:aw.length<=1000)(g:aA.lookup aw=some b):lD [.at 0,.str aw] A=.exc (.str "Known") A:=by
 show bf (g8.1 [.sh (.at 0),.sh (.str aw)] A)=_;unfold g8;have s:=xF (z:=aw) (y:=" is there") hw (by decide);simp only[ev,bw,bT,bZ,h.Ju,cW,g,cA,fT,s]
def Qr(h:bz A aA b8)(b:aA.lookup aw=none)(g:aA.length<cX):lD [.at 0,.str aw] A=.ok .bL (A.set 1 (.bh (dP .bl (dk aA aw true)))):=by
 show bf (g8.1 [.sh (.at 0),.sh (.str aw)] A)=_;unfold g8;have q:=gR (z:=aw) (t:=.bl true) (Y:=[.sh (.at 0),.sh (.str aw)]) h.ps (by rwa[gq]);rw[gS]at q;simp only[ev,bw,bT,bZ,h.Ju,cW,b,mw,mh,fO,h.Xm,q]
def XJ{x y z:Str}(h:z.length<=1000)(b:y.length<=1000)(g:x.length<=1000):(λacc=>eP (.ok (.str z)) (λacc=>eP (.ok (.str y)) (λacc=>eP (.ok (.str x)) (λacc=>pN acc) acc) acc) acc) Str.empty=.ok (.str (Str.empty++z++y++x)):=by
 have l1:(Str.empty++z).length<=cy:=by rw[hU];show 0+z.length<=1000000;omega
 have l2:(Str.empty++z++y).length<=cy:=by rw[hU,hU];show 0+z.length+y.length<=1000000;omega
 have L:(Str.empty++z++y++x).length<=cy:=by rw[hU,hU,hU];show 0+z.length+y.length+x.length<=1000000;omega
 show(if(Str.empty++z).length<=cy then eP (.ok (.str y)) (λacc=>eP (.ok (.str x)) (λacc=>pN acc) acc) (Str.empty++z)else .bad)=_;rw[ay l1];show(if(Str.empty++z++y).length<=cy then eP (.ok (.str x)) (λacc=>pN acc) (Str.empty++z++y)else .bad)=_;rw[ay l2];show(if(Str.empty++z++y++x).length<=cy then pN (Str.empty++z++y++x)else .bad)=_;rw[ay L];exact ay L
def FK(h:bz A aA b8)(hw:aw.length<=1000)(b:d6.length<=1000)(g:b8.lookup d6=some j):nT [.at 0,.str aw,.str d6] A=.exc (.str (if(aA.lookup aw).isSome=true then"Known"else"NoPerson")) A:=by
 show bf (jY.1 [.sh (.at 0),.sh (.str aw),.sh (.str d6)] A)=_;unfold jY;have s:=XJ (z:="the room ") (y:=d6) (x:=" is there") (by decide) b (by decide);have L:∀A,lU (.ok (.tup [.str aw])) A=.ok (.tup [.str aw]) A:=λA=>rfl;simp only[ev,bw,bT,bZ,h.call (m:="need_people") rfl,L,FI h hw];cases(aA.lookup aw).isSome with
 |true=>simp only[aP,ev,bw,bT,bZ,h.Ms,cW,g,cA,fT,s]
 |false=>simp only[bP,bq,ev]
def JU{A:Ab}(h:bz A aA b8)(hw:aw.length<=1000)(b:b8.lookup c8=some j)(hF:vt "Room" "enter" eL (.ok (.at j) A) (λA=>.ok [.str aw] A)=eL [.at j,.str aw] A):
  n6 [.at 0,.str aw,.str c8] A=if(aA.lookup aw).isSome=true then bf (oy (eL [.at j,.str aw] A) [.sh (.at 0),.sh (.str aw),.sh (.str c8)])else .exc (.str "NoPerson") A:=by
 show bf (j6.1 [.sh (.at 0),.sh (.str aw),.sh (.str c8)] A)=_;unfold j6;have L:∀A,lU (.ok (.tup [.str aw])) A=.ok (.tup [.str aw]) A:=λA=>rfl;simp only[ev,bw,bT,bZ,h.call (m:="place_for") rfl,L,iZ h hw b];cases(aA.lookup aw).isSome with
 |true=>simp only[aP];rw[hF]
 |false=>simp only[bP,bq];rfl
def JV{A:Ab}(h:bz A aA b8)(hw:aw.length<=1000)(b:b8.lookup c8=some j)(hF:vt "Room" "leave" gf (.ok (.at j) A) (λA=>.ok [.str aw] A)=gf [.at j,.str aw] A):
  n8 [.at 0,.str aw,.str c8] A=if(aA.lookup aw).isSome=true then bf (oy (gf [.at j,.str aw] A) [.sh (.at 0),.sh (.str aw),.sh (.str c8)])else .exc (.str "NoPerson") A:=by
 show bf (j7.1 [.sh (.at 0),.sh (.str aw),.sh (.str c8)] A)=_;unfold j7;have L:∀A,lU (.ok (.tup [.str aw])) A=.ok (.tup [.str aw]) A:=λA=>rfl;simp only[ev,bw,bT,bZ,h.call (m:="place_for") rfl,L,iZ h hw b];cases(aA.lookup aw).isSome with
 |true=>simp only[aP];rw[hF]
 |false=>simp only[bP,bq];rfl
def jA{ps:List Tr}(h:aT A j ks kb ka rows aO stays aH asked d v p)(f:dz rows)(b:rows.length<cX)(g:2+ps.length<=cX)(q:jT ps=true):
  Ay [.at j,.str aw,.tup ps] A=.ok (.int (rows.length+1)) (A.set (j+1) (.lst (rows++[.tup (.int (rows.length+1):: .str aw::ps)]))):=by
 show bf (vZ.1 [.sh (.at j),.sh (.str aw),.sh (.tup ps)] A)=_;unfold vZ;have h1:=h.uU (Ext.put (o:=.lst (rows++[.tup (.int (rows.length+1):: .str aw::ps)])) h.rw);have L:oP (.tup [.int (rows.length+1),.str aw]) (.tup ps)=.ok (.tup (.int (rows.length+1):: .str aw::ps)):=ay g;have r:∀A,lU (.ok (.tup (.int (rows.length+1):: .str aw::ps))) A=.ok (.tup (.int (rows.length+1):: .str aw::ps)) A:=λA=>ay (by simpa only[Hg,jT,jO]using q);have I:((rows++[Tr.tup (.int (rows.length+1):: .str aw::ps)]).length:Int)=rows.length+1:=by simp
 simp only[ev,bw,bT,bZ,f_,h.Xq,rK h.rw,h.Ql (n:=3) f,L,r,rL h.rw b,h1.Ql (n:=3) (mX f),I]
theorem JW(h:aT A j ks kb ka rows aO stays aH asked d v p)(f:dz rows)(I:rows.length<cX)(hs:stays.length<cX)(hr:aO.length<cX)(M:asked.length<=cX):
  ∃A' b f1,f1=(if p="shown"then 1 else(rows.length+1:Int))/\u5 [.at j,.str aw,.str c9] A=.ok .bL A'/\A.length<=b/\Ext A A' [(j,.bh (dP id (yr j ks kb b d v p))),(j+2,.bh (dP .str (dk aO aw "guest"))),(ks,.lst ((stays++[(aw,f1,(rows.length+1:Int),none)]).map vI)),(j+1,.lst (rows++[d7 rows aw c9 []]))]
   /\aT A' j ks kb b (rows++[d7 rows aw c9 []]) (dk aO aw "guest") (stays++[(aw,f1,(rows.length+1:Int),none)]) aH (asked.filter λz=>!(z==aw)) d v p:=by
 have w:=jA (aw:=aw) (ps:=[.str c9]) h f I (by show 2+1<=cX;decide) rfl;have h1:=h.uU (Ext.put (o:=.lst (rows++[d7 rows aw c9 []])) h.rw)
 let f1:Int:=if p="shown"then 1 else rows.length+1
 have h2:=h1.Xs (nH:=stays++[(aw,f1,(rows.length+1:Int),none)]) (Ext.put h1.st);have L:=h2.Mu (l7:=dk aO aw "guest") (Ext.put h2.rl);have S:=L.Xt (xG:=asked.filter λz=>!(z==aw));have g:=((Ext.put (o:=.lst (rows++[d7 rows aw c9 []])) h.rw).trans (Ext.put (o:=.lst ((stays++[(aw,f1,(rows.length+1:Int),none)]).map vI)) h1.st)).trans (Ext.put (o:=.bh (dP .str (dk aO aw "guest"))) h2.rl);refine⟨_,_,f1,rfl,?_,g.le,g.cons (Ext.past Ext.push (Ext.put (Ext.push.same L.o rfl))),S⟩;show bf (qK.1 [.sh (.at j),.sh (.str aw),.sh (.str c9),.no,.no] A)=_;unfold qK;have ef:∀A,lU (.ok (.tup [.str c9])) A=.ok (.tup [.str c9]) A:=λA=>rfl;have eg:∀A,lU (.ok (.tup [.str aw,.int f1,.int (rows.length+1),.bL])) A=.ok (.tup [.str aw,.int f1,.int (rows.length+1),.bL]) A:=λA=>rfl;have ei:Lp (.ok (p==("shown":Str))) (.ok (.int 1)) (.ok (.int (rows.length+1)))=.ok (.int f1):=by
  show(if(p==("shown":Str))then _ else _)=_;by_cases q:p="shown"
  .subst q;rfl
  .rw[show(p==("shown":Str))=false by simpa using q];show Rs.ok _=_;congr 2;exact(aE q).symm
 have ep:=gR (z:=aw) (t:=.str "guest") (Y:=[.sh (.at j),.sh (.str aw),.sh (.str c9),.sh (.int (rows.length+1)),.sh (.int f1)]) h2.rl (by rwa[gq]);rw[gS]at ep;have r:=rL (t:=.tup [.str aw,.int f1,.int (rows.length+1),.bL]) h1.st (by rwa[aY]);rw[show stays.map vI++[.tup [.str aw,.int f1,.int (rows.length+1),.bL]]=(stays++[(aw,f1,(rows.length+1:Int),none)]).map vI by rw[fD];rfl]at r;simp only[ev,bw,bT,bZ,ef,w,aQ,aR,h1.a_p (n:=4),ei,f_,h1.Xr,rK h1.st,eg,r,fO,h2.Mt,ep,GY,L.Xp (n:=3)];rw[uT (zj:=[.sh (.str aw)]) (λz=>!(z==aw)) rfl M rfl (λ_=>rfl) ?hC]
 case hC=>intro z hz;simp only[ev,Fy]
 simp only[uk mY,fO,ev,bw,bT,bZ,L.Xv]
noncomputable def fA(aw:Str)(n:Int)(s:oS):oS:=if s.1=aw/\s.2.2.2=none then(s.1,s.2.1,s.2.2.1,some n)else s
def AB(h:aT A j ks kb ka rows aO stays aH asked d v p)(hs:stays.length<=cX)(hr:aO.lookup aw=some r):
  ∃A' g,xZ [.at j,.str aw,.int n] A=.ok .bL A'/\A.length<=g/\Ext A A' [(j,.bh (dP id (yr j g kb ka d v p))),(j+2,.bh (dP .str (eK aO aw)))]
   /\aT A' j g kb ka rows (eK aO aw) (stays.map (fA aw n)) aH asked d v p:=by
 have h1:=h.Mu (l7:=eK aO aw) (Ext.put h.rl);have h2:=h1.Xu (nH:=stays.map (fA aw n));have M:=Ext.put (o:=.bh (dP .str (eK aO aw))) h.rl;refine⟨_,_,?_,M.le,M.cons (Ext.past Ext.push (Ext.put (Ext.push.same h1.o rfl))),h2⟩;show bf (uz.1 [.sh (.at j),.sh (.str aw),.sh (.int n)] A)=_;unfold uz;have pp:=ug (z:=aw) (v:=.str r) h.rl (by rw[cW,hr];rfl);rw[nF]at pp;simp only[ev,bw,bT,bZ,f_,h.Mt,uf h.rl,pp,h1.Uk (n:=3),GY];rw[jc (zj:=[.sh (.str aw),.sh (.int n)]) (λ_=>true) vI (λs=>vI (fA aw n s)) rfl hs rfl (λ_ _=>rfl) ?hF]
 case hF=>
  intro s _ _;obtain⟨a,b,c,e⟩:=s;have L:ib (vI (a,b,c,e)) (.int 0)=.ok (.str a):=rfl;have S:ib (vI (a,b,c,e)) (.int 3)=.ok (D0 e):=rfl;have is:fZ (.ok (vI (a,b,c,e))) (.ok none) (m9 (.ok (.int 3)))=.ok (.tup [.str a,.int b,.int c]):=rfl;have ia:oP (.tup [.str a,.int b,.int c]) (.tup [.int n])=.ok (.tup [.str a,.int b,.int c,.int n]):=rfl;cases e with
  |none=>
   have I:LH (D0 none) .bL=.ok (.bl true):=rfl;by_cases q:a=aw
   .subst q;simp only[ev,bw,L,S,is,ia,I,aU,fA,and_self,aP]
    rfl
   .have:(a==aw)=false:=by simpa using q
    simp only[ev,bw,L,this,fA,q,false_and,bq]
  |some m=>
   have I:LH (D0 (some m)) .bL=.ok (.bl false):=rfl;simp only[ev,bw,L,S,I,fA,reduceCtorEq,and_false,bq];cases(a==aw)<;>rfl
 rw[show stays.filter (λ_=>true)=stays from k_.mpr λ_ _=>rfl,show(stays.map λs=>vI (fA aw n s))=(stays.map (fA aw n)).map vI by rw[cp];rfl];simp only[uk xH,fO,ev,bw,bT,bZ,h1.Xw]
theorem JX(b:ib T (.str "roles")=.ok (.bh (dP .str aO)))(g:aO.lookup aw=some r)(q:r∈eN):Cr [T,.str aw]=.ok (.int (lvl r)):=by
 show eI (ux.1 [.sh T,.sh (.str aw)])=_;unfold ux;have L:∀X:Rs Tr,(if([.str "guest",.str "speaker",.str "keeper",.str "owner"]:List Tr).length<=cX then X else .bad)=X:=λX=>ay (by show 4<=cX;decide);have I:xA [.str "guest",.str "speaker",.str "keeper",.str "owner"] (.str r)=.ok (.int (lvl r)):=by
  have:r="guest"\/r="speaker"\/r="keeper"\/r="owner":=by simpa using q
  rcases this with rfl|rfl|rfl|rfl<;>rfl
 simp only[ev,bw,b,cW,g,cA,fT,L,dv,kc,I]
noncomputable def kN(stays:List oS):List Str:=(stays.filter λs=>s.2.2.2.isNone).map (·.1)
theorem uC{Q:α->Bool}{x:α}:∀{l r:List α},l.filter Q=x::r->∃a:Nat,l[a]?=some x/\Q x=true/\∀(b:Nat) (y:α),b<a->l[b]?=some y->Q y=false
 |y::l,r,h=>by
  cases e:Q y with
  |true=>
   rw[kU e]at h;cases h;exact⟨0,rfl,e,λb y hb=>absurd hb (Nat.not_lt_zero _)⟩
  |false=>
   rw[jG (by rw[e];exact i7)]at h;obtain⟨a,h1,h2,g⟩:=uC h;refine⟨a+1,h1,h2,λb z hb L=>?_⟩;cases b with
   |zero=>cases L;exact e
   |succ b=>exact g b z (Nat.lt_of_succ_lt_succ hb) L
def ix0{t:Tr}:ib (.lst (t::rows)) (.int 0)=.ok t:=by
 show kc (rn (t::rows) 0)=_;have:Kx (t::rows).length 0=some 0:=by unfold Kx;simp
 unfold rn;rw[this]
 rfl
theorem uD(h:aT A j ks kb ka rows aO stays aH asked d v p)(f:dz rows)(k:cC aO ents ent)(ho:kN stays=aO.map (·.1))(hl:rows.length<cX)(hs:stays.length<=cX)(hr:aO.length<cX):
  ∃A' cf l7,kg [.at j] A=.ok .bL A'/\fR rows aO cf l7/\Ext A A' [(j+1,.lst cf),(j+2,.bh (dP .str l7))]/\aT A' j ks kb ka cf l7 stays aH asked d v p:=by
 show∃A' cf l7,bf (qL.1 [.sh (.at j),.no,.no] A)=.ok .bL A'/\_;unfold qL;have x0:Ext A A [(j+1,.lst rows),(j+2,.bh (dP .str aO))]:=(Ext.refl.idem h.rl rfl).idem h.rw (d9 (by omega));have M:=h.Qm (n:=3);simp only[ev,bw,bT,bZ,M,Qn];by_cases S:aO=[]
 .subst S;exact⟨_,_,_,rfl,.same (.inl rfl),x0,h⟩
 have he:aO.isEmpty=false:=by cases aO<;>first|exact absurd rfl S|rfl
 simp only[he,dJ,dM,ev,vX k.sh,map_fst];rw[jc (zj:=[.sh (aJ 5 A (.at j))]) (λ_=>true) (λp=>.str p.1) (λp=>.str p.2) (xs:=aO) (by rw[cp];rfl) (cG hr) rfl (λ_ _=>rfl) ?hF]
 case hF=>intro q L _;simp only[ev,bw,M,dv,iE k.nd q L,cA,kc]
 rw[show aO.filter (λ_=>true)=aO from k_.mpr λ_ _=>rfl,show(aO.map λp=>Tr.str p.2)=(aO.map (·.2)).map .str by rw[cp];rfl];simp only[ev,bw,bT,bZ,Ad];by_cases hw:∃p∈aO,p.2="owner"
 .have:(aO.map (·.2)).contains (Str.ofString "owner")=true:=by
   obtain⟨q,L,e⟩:=hw;exact ck.mpr (bV.mpr ⟨q,L,e⟩)
  simp only[this,ev];exact⟨_,_,_,rfl,.same (.inr hw),x0,h⟩
 have Hn:∀p∈aO,p.2≠"owner":=λp hp e=>hw ⟨p,hp,e⟩;have hc:(aO.map (·.2)).contains (Str.ofString "owner")=false:=by
  cases e:(aO.map (·.2)).contains (Str.ofString "owner")with
  |false=>rfl
  |true=>
   obtain⟨q,L,e⟩:=bV.mp (ck.mp e);exact absurd e (Hn q L)
 simp only[hc,ev,bw,bT,bZ,M,vX k.sh,map_fst];rw[jc (zj:=[.sh (aJ 5 A (.at j))]) (λ_=>true) (λp=>.str p.1) (λp=>.int (lvl p.2)) (xs:=aO) (by rw[cp];rfl) (cG hr) rfl (λ_ _=>rfl) ?hF]
 case hF=>intro q L _;simp only[ev,bw,JX M (iE k.nd q L) (k.rl q L)]
 rw[show aO.filter (λ_=>true)=aO from k_.mpr λ_ _=>rfl];have Y4:=max_map (f:=λq:Str×Str=>lvl q.2) S;obtain⟨m1,m2⟩:=D3 (ns:=aO.map λq=>lvl q.2) (by rw[aY];exact sI.mpr S);generalize rb (aO.map λq=>lvl q.2)=most at Y4 m1 m2;simp only[ev,bw,bT,bZ,Y4,aQ,aR,h.Uk (n:=3),GY]
 let Q:Str->Bool:=λz=>match aO.lookup z with|some r=>lvl r==most|none=>false
 have hQ:∀q∈aO,Q q.1=(lvl q.2==most):=λq L=>by show(match aO.lookup q.1 with|some r=>lvl r==most|none=>false)=_;rw[iE k.nd q L]
 rw[jc (zj:=[.sh (.int most),.sh (aJ 5 A (.at j))]) (λs:oS=>s.2.2.2.isNone&&Q s.1) vI (λs=>.str s.1) rfl hs rfl ?hC ?hF]
 case hC=>
  intro s hs;obtain⟨a,b,c,e⟩:=s;have i0:ib (vI (a,b,c,e)) (.int 0)=.ok (.str a):=rfl;have i3:ib (vI (a,b,c,e)) (.int 3)=.ok (D0 e):=rfl;cases e with
  |some m=>
   have ie:LH (D0 (some m)) .bL=.ok (.bl false):=rfl;simp only[ev,bw,i3,ie,wu,mz]
  |none=>
   have ie:LH (D0 none) .bL=.ok (.bl true):=rfl;have hm:a∈kN stays:=bV.mpr ⟨_,eR.mpr ⟨hs,rfl⟩,rfl⟩;rw[ho]at hm;obtain⟨q,L,e⟩:=bV.mp hm;subst e;simp only[ev,bw,i0,i3,ie,JX M (iE k.nd q L) (k.rl q L),Option.isNone_none,jO,hQ q L]
 case hF=>intro s _ _;obtain⟨a,b,c,e⟩:=s;rfl
 have ht:(stays.filter λs:oS=>s.2.2.2.isNone&&Q s.1).map (λs=>Tr.str s.1)=((aO.filter λq=>lvl q.2==most).map (·.1)).map .str:=by
  rw[show(λs:oS=>Tr.str s.1)=Tr.str∘(·.1)from rfl,<-cp];congr 1;have e1:(stays.filter λs:oS=>s.2.2.2.isNone&&Q s.1)=(stays.filter λs=>s.2.2.2.isNone).filter λs=>Q s.1:=by
   rw[List.filter_filter];congr 1;funext s;exact Bool.and_comm ..
  have e2:((stays.filter λs=>s.2.2.2.isNone).filter λs=>Q s.1).map (·.1)=(kN stays).filter Q:=by unfold kN;rw[o8];rfl
  rw[e1,e2,ho,o8];congr 1;exact sM λq L=>hQ q L
 rw[ht];obtain⟨q0,hq0,e0⟩:=bV.mp m1;have hfe:(aO.filter λq=>lvl q.2==most)≠[]:=List.ne_nil_of_mem (eR.mpr ⟨hq0,by simpa using e0⟩);obtain⟨⟨z,g⟩,I,Y5⟩:=List.exists_cons_of_ne_nil hfe;obtain⟨a,a1,a2,a3⟩:=uC Y5;have hz:G_ aO z:=⟨a,g,a1,λq L=>by
  have:=m2 _ (jH L);have e:lvl g=most:=by simpa using a2
  rwa[e],λb q hb L=>by
  have h1:=m2 _ (jH (f:=λq:Str×Str=>lvl q.2) (eQ L));have h2:¬lvl q.2=most:=by simpa using a3 b q hb L
  have e:lvl g=most:=by simpa using a2
  omega⟩
 rw[Y5];have h1:=h.ext (Ext.push (o:=.lst ((((z,g)::I).map (·.1)).map .str))) λ_ _=>rfl;have h2:=h1.Mu (l7:=dk aO z "owner") (Ext.put h1.rl);have t1:aJ 5 (A++[Ao.lst ((((z,g)::I).map (·.1)).map .str)]) (.at A.length)=.lst ((((z,g)::I).map (·.1)).map .str):=by rw[lZ jV,uj]
 have t2:aJ 5 ((A++[Ao.lst ((((z,g)::I).map (·.1)).map .str)]).set (j+2) (.bh (dP .str (dk aO z "owner")))) (.at A.length)=.lst ((((z,g)::I).map (·.1)).map .str):=by
  rw[lZ (((Ext.put h1.rl).same jV (d9 (by have:=fh h.rl;omega)))),uj]
 have i0:ib (.lst ((((z,g)::I).map (·.1)).map .str)) (.int 0)=.ok (.str z):=ix0;have ep:=gR (z:=z) (t:=.str "owner") (Y:=[.sh (.at j),.sh (.int most),.sh (.at A.length)]) h1.rl (by rwa[gq]);rw[gS]at ep;have w:=jA (aw:=z) (ps:=[.str "role",.str z,.str "owner"]) h2 f hl (by show 2+3<=cX;decide) rfl;have ef:∀A,lU (.ok (.tup [.str "role",.str z,.str "owner"])) A=.ok (.tup [.str "role",.str z,.str "owner"]) A:=λA=>rfl;simp only[uk mY,ev,bw,bT,bZ,aQ,aR,fO,f_,h1.Mt,t1,i0,ep,t2,ef,w];exact⟨_,_,_,rfl,.x9 z hz Hn S,(Ext.past Ext.push (Ext.put h1.rl)).cons (Ext.put h2.rw),h2.uU (Ext.put h2.rw)⟩
theorem XM{k:Nat}:∀{pins:List (Nat×Ao)},k∉pins.map (·.1)->pins.lookup k=none
 |[],_=>rfl
 |p::pins,h=>by
  rw[aX,a_,not_or]at h;rw[cn];have:(k==p.1)=false:=by simpa using h.1
  rw[this];exact XM h.2
def dX(A A':Ab)(S:List Nat):Prop:=∃pins,Ext A A' pins/\∀k∈pins.map (·.1),k∈S
theorem dX.push {o:Ao}:dX A (A++[o]) S:=⟨[],Ext.push,λk h=>nomatch h⟩
theorem dX.put {A:Ab}{S:List Nat}{k:Nat}(h:A[k]?=some b)(m:k∈S):dX A (A.set k o) S:=⟨_,Ext.put h,λq L=>by cases cz.mp L;exact m⟩
def dX.of {S:List Nat}{pins:List (Nat×Ao)}(x:Ext A A' pins)(h:∀k∈pins.map (·.1),k∈S):dX A A' S:=⟨pins,x,h⟩
theorem dX.trans (a:dX A A' S)(b:dX A' B S):dX A B S:=by
 obtain⟨pins,x,p⟩:=a;obtain⟨V,y,q⟩:=b;refine⟨_,x.trans y,λk L=>?_⟩;rw[fD]at L;rcases cF.mp L with h|h
 .exact q k h
 .exact p k h
def dX.sub {S T:List Nat}(a:dX A A' S)(h:∀k∈S,k∈T):dX A A' T:=by obtain⟨pins,x,p⟩:=a;exact⟨pins,x,λk L=>h k (p k L)⟩
theorem dX.le (a:dX A A' S):A.length<=A'.length:=by obtain⟨pins,x,p⟩:=a;exact x.le
theorem dX.same {k:Nat}(a:dX A A' S)(h:A[k]?=some o)(n:k∉S):A'[k]?=some o:=by obtain⟨pins,x,p⟩:=a;exact x.same h (XM λq=>n (p k q))
def aW.kp {S:List Nat}{rk en ch bn iv:List (Key×Tr)}(h:aW A i rows rk en ch bn iv)(t:dX A A' S)(q:∀k∈S,k<i\/i+6<k):aW A' i rows rk en ch bn iv:=by
 have n:∀k,i<=k->k<=i+6->k∉S:=λk b g L=>by have:=q k L;omega
 exact⟨t.same h.o (n _ (by omega) (by omega)),t.same h.lg (n _ (by omega) (by omega)),t.same h.rk (n _ (by omega) (by omega)),t.same h.en (n _ (by omega) (by omega)),t.same h.ch (n _ (by omega) (by omega)),t.same h.bn (n _ (by omega) (by omega)),t.same h.iv (n _ (by omega) (by omega))⟩
def aT.kp {j ks kb ka:Nat}(h:aT A j ks kb ka rows aO stays aH asked d v p)(t:dX A A' S)(q:∀k∈[j,j+1,j+2,ks,kb,ka],k∉S):aT A' j ks kb ka rows aO stays aH asked d v p:=by
 obtain⟨pins,x,p⟩:=t;exact h.ext x λk L=>XM λb=>q k L (p k b)
def bz.kp {S:List Nat}(h:bz A aA b8)(t:dX A A' S)(q:∀k∈S,6<k):bz A' aA b8:=by
 have n:∀k,k<=6->k∉S:=λk b L=>by have:=q k L;omega
 exact⟨t.same h.o (n _ (by decide)),t.same h.ps (n _ (by decide)),t.same h.pl (n _ (by decide))⟩
def c_.kp {S:List Nat}(h:c_ A bB d4)(t:dX A A' S)(q:∀k∈S,6<k):c_ A' bB d4:=by
 have n:∀k,k<=6->k∉S:=λk b L=>by have:=q k L;omega
 exact⟨t.same h.o (n _ (by decide)),t.same h.pe (n _ (by decide)),t.same h.rs (n _ (by decide))⟩
noncomputable abbrev iS(i:Nat):List Nat:=[i+1,i+2,i+3,i+4,i+5,i+6]
theorem sn{a b:String}(h:(a==b)=false):(Str.ofString a==Str.ofString b)=false:=by
 have:a≠b:=by simpa using h
 refine gB.mpr λe=>this ?_
 rw[Str.ofString_eq_toList,Str.ofString_eq_toList]at e;injection e with e
 have m:∀{l r:List Char},l.map Char.toNat=r.map Char.toNat->l=r:=λ{l}=>by
  induction l with
  |nil=>intro r h;cases r with
   |nil=>rfl
   |cons=>cases h
  |cons x l L=>intro r h;cases r with
   |nil=>cases h
   |cons y r=>
    injection h with h1 g
    rw[L g,Char.toNat_inj.mp h1]
 exact String.toList_inj.mp (m (Array.toList_inj.mpr e:(List.map Char.toNat a.toList).toArray.toList=_))
def jN{acc:Str}(h:acc.length<=20000):∃w,pN acc=.ok (.str w):=⟨acc,ay (bI h (by decide))⟩
def jC{k:Str->Rs Tr}{acc z:Str}{n:Nat}(b:acc.length<=n)(g:z.length<=1000)(q:n<=10000)(h:∀a,a.length<=n+1000->∃w,k a=.ok (.str w)):∃w,eP (.ok (.str z)) k acc=.ok (.str w):=by
 have l:(acc++z).length<=n+1000:=by rw[hU];omega
 obtain⟨w,e⟩:=h _ l;refine⟨w,?_⟩;show(if(acc++z).length<=cy then k (acc++z)else .bad)=_;rw[ay (bI l (by show n+1000<=1000000;omega)),e]
def fW:List (Bool×Str×Str)->Tr
 |[]=>.bL
 |(b,_,w)::cs=>if b then .str w else fW cs
noncomputable def fX(A:Ab)(X:Rz Tr):List (Bool×Str×Str)->Rz Tr
 |[]=>X
 |(b,x,_)::cs=>if b then .exc (.str x) A else fX A X cs
theorem yv:∀{cs:List (Bool×Str×Str)},(∀c∈cs,c.1=false)->fX A X cs=X
 |[],_=>rfl
 |c::cs,h=>by
  obtain⟨b,x,w⟩:=c;have:b=false:=h _ (cJ ..);subst this;exact yv (cs:=cs) λc L=>h c (cw _ L)
def qT{b:Bool}{g:Rz Tr}(q:b=true->g=.exc (.str x) A)(r:b=false->g=fX A X cs):g=fX A X ((b,x,aw)::cs):=by
 cases b with
 |true=>exact q rfl
 |false=>exact r rfl
def RG{k:Nat}(h:rows[k]?=some t):ib (.tup rows) (.int k)=.ok t:=by
 show kc (L2.rn rows k)=_;rw[nv h];rfl
def hJ:(∀a l,ib (.tup (a::l)) (.int 0)=.ok a)/\(∀a b l,ib (.tup (a::b::l)) (.int 1)=.ok b)/\(∀a b c l,ib (.tup (a::b::c::l)) (.int 2)=.ok c)/\(∀a b c d l,ib (.tup (a::b::c::d::l)) (.int 3)=.ok d)/\(∀a b c d e l,ib (.tup (a::b::c::d::e::l)) (.int 4)=.ok e):=
 ⟨λ_ _=>RG (k:=0) rfl,λ_ _ _=>RG (k:=1) rfl,λ_ _ _ _=>RG (k:=2) rfl,λ_ _ _ _ _=>RG (k:=3) rfl,λ_ _ _ _ _ _=>RG (k:=4) rfl⟩
def FL:(∀i j:Int,Wl (.int i) (.int j)=.ok (.bl (decide (i<j))))/\(∀i j:Int,Wm (.int i) (.int j)=.ok (.bl (decide (i<=j))))/\(∀i j:Int,Wo (.int i) (.int j)=.ok (.bl (decide (j<=i))))/\(∀i j:Int,IZ [.int i,.int j]=.ok (.int (if j>i then j else i))):=by
 refine⟨?_,?_,?_,?_⟩<;>intros<;>rfl
def fi(ar:List (Str×Str))(z:Str):Int:=match ar.lookup z with
 |some r=>lvl r
 |none=>-1
def x_(r:Str):0<=lvl r/\lvl r<=3:=by
 unfold lvl;split
 .decide
 split
 .decide
 split<;>decide
def Qs{r:Str}(h:r∈eN):(r==("owner":Str))=decide (lvl r=3)/\(r==("keeper":Str))=decide (lvl r=2):=by
 have:r="guest"\/r="speaker"\/r="keeper"\/r="owner":=by simpa using h
 rcases this with rfl|rfl|rfl|rfl<;>decide
abbrev RA(A:Ab)(i:Nat)(rows:List Tr)(ar:List (Str×Str))(ents:List (Str×Int))(me:List (Str×Str))(bn iv:List Str):Prop:=aW A i rows (dP .str ar) (dP .int ents) (dP .str me) (nS bn) (nS iv)
def de(tu:dz rows):dS rows (dP .str ar) (dP .int ents) (dP .str b) (nS bn) (nS iv):=⟨tu,RE,XI,RE,FA,FA⟩
def cC.lk (k:cC ar ents ent)(h:ar.lookup aw=some r):r∈eN:=k.rl _ (f9 h)
theorem NS:∀{cs:List (Bool×Str×Str)},bf (oy (fX A (.ok .bL b) cs) Y)=fX A (.ok .bL b) cs
 |[]=>rfl
 |(true,_,_)::cs=>rfl
 |(false,_,_)::cs=>NS (cs:=cs)
def kO(h:RA A i rows ar ents b bn iv)(tu:dz rows)(hw:aw.length<=1000):kI [.at i,.str aw] A=if(ar.lookup aw).isNone then .exc (.str "NotIn") A else .ok .bL A:=by
 have n:=x8 h (de tu) hw;rw[cW]at n;rw[n];cases ar.lookup aw<;>rfl
theorem JY(h:RA A i rows ar ents g bn iv)(tu:dz rows)(k:cC ar ents ent)(hw:aw.length<=1000)(q:(ar.lookup aw).isNone=false):kK [.at i,.str aw] A=if decide (fi ar aw<2)then .exc (.str "NoRight") A else .ok .bL A:=by
 obtain⟨r,L⟩:∃r,ar.lookup aw=some r:=by cases e:ar.lookup aw with
  |none=>rw[e]at q;cases q
  |some r=>exact⟨r,rfl⟩
 show bf (fw.1 [.sh (.at i),.sh (.str aw)] A)=_;unfold fw;obtain⟨w,s⟩:=jC (z:=aw) (acc:=Str.empty) (n:=0) (k:=λacc=>eP (.ok (.str " is no keeper or owner")) (λacc=>pN acc) acc) (aZ 0) hw (by decide) λa b=>jC b (by decide) (by decide) λa b=>jN (by omega);have l2:vY [.str "keeper"]=.ok (.int 2):=j_ (by decide);simp only[ev,bw,bT,bZ,h.oR (de tu),dv,L,cA,kc,j_ (k.lk L),l2,FL];rw[show fi ar aw=lvl r by unfold fi;rw[L]];cases decide (lvl r<2)with
 |true=>simp only[ev,bw,bT,s,aP]
 |false=>rfl
def sf(l:List Str)(z:Str):List Str:=if l.contains z then l else l++[z]
def JZ:kz (nS l) (.inr z) (.bl true)=nS (sf l z):=by
 show kz (dP .bl (l.map λz=>(z,true))) (.inr z) (Tr.bl true)=_;rw[gS];unfold nS sf;congr 1;cases e:l.contains z with
 |false=>
  rw[kM (by rw[Ae,e];rfl),aE i7,fD];rfl
 |true=>
  unfold dk;rw[ay rfl,ay (by rw[sV];exact o6.mpr ⟨z,ck.mp e,by simp⟩),cp];exact jI λy L=>by show(if y=z then(y,true)else(y,true))=_;split<;>rfl
def FN:(nS l).length=l.length:=by unfold nS;rw[gq,aY]
def uE(q:(ar.lookup z).isNone=false):∃r,ar.lookup z=some r:=by
 cases e:ar.lookup z with
 |none=>rw[e]at q;cases q
 |some r=>exact⟨r,rfl⟩
def iF(h:ar.lookup z=some r):fi ar z=lvl r:=by unfold fi;rw[h]
def qi:(∀A,lU (.ok (.tup [.str a])) A=.ok (.tup [.str a]) A)/\(∀A,lU (.ok (.tup [.str a,.str b])) A=.ok (.tup [.str a,.str b]) A):=⟨λ_=>rfl,λ_=>rfl⟩
abbrev kP(rows:List Tr)(aw c9:Str)(ps:List Tr):Ao:=.lst (rows++[d7 rows aw c9 ps])
theorem NT(h:RA A i rows ar ents M bn iv)(tu:dz rows)(k:cC ar ents ent)(hw:aw.length<=1000)(g:d6.length<=1000)(q:(ar.lookup aw).isNone=false):lE [.at i,.str aw,.str d6] A=if decide (fi ar aw<2)||decide (fi ar aw<=fi ar d6)then .exc (.str "NoRight") A else .ok .bL A:=by
 obtain⟨r,L⟩:=uE q;show bf (fJ.1 [.sh (.at i),.sh (.str aw),.sh (.str d6)] A)=_;unfold fJ;simp only[ev,bw,bT,bZ,h.call (m:="need_keeper") rfl,JY h tu k hw q];cases decide (fi ar aw<2)with
 |true=>rfl
 |false=>
  simp only[ev,bw,bT,bZ,h.oR (de tu),cW,bP,bq,pb];cases hm:ar.lookup d6 with
  |none=>
   rw[show decide (fi ar aw<=fi ar d6)=false from fV (by rw[iF L,show fi ar d6=-1 by unfold fi;rw[hm]];have:=x_ r;omega)]
   rfl
  |some s=>
   obtain⟨w,I⟩:=jC (z:=d6) (acc:=Str.empty) (n:=0) (k:=λacc=>eP (.ok (.str " has no lesser role than ")) (λacc=>eP (.ok (.str aw)) (λacc=>pN acc) acc) acc) (aZ 0) g (by decide) λa b=>jC b (by decide) (by decide) λa b=>jC b hw (by decide) λa b=>jN (by omega);simp only[cA,fT,ev,bw,dv,hm,L,kc,j_ (k.lk L),j_ (k.lk hm),FL];rw[iF L,iF hm];cases decide (lvl r<=lvl s)with
   |true=>simp only[ev,bw,bT,I,aP]
   |false=>rfl
def MK(h:bz A aA b8)(hw:aw.length<=1000)(b:d6.length<=1000):gW [.at 0,.tup [.str aw,.str d6]] A=if((aA.lookup aw).isSome&&(aA.lookup d6).isSome)=true then .ok .bL A else .exc (.str "NoPerson") A:=by
 show bf (dw.1 [.sh (.at 0),.sh (.tup [.str aw,.str d6]),.no] A)=_;unfold dw;have s:=xF (z:="nobody is called ") (y:=aw) (by decide) hw;have L:=xF (z:="nobody is called ") (y:=d6) (by decide) b;simp only[ev,bw,bT,bZ,GY,aQ,aR,h.Ju,cW,nq];cases(aA.lookup aw).isSome with
 |false=>simp only[dJ,ev,bw,bT,bZ,s,mz,bP,bq]
 |true=>
  simp only[dM,ev,bw,bT,bZ,aQ,aR,h.Ju,cW,nq,jO];cases(aA.lookup d6).isSome with
  |true=>simp only[dM,ev,bw,aP]
  |false=>simp only[dJ,ev,bw,bT,bZ,L,bP,bq]
def jl(h:bz A aA b8)(hw:aw.length<=1000)(b:d6.length<=1000)(g:b8.lookup c8=some i):iX [.at 0,.tup [.str aw,.str d6],.str c8] A=if((aA.lookup aw).isSome&&(aA.lookup d6).isSome)=true then .ok (.at i) A else .exc (.str "NoPerson") A:=by
 show bf (dW.1 [.sh (.at 0),.sh (.tup [.str aw,.str d6]),.sh (.str c8)] A)=_;unfold dW;simp only[ev,bw,bT,bZ,h.call (m:="need_people") rfl,MK h hw b];cases((aA.lookup aw).isSome&&(aA.lookup d6).isSome)with
 |true=>simp only[aP,ev,bw,bT,bZ,h.call (m:="place") rfl,FJ h g]
 |false=>simp only[bP,bq,ev]
noncomputable abbrev uF:List (Key×Tr):=[(.inr "arrange",.str "set"),(.inr "take_back",.str "gone")]
def NU:(∀a b,Bl (.ok [a,b])=.ok (.lst [a,b]))/\DV [.lst [.tup [.str "arrange",.str "set"],.tup [.str "take_back",.str "gone"]]]=.ok (.bh uF)/\(∀A,uM (.ok (.bh uF)) A=.ok (.at A.length) (A++[.bh uF])):=⟨λ_ _=>rfl,rfl,λ_=>rfl⟩
def NV{A:Ab}:aJ 5 (A++[.bh uF]) (.at A.length)=.bh uF:=by rw[gQ jV];rfl
def KA{a b:Tr}{Y:bW}{c e:Cell}:Gy (gT [2,3]) (.ok (.tup [a,b]) A) (c::e:: .no:: .no::Y)=.ok (.nx (c::e:: .sh a:: .sh b::Y)) A:=rfl
noncomputable abbrev yw(d v p:Str):List (Str×Str):=[("door",d),("voice",v),("past",p)]
abbrev jS(j ks kb ka:Nat):List Nat:=[j,j+1,j+2,ks,kb,ka]
def Ha(h:d6∉kN stays):stays.map (fA d6 n)=stays:=by
 conv=>rhs;rw[<-mC stays]
 refine jI λs hs=>?_
 show fA d6 n s=s;unfold fA;refine aE λq=>h ?_
 exact bV.mpr ⟨s,eR.mpr ⟨hs,by rw[q.2];rfl⟩,q.1⟩
def En{aO:List (Str×Str)}(h:aO.lookup d6=none):eK aO d6=aO:=k_.mpr λq L=>dA (lookup_none h q L)
def gj:SN (.ok (.bl a)) b=if a then b else .ok (.bl false):=by cases a<;>rfl
def dG:yW (.str w) (.tup [.str a,.str b])=.ok (.bl (w==a||w==b)):=by
 show Rs.ok (Tr.bl ((a==w)||((b==w)||false)))=_;rw[cK,km (a:=a),km (a:=b)]
def J0(aw z w:Str):Bool:=z==aw&&(w==("found":Str)||w==("enter":Str))
def RH(aw z w a:Str):Bool:=if w==("leave":Str)then z==aw else(w==("out":Str)||w==("bar":Str))&&a==aw
def NW(w a:Str):Bool:=w==("set":Str)&&a==("past":Str)
def ML:xR [.tup (.int n:: .str z:: .str w::rows),.str aw]=.ok (.bl (J0 aw z w)):=by
 unfold J0;show eI (nU.1 [.sh (.tup (.int n:: .str z:: .str w::rows)),.sh (.str aw)])=_;unfold nU;simp only[ev,bw,hJ,gj,dG];cases z==aw<;>rfl
def Qt{w:Str}{ps:List Tr}(h:(w==("out":Str)||w==("bar":Str))=true->∃r,ps=.str a::r):xT [.tup (.int n:: .str z:: .str w::ps),.str aw]=.ok (.bl (RH aw z w a)):=by
 unfold RH;show eI (nV.1 [.sh (.tup (.int n:: .str z:: .str w::ps)),.sh (.str aw)])=_;unfold nV;simp only[ev,bw,hJ,gj,dG];cases w==("leave":Str)with
 |true=>simp only[ev,aP]
 |false=>
  cases e:(w==("out":Str)||w==("bar":Str))with
  |false=>simp only[ev,bw,hJ,gj,dG,e,bP,bq,mz]
  |true=>
   obtain⟨r,rfl⟩:=h e;simp only[ev,bw,hJ,gj,dG,e,bP,bq,aP,jO]
def Qu{w:Str}{ps:List Tr}(h:w="set"->∃r,ps=.str a::r):vz [.tup (.int n:: .str z:: .str w::ps)]=.ok (.bl (NW w a)):=by
 unfold NW;show eI (lG.1 [.sh (.tup (.int n:: .str z:: .str w::ps))])=_;unfold lG;simp only[ev,bw,hJ,gj];cases e:w==("set":Str)with
 |false=>simp only[ev,bP,bq,mz]
 |true=>
  obtain⟨r,rfl⟩:=h (by simpa using e);simp only[ev,bw,hJ,aP,jO]
def p0:List Tr->Str
 |.str a::_=>a
 |_=>Str.empty
def p1:List Tr->Str
 |_:: .str a::_=>a
 |_=>Str.empty
def oV(n:Int):List Int:=(List.range (n - 1).toNat).map λk=>1+(k:Nat)
abbrev Sb:=List Int×Bool×Str
def Uo(aw:Str)(x:Sb):Tr->Sb
 |.tup (.int n:: .str z:: .str w::ps)=>
  let S:=if J0 aw z w&&x.2.2==("shown":Str)then oV n else x.1
  let i:=J0 aw z w||x.2.1
  (if i then S++[n]else S,i&&!RH aw z w (p0 ps),if NW w (p0 ps)then p1 ps else x.2.2)
 |_=>x
structure RowW(n:Int)(z w:Str)(ps:List Tr):Prop where
 b:0<=n/\n<1000
 o:(w==("out":Str)||w==("bar":Str))=true->∃r,ps=.str (p0 ps)::r
 s:w="set"->∃r,ps=.str (p0 ps):: .str (p1 ps)::r
 g:w="gone"->∃(n:Int) (r:List Tr),ps=.int n::r
def MM{A:Ab}{k:Nat}{S:List Int}{n:Nat}(h:A[k]?=some (.lst (S.map .int))):aJ (n+1) A (.at k)=.lst (S.map .int):=by
 rw[lZ h,cp];exact cR Tr.lst (jI λi _=>DZ)
theorem CF{Z:Type}{T:ye}{G:bW->Ab->Rz Out}{f:Z->Tr->Z}{P:Tr->Prop}(I:Z->Nat->bW->Ab->Prop)(h:∀x n t Y A,P t->I x (n+1) Y A->∃r,T t Y=.ok r/\∃b g,G r A=.ok (.nx b) g/\I (f x t) n b g):
  ∀(ts:List Tr) (x:Z) (Y:bW) (A:Ab),(∀t∈ts,P t)->I x ts.length Y A->∃q A',mU T G ts Y A=.ok (.nx q) A'/\I (ts.foldl f x) 0 q A'
 |[],x,Y,A,_,hi=>⟨Y,A,rfl,hi⟩
 |t::ts,x,Y,A,L,hi=>by
  obtain⟨r,M,b,g,S,h2⟩:=h x ts.length t Y A (L t (cJ ..)) hi;obtain⟨q,A',e3,h3⟩:=CF I h ts (f x t) b g (λu hu=>L u (cw _ hu)) h2;refine⟨q,A',?_,h3⟩;simp only[GY,M,bT,bw,S];exact e3
def J4{T:ye}{G:bW->Ab->Rz Out}{f:α->Tr->α}{P:Tr->Prop}{x:α}{Y:bW}{A:Ab}{r:Rs Tr}(I:α->Nat->bW->Ab->Prop)(hi:I x rows.length Y A)(S:∀t∈rows,P t)(h:∀x n t Y A,P t->I x (n+1) Y A->∃b,T t Y=.ok b/\∃g M,G b A=.ok (.nx g) M/\I (f x t) n g M)
  (hK:∀Y A,I (rows.foldl f x) 0 Y A->mV (K Y A)=r):mV (zV (mU T G rows Y A) K)=r:=by
 obtain⟨L,A',e,q⟩:=CF I h rows x Y A S hi;rw[e];exact hK L A' q
def Y6(rows:List Tr)(aw:Str)(x:Sb)(m:Nat)(Y:bW)(A:Ab):Prop:=m<=50000/\x.1.length+m<=150000/\∃k c,Y=[.sh (.lst rows),.sh (.str aw),.sh (.at k),.sh (.bl x.2.1),.sh (.str x.2.2),c]/\A[k]?=some (.lst (x.1.map .int))
def J5(t:Tr):Prop:=∃n z w ps,t=.tup (.int n:: .str z:: .str w::ps)/\RowW n z w ps
def sb(aw:Str)(rows:List Tr):Sb:=rows.foldl (Uo aw) ([],false,"shown")
theorem v8:∀{S:List Int},jT (S.map .int)=true/\fm (S.map .int)=true
 |[]=>⟨rfl,rfl⟩
 |_::S=>v8 (S:=S)
def Eo{r:Rz Out}{Φ I:bW->Ab->Prop}(M:∃b g,r=.ok (.nx b) g/\Φ b g)(S:∀b g,Φ b g->∃q A2,K b g=.ok (.nx q) A2/\I q A2):∃q A2,zV r K=.ok (.nx q) A2/\I q A2:=by
 obtain⟨b,g,e,h⟩:=M;rw[e];exact S _ _ h
theorem MN{n:Int}(h:0<=n/\n<100000):uM (Bl (Il (.ok [.int 1,.int n]))) A=.ok (.at A.length) (A++[.lst ((oV n).map .int)]):=by
 have e:Il (.ok [.int 1,.int n])=.ok ((oV n).map .int):=by
  show(if _ then Rs.ok (oO 1 (n - 1).toNat)else .bad)=_;rw[ay (by omega)];unfold oO oV;rw[cp];rfl
 have l:(oV n).length<100000:=by unfold oV;rw[aY,o4];omega
 rw[e];show uM (if((oV n).map Tr.int).length<=cX then Rs.ok (Tr.lst ((oV n).map .int))else .bad) A=_;rw[ay (by rw[aY];exact cG (Nat.lt_trans l (by decide)))];show(if jT ((oV n).map .int)=true then Rz.ok (Tr.at A.length) (A++[Ao.lst ((oV n).map .int)])else .bad)=_;rw[ay v8.1]
theorem u6:∀{rows:List Tr},(∀t∈rows,∃us,t=.tup us/\us.all qY=true)->fm rows=true
 |[],_=>rfl
 |t::rows,h=>by
  obtain⟨us,rfl,L⟩:=h t (cJ ..);show(fm us&&fm rows)=true;rw[u6 λu L=>h u (cw _ L),mB]
  clear h
  induction us with
  |nil=>rfl
  |cons u us b=>
   rw[i9,bC]at L;show(ua u&&fm us)=true;rw[b L.2,mB];cases u<;>first|rfl|cases L.1
theorem Qv(hr:∀t∈rows,J5 t)(hf:∀t∈rows,∃us,t=.tup us/\us.all qY=true)(hl:rows.length<=50000):uZ [.lst rows,.str aw]=.ok (.tup ((sb aw rows).1.map .int)):=by
 unfold uZ vH;have na:fm [.lst rows,.str aw]=true:=by show(fm rows&&true)=true;rw[u6 hf];rfl
 rw[ay ⟨rfl,na⟩];show mV (qJ.1 [.sh (.lst rows),.sh (.str aw),.no,.no,.no,.no] [])=_;unfold qJ;have l0:Bl (.ok [])=.ok (.lst []):=rfl;have n0:uM (.ok (.lst [])) ([]:Ab)=.ok (.at 0) [.lst []]:=rfl;have I:∀b,lR (.bl b)=.ok b:=λ_=>rfl;simp only[ev,bw,bT,bZ,GY,l0,n0,aQ,aR];refine J4 (f:=Uo aw) (x:=([],false,"shown")) (Y6 rows aw) ⟨hl,by show 0+_<=_;omega,0,.no,rfl,rfl⟩ hr (λx m t Y A ht M=>?_) λY A M=>?_
 .obtain⟨h1,h2,k,c,rfl,L⟩:=M;obtain⟨n,z,w,ps,rfl,R⟩:=ht;refine⟨_,rfl,?_⟩;have g:=Qt (n:=n) (z:=z) (aw:=aw) R.o;have q:=Qu (n:=n) (z:=z) (w:=w) (a:=p0 ps) (ps:=ps) λe=>by obtain⟨r,e⟩:=R.s e;exact⟨_,e⟩
  simp only[ev,bw,bT,bZ,GY,hJ,aQ,aR,ML,I];have nr:=MN (A:=A) (n:=n) (by have:=R.b;omega);have lr:(oV n).length+m<150000:=by unfold oV;have:=R.b;rw[aY,o4];omega
  refine Eo (Φ:=λY A=>∃k,Y=[.sh (.lst rows),.sh (.str aw),.sh (.at k),.sh (.bl (J0 aw z w||x.2.1)),.sh (.str x.2.2),.sh (.tup (.int n:: .str z:: .str w::ps))]/\A[k]?=some (.lst ((if J0 aw z w&&x.2.2==("shown":Str)then oV n else x.1).map .int))) ?_ ?_
  .cases J0 aw z w with
   |false=>exact⟨_,_,rfl,k,rfl,L⟩
   |true=>
    cases x.2.2==("shown":Str)with
    |false=>exact⟨_,_,rfl,k,rfl,L⟩
    |true=>
     simp only[ev,nr,aQ,aR];exact⟨_,_,rfl,_,rfl,jV⟩
  have ls:(if J0 aw z w&&x.2.2==("shown":Str)then oV n else x.1).length+m<150000:=by split<;>omega
  show∀jq A1,_;generalize hS:(if J0 aw z w&&x.2.2==("shown":Str)then oV n else x.1)=S at ls;generalize hi:(J0 aw z w||x.2.1)=i
  rintro Y A ⟨k,rfl,L⟩
  simp only[ev,bw,bT,bZ,hJ,I];refine Eo (Φ:=λY A=>Y=[.sh (.lst rows),.sh (.str aw),.sh (.at k),.sh (.bl i),.sh (.str x.2.2),.sh (.tup (.int n:: .str z:: .str w::ps))]/\A[k]?=some (.lst ((if i then S++[n]else S).map .int))) ?_ ?_
  .cases i with
   |false=>exact⟨_,_,rfl,rfl,L⟩
   |true=>
    simp only[ev,bw,rK L,rL (t:=.int n) L (by rw[aY];exact dH (nk (Nat.le_add_right _ m) ls) (by decide))];refine⟨_,_,rfl,rfl,?_⟩;rw[kW (fh L)];simp only[aP,fD];rfl
  rintro Y A ⟨rfl,L⟩
  simp only[ev,bw,bT,bZ,hJ,g,I];refine Eo (Φ:=λY A=>Y=[.sh (.lst rows),.sh (.str aw),.sh (.at k),.sh (.bl (i&&!RH aw z w (p0 ps))),.sh (.str x.2.2),.sh (.tup (.int n:: .str z:: .str w::ps))]/\A[k]?=some (.lst ((if i then S++[n]else S).map .int))) ?_ ?_
  .cases RH aw z w (p0 ps)with
   |false=>exact⟨_,_,rfl,by rw[dJ,mB],L⟩
   |true=>exact⟨_,_,rfl,by rw[dM,wL];rfl,L⟩
  rintro Y A ⟨rfl,L⟩
  simp only[ev,bw,bT,bZ,hJ,q,I];have fin:∀p,p=(if NW w (p0 ps)then p1 ps else x.2.2)->Y6 rows aw (Uo aw x (.tup (.int n:: .str z:: .str w::ps))) m [.sh (.lst rows),.sh (.str aw),.sh (.at k),.sh (.bl (i&&!RH aw z w (p0 ps))),.sh (.str p),.sh (.tup (.int n:: .str z:: .str w::ps))] A:=λp e=>by
   subst e hi hS;refine⟨by omega,?_,k,_,rfl,L⟩;show(if _ then _ else _:List Int).length+m<=_;split
   .rw[dI];show _+1+m<=_;omega
   .omega
  cases e:NW w (p0 ps)with
  |false=>exact⟨_,_,rfl,fin _ (by rw[e];rfl)⟩
  |true=>
   have e':=e;unfold NW at e';rw[bC]at e';obtain⟨r,e2⟩:=R.s (by simpa using e'.1);have i4:ib (.tup (.int n:: .str z:: .str w::ps)) (.int 4)=.ok (.str (p1 ps)):=by rw[e2];exact RG (k:=4) rfl
   simp only[ev,bw,i4,aQ,aR];exact⟨_,_,rfl,fin _ (by rw[e];rfl)⟩
 .obtain⟨h1,h2,k,c,rfl,L⟩:=M;have ft:∀{S:List Int} {A},lU (zS [.lst (S.map .int)]) A=.ok (.tup (S.map .int)) A:=λ{S A}=>by show(if jT (S.map .int)=true then _ else _)=_;rw[ay v8.1]
  simp only[ev,bw,bT,bZ,MM L,ft];show(if ua (aJ 3 A (.tup _))=true then Rs.ok (aJ 3 A (.tup _))else .bad)=_;simp only[bZ];exact ay v8.2
def tn(t:Tr):Int:=match t with
 |.tup (.int n::_)=>n
 |_=>0
def Ep(n:Int):Tr->Bool
 |.tup (_::_:: .str w:: .int m::_)=>w==("gone":Str)&&m==n
 |_=>false
def Std(rows:List Tr)(n:Int)(z:Str):Prop:=(1<=n/\n<=rows.length)/\(∃k ps,rows[(n - 1).toNat]?=some (.tup (.int k:: .str z:: .str "say"::ps)))/\∀t∈rows,Ep n t=false
inductive yx(rows:List Tr)(l:List (Str×Str))(v:Str):Str->Str->List Tr->List (Str×Str)->Str->Prop
 |found {z:Str}:fi l z<0->z.length<=1000->yx rows l v z "found" [] (dk l z "owner") v
 |enter {z:Str}:fi l z<0->z.length<=1000->yx rows l v z "enter" [] (dk l z "guest") v
 |role {z y r:Str}:(((∀p∈l,p.2≠"owner")/\y=z/\r="owner")\/2<fi l z\/fi l z=2/\(r="guest"\/r="speaker"))->y.length<=1000->r∈eN->yx rows l v z "role" [.str y,.str r] (dk l y r) v
 |leave {z r:Str}:l.lookup z=some r->yx rows l v z "leave" [] (eK l z) v
 |out {z y w:Str}:(w="out"\/w="bar")->1<fi l z->fi l y<fi l z->yx rows l v z w [.str y] (eK l y) v
 |set {z a b:Str}:1<fi l z->(a="voice"->b="all"\/b="some")->yx rows l v z "set" [.str a,.str b] l (if a="voice"then b else v)
 |ask {z y w:Str}:(w="ask"\/w="unbar")->1<fi l z->yx rows l v z w [.str y] l v
 |say {z:Str} {a b:Tr}:(0<fi l z\/fi l z=0/\v="all")->yx rows l v z "say" [a,b] l v
 |Hb {z:Str} {n:Int} {a:Tr}:Std rows n z->yx rows l v z "mend" [.int n,a] l v
 |gone {z y:Str} {n:Int}:Std rows n y->(y=z\/1<fi l z)->yx rows l v z "gone" [.int n] l v
structure u7(l:List (Str×Str)):Prop where
 rl:∀p∈l,p.2∈eN
 nd:(l.map (·.1)).Nodup
 sh:∀p∈l,p.1.length<=1000
inductive RF:List Tr->List (Str×Str)->Str->Prop
 |nil:RF [] [] "all"
 |add {rows:List Tr} {l l':List (Str×Str)} {v v' z w:Str} {ps:List Tr}:RF rows l v->yx rows l v z w ps l' v'->RF (rows++[.tup (.int (rows.length+1):: .str z:: .str w::ps)]) l' v'
structure Seen(rows:List Tr)(ar:List (Str×Str))(v:Str):Prop where
 w:∀t∈rows,J5 t
 l:∀aw n,n∈(sb aw rows).1->1<=n/\n<=rows.length
 f:RF rows ar v
 v:v="all"\/v="some"
theorem Qw{t:Tr}:sb aw (rows++[t])=Uo aw (sb aw rows) t:=by unfold sb;rw[List.foldl_append];rfl
def J7{n:Int}:n∈oV b↔1<=n/\n<b:=by
 unfold oV;rw[bV];constructor
 .rintro ⟨k,L,rfl⟩
  rw[o9]at L;omega
 .rintro ⟨g,h2⟩
  exact⟨(n - 1).toNat,o9.mpr (by omega),by omega⟩
theorem yx.row (q:yx rows l v z w ps l' g){n:Int}(h:0<=n/\n<1000):RowW n z w ps:=by
 have no:∀{a b:Str} {P:Prop},a=b->(a==b)=false->P:=λe q=>by rw[e,aU]at q;cases q
 cases q with
 |out hw=>exact⟨h,λ_=>⟨[],rfl⟩,λq=>by rcases hw with rfl|rfl<;>exact no q rfl,λq=>by rcases hw with rfl|rfl<;>exact no q rfl⟩
 |ask hw=>exact⟨h,λ_=>⟨[],rfl⟩,λq=>by rcases hw with rfl|rfl<;>exact no q rfl,λq=>by rcases hw with rfl|rfl<;>exact no q rfl⟩
 |set=>exact⟨h,λq=>absurd q (by decide),λ_=>⟨[],rfl⟩,λq=>no q rfl⟩
 |gone=>exact⟨h,λq=>absurd q (by decide),λq=>no q rfl,λ_=>⟨_,[],rfl⟩⟩
 |_=>exact⟨h,λq=>absurd q (by decide),λq=>no q rfl,λq=>no q rfl⟩
def u7.put {y r:Str}(k:u7 l)(g:y.length<=1000)(q:r∈eN):u7 (dk l y r):=by
 refine⟨λp L=>?_,?_,λp L=>?_⟩
 .rcases AA L with rfl|L
  .exact q
  .exact k.rl p L
 .cases e:l.lookup y with
  |some x=>rw[uB (bV.mpr ⟨_,f9 e,rfl⟩)];exact k.nd
  |none=>
   rw[kM e,fD,wB];refine⟨k.nd,by simp,λa I b hb=>?_⟩;obtain⟨p,L,rfl⟩:=bV.mp I;cases(cz.mp hb);exact lookup_none e p L
 .rcases AA L with rfl|L
  .exact g
  .exact k.sh p L
def u7.drop (k:u7 l):u7 (eK l y):=by
 have s:(eK l y).Sublist l:=wo;exact⟨λp L=>k.rl p (s.subset L),k.nd.sublist (s.map _),λp L=>k.sh p (s.subset L)⟩
def yx.rk (q:yx rows l v z w ps l' b)(k:u7 l):u7 l':=by
 cases q with
 |found _ h=>exact k.put h (by decide)
 |enter _ h=>exact k.put h (by decide)
 |role _ h L=>exact k.put h L
 |leave=>exact k.drop
 |out=>exact k.drop
 |_=>exact k
theorem Seen.nil:Seen [] [] "all":=⟨λ_ h=>(by cases h),λ_ _ h=>(by cases h),.nil,.inl rfl⟩
theorem Seen.add {l:List (Str×Str)}{v w:Str}(h:Seen rows l v)(g:rows.length<999)(q:yx rows l v z w ps l' v'):Seen (rows++[.tup (.int (rows.length+1):: .str z:: .str w::ps)]) l' v':=by
 have ln:((rows++[Tr.tup (.int (rows.length+1):: .str z:: .str w::ps)]).length:Int)=rows.length+1:=by rw[dI];rfl
 refine⟨λu L=>?_,λaw n b=>?_,.add h.f q,?_⟩
 .rcases cF.mp L with L|L
  .exact h.w u L
  .rw[cz.mp L];exact⟨_,_,_,_,rfl,q.row (by omega)⟩
 .rw[Qw]at b;rw[ln];have a:n∈(if J0 aw z w&&(sb aw rows).2.2==("shown":Str)then oV (rows.length+1)else(sb aw rows).1)->1<=n/\n<=rows.length:=λq=>by
   split at q
   .have:=J7.mp q;omega
   .exact h.l aw n q
  simp only[Uo]at b;split at b
  .rcases cF.mp b with q|q
   .have:=a q;omega
   .have:=cz.mp q;omega
  .have:=a b;omega
 .cases q with
  |set _ hb=>
   split
   .rename_i e;exact hb e
   .exact h.v
  |_=>exact h.v
def MO(m:c_ A bB d4)(g:bB.length<cX):cP [.at 4,.tup [.str "come",.str aw]] A=.ok .bL (A.set 5 (.lst ((bB++[aw]).map .str))):=by
 show bf (fy.1 [.sh (.at 4),.sh (.tup [.str "come",.str aw]),.no,.no,.no] A)=_;unfold fy;have sl:fZ (.ok (.tup [.str "come",.str aw])) (.ok none) (m9 (.ok (.int 2)))=.ok (.tup [.str "come",.str aw]):=rfl;have b:∀A,lU (.ok (.tup [.str "come",.str aw])) A=.ok (.tup [.str "come",.str aw]) A:=λA=>rfl;have gt:∀A,Gy (gT [2,3]) (.ok (.tup [.str "come",.str aw]) A) [.sh (.at 4),.sh (.tup [.str "come",.str aw]),.no,.no,.no]=.ok (.nx [.sh (.at 4),.sh (.tup [.str "come",.str aw]),.sh (.str "come"),.sh (.str aw),.no]) A:=λA=>rfl;have L:=rL (t:=.str aw) m.pe (by rwa[aY]);rw[show bB.map Tr.str++[.str aw]=(bB++[aw]).map .str by rw[fD];rfl]at L;simp only[ev,bw,bT,bZ,sl,b,gt,aU,f_,m.Xy,rK m.pe,L]
theorem J8(m:c_ A bB d4)(b:d4.lookup c8=some j)(g:u5 [.at j,.str aw,.str "enter"] A=.ok .bL q)(r:kg [.at j] q=.ok .bL A2):cP [.at 4,.tup [.str "enter",.str aw,.str c8]] A=.ok .bL A2:=by
 show bf (fy.1 [.sh (.at 4),.sh (.tup [.str "enter",.str aw,.str c8]),.no,.no,.no] A)=_;unfold fy;have sl:fZ (.ok (.tup [.str "enter",.str aw,.str c8])) (.ok none) (m9 (.ok (.int 2)))=.ok (.tup [.str "enter",.str aw]):=rfl;have L:∀A,lU (.ok (.tup [.str "enter",.str aw])) A=.ok (.tup [.str "enter",.str aw]) A:=λA=>rfl;have gt:∀A,Gy (gT [2,3]) (.ok (.tup [.str "enter",.str aw]) A) [.sh (.at 4),.sh (.tup [.str "enter",.str aw,.str c8]),.no,.no,.no]=.ok (.nx [.sh (.at 4),.sh (.tup [.str "enter",.str aw,.str c8]),.sh (.str "enter"),.sh (.str aw),.no]) A:=λA=>rfl;have I:ib (.tup [.str "enter",.str aw,.str c8]) (.int 2)=.ok (.str c8):=rfl;have s1:(Str.ofString "enter"==Str.ofString "come")=false:=by decide
 have s2:(Str.ofString "enter"==Str.ofString "found")=false:=by decide
 have s3:(Str.ofString "enter"==Str.ofString "say")=false:=by decide
 simp only[ev,bw,bT,bZ,sl,L,gt,s1,s2,s3,I,f_,m.Mv,um m.rs,dv,b,cA,kc,aQ,aR,aU,g,r]
theorem J9{A0:Ab}(m:c_ A bB d4)(b:d4.lookup c8=some j)(g:Ay [.at j,.str aw,.tup [.str "leave"]] A=.ok (.int n) A0)(q:xZ [.at j,.str aw,.int n] A0=.ok .bL r)(I:kg [.at j] r=.ok .bL A2):cP [.at 4,.tup [.str "leave",.str aw,.str c8]] A=.ok .bL A2:=by
 show bf (fy.1 [.sh (.at 4),.sh (.tup [.str "leave",.str aw,.str c8]),.no,.no,.no] A)=_;unfold fy;have sl:fZ (.ok (.tup [.str "leave",.str aw,.str c8])) (.ok none) (m9 (.ok (.int 2)))=.ok (.tup [.str "leave",.str aw]):=rfl;have L:∀A,lU (.ok (.tup [.str "leave",.str aw])) A=.ok (.tup [.str "leave",.str aw]) A:=λA=>rfl;have M:∀A,lU (.ok (.tup [.str "leave"])) A=.ok (.tup [.str "leave"]) A:=λA=>rfl;have gt:∀A,Gy (gT [2,3]) (.ok (.tup [.str "leave",.str aw]) A) [.sh (.at 4),.sh (.tup [.str "leave",.str aw,.str c8]),.no,.no,.no]=.ok (.nx [.sh (.at 4),.sh (.tup [.str "leave",.str aw,.str c8]),.sh (.str "leave"),.sh (.str aw),.no]) A:=λA=>rfl;have S:ib (.tup [.str "leave",.str aw,.str c8]) (.int 2)=.ok (.str c8):=rfl;have s1:(Str.ofString "leave"==Str.ofString "come")=false:=by decide
 have s2:(Str.ofString "leave"==Str.ofString "found")=false:=by decide
 have s3:(Str.ofString "leave"==Str.ofString "say")=false:=by decide
 have s4:(Str.ofString "leave"==Str.ofString "enter")=false:=by decide
 simp only[ev,bw,bT,bZ,sl,L,M,gt,s1,s2,s3,s4,S,f_,m.Mv,um m.rs,dv,b,cA,kc,aQ,aR,aU,g,q,I]
def Hk:bf (zV (Gx X) G)=X:=by cases X<;>rfl
def MP(h:bz A aA b8):cj [.at 0,.tup [.str "come",.str aw]] A=lD [.at 0,.str aw] A:=by
 show bf (bR.1 [.sh (.at 0),.sh (.tup [.str "come",.str aw]),.no] A)=_;unfold bR;have L:ib (.tup [.str "come",.str aw]) (.int 0)=.ok (.str "come"):=rfl;have b:ib (.tup [.str "come",.str aw]) (.int 1)=.ok (.str aw):=rfl;simp only[ev,bw,bT,bZ,L,b,aQ,aR,aU,h.call (m:="come") rfl,Hk]
theorem CG(h:bz A aA b8):cj [.at 0,.tup [.str "found",.str aw,.str c8]] A=nT [.at 0,.str aw,.str c8] A:=by
 show bf (bR.1 [.sh (.at 0),.sh (.tup [.str "found",.str aw,.str c8]),.no] A)=_;unfold bR;have L:ib (.tup [.str "found",.str aw,.str c8]) (.int 0)=.ok (.str "found"):=rfl;have b:ib (.tup [.str "found",.str aw,.str c8]) (.int 1)=.ok (.str aw):=rfl;have g:ib (.tup [.str "found",.str aw,.str c8]) (.int 2)=.ok (.str c8):=rfl;have s1:(Str.ofString "found"==Str.ofString "come")=false:=by decide
 simp only[ev,bw,bT,bZ,L,b,g,s1,aQ,aR,aU,h.call (m:="found") rfl,Hk]
theorem J_(h:bz A aA b8):cj [.at 0,.tup [.str "enter",.str aw,.str c8]] A=n6 [.at 0,.str aw,.str c8] A:=by
 show bf (bR.1 [.sh (.at 0),.sh (.tup [.str "enter",.str aw,.str c8]),.no] A)=_;unfold bR;have L:ib (.tup [.str "enter",.str aw,.str c8]) (.int 0)=.ok (.str "enter"):=rfl;have b:ib (.tup [.str "enter",.str aw,.str c8]) (.int 1)=.ok (.str aw):=rfl;have g:ib (.tup [.str "enter",.str aw,.str c8]) (.int 2)=.ok (.str c8):=rfl;have s1:(Str.ofString "enter"==Str.ofString "come")=false:=by decide
 have s2:(Str.ofString "enter"==Str.ofString "found")=false:=by decide
 simp only[ev,bw,bT,bZ,L,b,g,s1,s2,aQ,aR,aU,h.call (m:="enter") rfl,Hk]
theorem J'(h:bz A aA b8):cj [.at 0,.tup [.str "leave",.str aw,.str c8]] A=n8 [.at 0,.str aw,.str c8] A:=by
 show bf (bR.1 [.sh (.at 0),.sh (.tup [.str "leave",.str aw,.str c8]),.no] A)=_;unfold bR;have L:ib (.tup [.str "leave",.str aw,.str c8]) (.int 0)=.ok (.str "leave"):=rfl;have b:ib (.tup [.str "leave",.str aw,.str c8]) (.int 1)=.ok (.str aw):=rfl;have g:ib (.tup [.str "leave",.str aw,.str c8]) (.int 2)=.ok (.str c8):=rfl;have s1:(Str.ofString "leave"==Str.ofString "come")=false:=by decide
 have s2:(Str.ofString "leave"==Str.ofString "found")=false:=by decide
 have s3:(Str.ofString "leave"==Str.ofString "enter")=false:=by decide
 simp only[ev,bw,bT,bZ,L,b,g,s1,s2,s3,aQ,aR,aU,h.call (m:="leave") rfl,Hk]
def Ka(q:cj [.at 0,.tup ts] A=.ok .bL A1):fQ [.at 0,.tup ts] A=.ok .bL A1:=by
 show bf (jk.1 [.sh (.at 0),.sh (.tup ts),.no,.no,.no] A)=_;unfold jk;have tz:∀o A G,BW 5 4 ["Known","NoPerson","NoRoom","NotIn","NotAsked","Barred","NoRight","NoRow","NoHand","NoLine"] (.ok o A) G=.ok o A:=λ_ _ _=>rfl;have L:LH .bL .bL=.ok (.bl true):=rfl;simp only[ev,bw,bT,bZ,aQ,aR,q,tz,L]
def FO(q:cj [.at 0,.tup ts] A=.exc (.str x) A)(b:(["Known","NoPerson","NoRoom","NotIn","NotAsked","Barred","NoRight","NoRow","NoHand","NoLine"]:List Str).contains x=true)(hw:xY [.yN x]=.ok (.str w)):fQ [.at 0,.tup ts] A=.ok (.str w) (A++[.CN x]):=by
 show bf (jk.1 [.sh (.at 0),.sh (.tup ts),.no,.no,.no] A)=_;unfold jk;have tz:∀A:Ab,BW 5 4 ["Known","NoPerson","NoRoom","NotIn","NotAsked","Barred","NoRight","NoRow","NoHand","NoLine"] (.exc (.str x) A) (λY A=>Gw 2 (lx (zK Y 4) A) Y)=.ok (.nx [.no,.no,.sh (.at A.length),.no,.no]) (A++[.CN x]):=λA=>by
  unfold BW TK;simp only[b,aP]
  rfl
 have t1:aJ 5 (A++[Ao.CN x]) (.at A.length)=.yN x:=by simp only[aJ,jV]
 have L:LH (.yN x) .bL=.ok (.bl false):=rfl;simp only[ev,bw,bT,bZ,aQ,aR,q,tz,t1,L,hw]
def jn(ts:List Tr)(A:Ab):Rz Tr:=(fQ [.at 0,.tup ts] A).bind λu A=>match u with
 |.str _=>.ok (.bl true) A
 |.bL=>(cP [.at 4,.tup ts] A).bind λ_ A=>.ok (.bl true) A
 |.int _=>(cP [.at 4,.tup ts] A).bind λ_ A=>.ok (.bl true) A
 |_=>.bad
def FP(b:fQ [.at 0,.tup ts] A=.ok (.str w) A1):jn ts A=.ok (.bl true) A1:=by unfold jn;rw[b];rfl
def FQ(g:fQ [.at 0,.tup ts] A=.ok .bL b)(hd:cP [.at 4,.tup ts] b=.ok u A2):jn ts A=.ok (.bl true) A2:=by
 unfold jn;rw[g];show(cP [.at 4,.tup ts] b).bind (λ_ A=>Rz.ok (Tr.bl true) A)=_;rw[hd];rfl
def MQ(g:fQ [.at 0,.tup ts] A=.ok (.int n) b)(hd:cP [.at 4,.tup ts] b=.ok u A2):jn ts A=.ok (.bl true) A2:=by
 unfold jn;rw[g];show(cP [.at 4,.tup ts] b).bind (λ_ A=>Rz.ok (Tr.bl true) A)=_;rw[hd];rfl
def Kb(h:jn ts A=.ok (.bl true) A1):(∃w,fQ [.at 0,.tup ts] A=.ok (.str w) A1)\/∃u b v,(u=.bL\/∃n,u=.int n)/\fQ [.at 0,.tup ts] A=.ok u b/\cP [.at 4,.tup ts] b=.ok v A1:=by
 unfold jn at h;have L:∀{b:Ab},(cP [.at 4,.tup ts] b).bind (λ_ A=>Rz.ok (Tr.bl true) A)=.ok (.bl true) A1->∃v,cP [.at 4,.tup ts] b=.ok v A1:=λ{b} q=>by
  cases e:cP [.at 4,.tup ts] b with
  |ok v A=>rw[e]at q;cases q;exact⟨v,rfl⟩
  |_=>rw[e]at q;cases q
 cases e:fQ [.at 0,.tup ts] A with
 |exc _ _=>rw[e]at h;cases h
 |bad=>rw[e]at h;cases h
 |ok u b=>
  rw[e]at h;cases u with
  |str w=>cases h;exact .inl ⟨w,rfl⟩
  |bL=>obtain⟨v,q⟩:=L h;exact .inr ⟨_,_,v,.inl rfl,rfl,q⟩
  |int n=>obtain⟨v,q⟩:=L h;exact .inr ⟨_,_,v,.inr ⟨n,rfl⟩,rfl,q⟩
  |_=>cases h
structure Dat where
 rows:List Tr
 ar:List (Str×Str)
 ents:List (Str×Int)
 ent:Str->Int
 stays:List oS
 aH:List Str
 inv:List Str
 asked:List Str
 d:Str
 v:Str
 p:Str
 ks:Nat
 kb:Nat
 ka:Nat
abbrev six:List Str:=["ann","bo","cy","dee","ed","zed"]
def cH{z:Str}(h:z∈six):z.length<=1000:=(by decide:∀z∈six,z.length<=1000) z h
def gX(rows:List Tr):Prop:=∀t∈rows,∃us,t=.tup us/\us.all qY=true/\us.length<=10
def gX.tu (h:gX rows):dz rows:=λt L=>by obtain⟨us,e,_⟩:=h t L;exact⟨us,e⟩
def gX.add {us:List Tr}(h:gX rows)(b:us.all qY=true)(g:us.length<=10):gX (rows++[.tup us]):=λt L=>by
 rcases cF.mp L with L|L
 .exact h t L
 .exact⟨us,cz.mp L,b,g⟩
def bF{n:Nat}(h:n<10000):n<cX:=dH h (by decide)
def oo{l:List (Str×α)}{a:α}:(dk l z a).length<=l.length+1:=by
 unfold dk;split
 .rw[aY];omega
 .rw[dI];exact aZ _
def fR.names (o:fR rows ar q b):b.map (·.1)=ar.map (·.1):=by
 cases o with
 |same _=>rfl
 |x9 z g _ _=>
  obtain⟨a,r,e,_⟩:=g.ex;exact uB (bV.mpr ⟨_,eQ e,rfl⟩)
theorem fR.len (o:fR rows ar b q):rows.length<=b.length/\b.length<=rows.length+1/\q.length=ar.length:=by
 have hn:q.length=ar.length:=by have:=cR List.length o.names;simpa using this
 cases o with
 |same _=>omega
 |x9 z g _ _=>rw[dI];exact⟨by omega,aZ _,hn⟩
theorem fR.gX (o:fR rows ar cf b)(h:gX rows):gX cf:=by
 cases o with
 |same _=>exact h
 |x9 z g _ _=>exact h.add rfl (by show 5<=10;decide)
def fR.ow {b:List (Str×Str)}(o:fR rows ar q b):b=[]\/∃p∈b,p.2="owner":=by
 cases o with
 |same h=>exact h
 |x9 z g _ _=>exact .inr ⟨(z,"owner"),f9 (by rw[om,ay rfl]),rfl⟩
def fR.seen (o:fR rows ar b q)(I:rows.length<999)(k:cC ar ents ent)(h:Seen rows ar v):Seen b q v:=by
 cases o with
 |same _=>exact h
 |x9 z g L _=>
  obtain⟨a,r,e,_⟩:=g.ex;exact h.add I (.role (.inl ⟨L,rfl,rfl⟩) (k.sh _ (eQ e)) (by decide))
def x'{b:List (Str×Str)}{ent:Str->Int}(o:fR rows ar g b)(h:∀p∈ar,ent p.1<rows.length+1):∀p∈b,ent p.1<g.length+1:=λp L=>by
 have:p.1∈ar.map (·.1):=by rw[<-o.names];exact jH L
 obtain⟨q,r,e⟩:=bV.mp this;have I:=h q r;have M:=o.len.1;rw[<-e];omega
structure Good(rows:List Tr)(ar:List (Str×Str))(ents:List (Str×Int))(ent:Str->Int)(stays:List oS)(aH inv asked:List Str):Prop where
 fr:gX rows
 rk:cC ar ents ent
 op:kN stays=ar.map (·.1)
 lt:∀p∈ar,ent p.1<rows.length+1
 ow:ar=[]\/∃p∈ar,p.2="owner"
 ia:∀z,inv.contains z=asked.contains z
 ns:∀z∈ar.map (·.1),z∈six
 bs:∀z∈aH,z∈six
 is:∀z∈inv,z∈six
 nd:inv.Nodup
theorem Good.row {us:List Tr}(g:Good rows ar ents ent stays aH inv asked)(b:us.all qY=true)(q:us.length<=10):Good (rows++[.tup us]) ar ents ent stays aH inv asked:=
 ⟨g.fr.add b q,g.rk,g.op,λp L=>by have:=g.lt p L;rw[dI];show ent p.1<((rows.length+1:Nat):Int)+1;omega,g.ow,g.ia,g.ns,g.bs,g.is,g.nd⟩
abbrev Kc(D:Dat):Prop:=Good D.rows D.ar D.ents D.ent D.stays D.aH D.inv D.asked
structure Bd(D:Dat)(t:Nat):Prop where
 b1:D.rows.length<=3+2*t
 b2:D.ar.length<=3+t
 b3:D.ents.length<=3+t
 b4:D.stays.length<=3+t
 b5:D.asked.length<=t
 b6:D.aH.length<=t
 b7:D.inv.length<=t
structure Pr(A:Ab)(i j:Nat)(D:Dat)(t:Nat):Prop where
 r:RA A i D.rows D.ar D.ents (yw D.d D.v D.p) D.aH D.inv
 m:aT A j D.ks D.kb D.ka D.rows D.ar D.stays D.aH D.asked D.d D.v D.p
 g:Kc D
 b:Bd D t
 dj:∀k∈jS j D.ks D.kb D.ka,6<k/\(k<i\/i+6<k)
 hi:6<i
 se:Seen D.rows D.ar D.v
def Kept(A:Ab)(D D':Dat):Prop:=∀k∈[D'.ks,D'.kb,D'.ka],k∈[D.ks,D.kb,D.ka]\/A.length<=k
abbrev touched(i j:Nat)(D:Dat):List Nat:=iS i++jS j D.ks D.kb D.ka
def Res(A:Ab)(i j:Nat)(D:Dat)(t:Nat)(ts:List Tr):Prop:=∃A' D',jn ts A=.ok (.bl true) A'/\dX A A' (touched i j D)/\Pr A' i j D' (t+1)/\Kept A D D'
noncomputable abbrev Qx:List (Str×Str):=[("Known","known"),("NoPerson","no person"),("NotIn","not in"),("NotAsked","not asked"),("Barred","barred"),("NoRight","no right"),("NoRow","no row")]
def Kd{w:Str}(h:(aw,w)∈Qx):(["Known","NoPerson","NoRoom","NotIn","NotAsked","Barred","NoRight","NoRow","NoHand","NoLine"]:List Str).contains aw=true/\xY [.yN aw]=.ok (.str w):=by
 simp only[a_,dr,dt,Prod.mk.injEq]at h;rcases h with⟨rfl,rfl⟩|⟨rfl,rfl⟩|⟨rfl,rfl⟩|⟨rfl,rfl⟩|⟨rfl,rfl⟩|⟨rfl,rfl⟩|⟨rfl,rfl⟩<;>exact⟨by decide,rfl⟩
def Bd.more (b:Bd D t):Bd D (t+1):=by obtain⟨L,h2,g,q,r,I,M⟩:=b;exact⟨by omega,by omega,by omega,by omega,by omega,by omega,by omega⟩
theorem Pr.kp {S:List Nat}(P:Pr A i j D t)(e:dX A A' S)(q:∀k∈S,(k<i\/i+6<k)/\k∉jS j D.ks D.kb D.ka):Pr A' i j D (t+1):=
 ⟨aW.kp P.r e λk L=>(q k L).1,aT.kp P.m e λk L h=>(q k h).2 L,P.g,P.b.more,P.dj,P.hi,P.se⟩
def s_same(P:Pr A i j D t)(h:jn ts A=.ok (.bl true) (A++[.CN x])):Res A i j D t ts:=
 ⟨_,D,h,dX.push,P.kp (dX.push (S:=[])) λ_ h=>(nomatch h),λ_ h=>.inl h⟩
theorem Mq:∀{cs:List (Bool×Str×Str)},(∀c∈cs,c.1=false)\/∃c∈cs,fW cs=.str c.2.2/\fX A X cs=.exc (.str c.2.1) A
 |[]=>.inl λc h=>nomatch h
 |(true,x,w)::cs=>.inr ⟨_,cJ ..,rfl,rfl⟩
 |(false,x,w)::cs=>by
  rcases Mq (cs:=cs)with h|⟨c,h,h2⟩
  .exact .inl λc L=>by
    rcases a_.mp L with rfl|L
    .rfl
    .exact h c L
  .exact .inr ⟨c,cw _ h,h2⟩
def iG{cs:List (Bool×Str×Str)}(P:Pr A i j D t)(b:cj [.at 0,.tup ts] A=fX A X cs)(he:∀c∈cs,c.2∈Qx)(g:(∀c∈cs,c.1=false)->Res A i j D t ts):Res A i j D t ts:=by
 rcases Mq (A:=A) (X:=X) (cs:=cs)with h|⟨c,h,h1,h2⟩
 .exact g h
 .obtain⟨L,q⟩:=Kd (he c h);rw[h2]at b;exact s_same P (FP (FO b L q))
def Pr.XN {j:Nat}{D':Dat}(P:Pr A i j D t)(kp:Kept A D D'):∀k∈jS j D'.ks D'.kb D'.ka,6<k/\(k<i\/i+6<k):=λk L=>by
 have l:=fh P.r.iv;have b:=P.hi;have q:∀k,k∈[D'.ks,D'.kb,D'.ka]->6<k/\(k<i\/i+6<k):=λk L=>by
  rcases kp k L with h|h
  .exact P.dj k (cw _ (cw _ (cw _ h)))
  .omega
 rcases a_.mp L with rfl|L
 .exact P.dj _ (by simp)
 rcases a_.mp L with rfl|L
 .exact P.dj _ (by simp)
 rcases a_.mp L with rfl|L
 .exact P.dj _ (by simp)
 exact q k L
def CH{D':Dat}(P:Pr A i j D t)(M:c_ A bB d4)(S:∀q r,cj [.at 0,.tup ts] A=.ok v q->cP [.at 4,.tup ts] q=.ok u r->jn ts A=.ok (.bl true) r)
  (pr:∃q,cj [.at 0,.tup ts] A=.ok v q/\dX A q (iS i)/\RA q i D'.rows D'.ar D'.ents (yw D'.d D'.v D'.p) D'.aH D'.inv)
  (md:∀q,c_ q bB d4->aT q j D.ks D.kb D.ka D.rows D.ar D.stays D.aH D.asked D.d D.v D.p->∃r ks kb ka,cP [.at 4,.tup ts] q=.ok u r/\dX q r (jS j D.ks D.kb D.ka)/\aT r j ks kb ka D'.rows D'.ar D'.stays D'.aH D'.asked D'.d D'.v D'.p/\∀k∈[ks,kb,ka],k∈[D.ks,D.kb,D.ka]\/q.length<=k)
  (g:Kc D') (b:Bd D' (t+1)) (se:Seen D'.rows D'.ar D'.v):Res A i j D t ts:=by
 obtain⟨q,q1,t1,r1⟩:=pr;have h6:=P.hi;have m1:=aT.kp P.m t1 λk L h=>by
  have:=P.dj k L;simp only[a_,dr,dt]at h;omega
 obtain⟨r,ks,kb,ka,q2,I,m2,k2⟩:=md q (c_.kp M t1 λk L=>by simp only[a_,dr,dt]at L;omega) m1;have l:=t1.le;have k0:Kept A D {D' with ks:=ks,kb:=kb,ka:=ka}:=λk L=>(k2 k L).imp id λh=>by omega
 exact⟨r,{D' with ks:=ks,kb:=kb,ka:=ka},S q r q1 q2,(t1.sub λk L=>cF.mpr (.inl L)).trans (I.sub λk L=>cF.mpr (.inr L)),⟨aW.kp r1 I λk L=>(P.dj k L).2,m2,g,⟨b.b1,b.b2,b.b3,b.b4,b.b5,b.b6,b.b7⟩,P.XN k0,P.hi,se⟩,k0⟩
def jf{D':Dat}(P:Pr A i j D t)(I:c_ A bB d4)(pr:∃q,cj [.at 0,.tup ts] A=.ok .bL q/\dX A q (iS i)/\RA q i D'.rows D'.ar D'.ents (yw D'.d D'.v D'.p) D'.aH D'.inv)
  (M:∀q,c_ q bB d4->aT q j D.ks D.kb D.ka D.rows D.ar D.stays D.aH D.asked D.d D.v D.p->∃r ks kb ka,cP [.at 4,.tup ts] q=.ok .bL r/\dX q r (jS j D.ks D.kb D.ka)/\aT r j ks kb ka D'.rows D'.ar D'.stays D'.aH D'.asked D'.d D'.v D'.p/\∀k∈[ks,kb,ka],k∈[D.ks,D.kb,D.ka]\/q.length<=k)
  (g:Kc D') (b:Bd D' (t+1)) (S:Seen D'.rows D'.ar D'.v):Res A i j D t ts:=CH P I (λ_ _ L h2=>FQ (Ka L) h2) pr M g b S
theorem p8(hw:d6="arrange"\/d6="ask"\/d6="role"\/d6="out"\/d6="bar"\/d6="unbar"\/d6="mend"\/d6="take_back")(m:c_ A bB d4)(b:d4.lookup c8=some j)(g:dU [.at j,.tup (.str d6:: .str aw:: .str c8::rows)] A=.ok .bL q)(r:kg [.at j] q=.ok .bL A2)
  (sl:fZ (.ok (.tup (.str d6:: .str aw:: .str c8::rows))) (.ok none) (m9 (.ok (.int 2)))=.ok (.tup [.str d6,.str aw])):cP [.at 4,.tup (.str d6:: .str aw:: .str c8::rows)] A=.ok .bL A2:=by
 show bf (fy.1 [.sh (.at 4),.sh (.tup (.str d6:: .str aw:: .str c8::rows)),.no,.no,.no] A)=_;unfold fy;have L:(d6==Str.ofString "come")=false/\(d6==Str.ofString "found")=false/\(d6==Str.ofString "say")=false/\(d6==Str.ofString "enter")=false/\(d6==Str.ofString "leave")=false:=by rcases hw with rfl|rfl|rfl|rfl|rfl|rfl|rfl|rfl<;>decide
 simp only[ev,bw,bT,bZ,hJ,sl,qi,KA,L,f_,m.Mv,um m.rs,dv,b,cA,kc,aQ,aR,g,r]
def oq{ks kb ka:Nat}{p:Str}(h:aT A j ks kb ka rows ar stays aH asked d v p)(f:dz rows)(k:cC ar ents ent)(b:kN stays=ar.map (·.1))(ow:ar=[]\/∃p∈ar,p.2="owner")(g:rows.length<cX)(hs:stays.length<=cX)(r:ar.length<cX):
  ∃A',kg [.at j] A=.ok .bL A'/\(∀ks kb ka,dX A A' (jS j ks kb ka))/\aT A' j ks kb ka rows ar stays aH asked d v p:=by
 obtain⟨A',L,l7,q,o,x,m⟩:=uD h f k b g hs r;obtain⟨rfl,rfl⟩:=o.one (.same ow);exact⟨A',q,λ_ _ _=>dX.of x (by simp),m⟩
def zr{n ks kb ka:Nat}:∀k∈[ks,kb,ka],k∈[ks,kb,ka]\/n<=k:=λ_ h=>.inl h
abbrev Dr(D:Dat)(aw c9:Str)(ps:List Tr):Dat:={D with rows:=D.rows++[d7 D.rows aw c9 ps]}
def fS{l:List α}{a:α}:(l++[a]).length=l.length+1:=by rw[dI];rfl
def Ke:(sf l z).contains y=(l++[z]).contains y:=by
 unfold sf;split
 .rename_i h;rw[kj,ck,ck,cF];refine⟨.inl,λq=>?_⟩;rcases q with q|q
  .exact q
  .rw[cz.mp q];exact ck.mp h
 .rfl
def Qy(h:aw∈sf l z):aw∈l\/aw=z:=by
 have:=Ke▸ck.mpr h;rcases cF.mp (ck.mp this)with h|h
 .exact .inl h
 .exact .inr (cz.mp h)
def Qz{l:List Str}(h:l.Nodup):(sf l z).Nodup:=by
 unfold sf;split
 .exact h
 .rename_i q;refine wB.mpr ⟨h,List.pairwise_singleton _ _,λa L b hb e=>q ?_⟩;rw[cz.mp hb]at e;exact ck.mpr (e▸L)
def QC:(sf l z).length<=l.length+1:=by
 unfold sf;split
 .omega
 .rw[fS];exact aZ _
theorem u9{n:Int}:∀{stays:List oS},kN (stays.map (fA aw n))=(kN stays).filter λz=>!(z==aw)
 |[]=>rfl
 |s::stays=>by
  obtain⟨a,b,c,e⟩:=s;have L:=u9 (n:=n) (stays:=stays);unfold kN at L⊢;rw[aX];cases e with
  |some m=>
   have:fA aw n (a,b,c,some m)=(a,b,c,some m):=by simp[fA]
   rwa[this,jG (by simp),jG (by simp)]
  |none=>
   rw[kU (a:=(a,b,c,none)) (by rfl),aX];by_cases q:a=aw
   .subst q;have:fA a n (a,b,c,none)=(a,b,c,some n):=by simp[fA]
    rwa[this,jG (by simp),jG (by simp)]
   .have:fA aw n (a,b,c,none)=(a,b,c,none):=by simp[fA,q]
    rw[this,kU (by rfl),aX,kU (by simpa using q),L]
def sg:(eK ar aw).map (·.1)=(ar.map (·.1)).filter λz=>!(z==aw):=by
 unfold eK;rw[o8];congr 1;refine sM λq _=>?_
 show decide (q.1≠aw)=!(q.1==aw);by_cases h:q.1=aw<;>simp[h]
def Good.drop (g:Good rows ar ents ent stays aH inv asked)(h:fi ar d6<fi ar aw):Good rows (eK ar d6) ents ent (stays.map (fA d6 n)) aH inv asked:=by
 have sub:∀p∈eK ar d6,p∈ar:=λp L=>(eR.mp L).1;refine⟨g.fr,g.rk.leave,by rw[u9,g.op,sg],λp L=>g.lt p (sub p L),.inr ?_,g.ia,λz b=>?_,g.bs,g.is,g.nd⟩
 .rcases g.ow with h0|⟨p,L,e⟩
  .rw[h0]at h;exact absurd h (by show¬(-1:Int)< -1;decide)
  .refine⟨p,eR.mpr ⟨L,dA λq=>?_⟩,e⟩;have r:=iF (iE g.rk.nd p L);rw[q,e]at r;have I:fi ar aw<=3:=by
    unfold fi;split
    .exact(x_ _).2
    .decide
   have M:lvl "owner"=3:=by decide
   omega
 .obtain⟨p,L,rfl⟩:=bV.mp b;exact g.ns _ (jH (sub p L))
def Up{aw val:Str}(h:RA A i rows ar ents b bn iv)(tu:dz rows)(k:cC ar ents ent)(hw:aw.length<=1000)(g:rows.length<cX)(r:b.length<cX):
  kL [.at i,.str aw,.str fk,.str val] A=fX A (.ok .bL ((A.set (i+1) (kP rows aw "set" [.str fk,.str val])).set (i+4) (.bh (dP .str (dk b fk val))))) [((ar.lookup aw).isNone,"NotIn","not in"),(decide (fi ar aw<2),"NoRight","no right")]:=by
 show bf (iB.1 [.sh (.at i),.sh (.str aw),.sh (.str fk),.sh (.str val)] A)=_;unfold iB;simp only[ev,bw,bT,bZ,h.call (m:="need_in") rfl,kO h tu hw];refine qT (λq=>by simp only[q,aP,ev]) λq=>?_
 simp only[q,bP,bq,ev,bw,bT,bZ,h.call (m:="need_keeper") rfl,JY h tu k hw q];refine qT (λq=>by simp only[q,aP,ev]) λq=>?_
 have w:=iD (aw:=aw) (c9:="set") (ps:=[.str fk,.str val]) h (de tu) g (by show 3+2<=cX;decide) rfl;have h1:=h.l6 (Ext.put (o:=kP rows aw "set" [.str fk,.str val]) h.lg);have ep:=gR (z:=fk) (t:=.str val) (Y:=[.sh (.at i),.sh (.str aw),.sh (.str fk),.sh (.str val)]) h1.ch (by rwa[gq]);rw[gS]at ep;simp only[q,bP,bq,ev,bw,bT,bZ,h.call (m:="write_row") rfl,qi,w,fO,h1.Mq,ep,fX]
def Uq{aw val:Str}(g:bz A aA b8)(hi:b8.lookup c8=some i)(h:RA A i rows ar ents I bn iv)(hw:aw.length<=1000)(q:kL [.at i,.str aw,.str fk,.str val] A=fX A (.ok .bL r) cs):
  cj [.at 0,.tup [.str "arrange",.str aw,.str c8,.str fk,.str val]] A=fX A (.ok .bL r) ((!(aA.lookup aw).isSome,"NoPerson","no person")::cs):=by
 show bf (bR.1 [.sh (.at 0),.sh (.tup [.str "arrange",.str aw,.str c8,.str fk,.str val]),.no] A)=_;unfold bR;simp only[ev,bw,bT,bZ,hJ,aQ,aR,sn,String.reduceBEq,aU,g.call (m:="arrange") rfl,Hk];show bf (iC.1 [.sh (.at 0),.sh (.str aw),.sh (.str c8),.sh (.str fk),.sh (.str val)] A)=_;unfold iC;simp only[ev,bw,bT,bZ,g.call (m:="place_for") rfl,(qi (b:=aw)).1,iZ g hw hi];cases(aA.lookup aw).isSome with
 |false=>rfl
 |true=>simp only[aP,ev,bw,bT,bZ,h.call (m:="arrange") rfl,q,NS];rfl
def NX{val:Str}(h:aT A j ks kb ka rows aO stays aH asked d v p)(f:dz rows)(g:rows.length<cX)(hw:d6="door"\/d6="voice"\/d6="past"):
  ∃A' d' v' b,dU [.at j,.tup [.str "arrange",.str aw,.str c8,.str d6,.str val]] A=.ok .bL A'/\dX A A' (jS j ks kb ka)/\aT A' j ks kb ka (rows++[d7 rows aw "set" [.str d6,.str val]]) aO stays aH asked d' v' b/\dk (yw d v p) d6 val=yw d' v' b/\b=(if NW "set" d6 then val else p):=by
 have h0:=h.ext (Ext.push (o:=.bh uF)) λ_ _=>rfl;have w:=jA (aw:=aw) (ps:=[.str "set",.str d6,.str val]) h0 f g (by show 2+3<=cX;decide) rfl;have h1:=h0.uU (Ext.put (o:=.lst (rows++[d7 rows aw "set" [.str d6,.str val]])) h0.rw);have t1:=(dX.push (A:=A) (o:=.bh uF) (S:=jS j ks kb ka)).trans (dX.put (o:=(.lst (rows++[d7 rows aw "set" [.str d6,.str val]]))) h0.rw (by simp));obtain⟨d',v',b,L,q,r⟩:∃d' v' b,dk (yr j ks kb ka d v p) d6 (.str val)=yr j ks kb ka d' v' b/\dk (yw d v p) d6 val=yw d' v' b/\b=(if NW "set" d6 then val else p):=by
  rcases hw with rfl|rfl|rfl
  .exact⟨val,v,p,rfl,rfl,rfl⟩
  .exact⟨d,val,p,rfl,rfl,rfl⟩
  .exact⟨d,v,val,rfl,rfl,rfl⟩
 refine⟨_,d',v',b,?_,t1.trans (dX.put h1.o (by simp)),h1.e_o (Ext.put h1.o),q,r⟩;show bf (bU.1 [.sh (.at j),.sh (.tup [.str "arrange",.str aw,.str c8,.str d6,.str val]),.no,.no,.no,.no] A)=_;unfold bU;have s1:fZ (.ok (.tup [.str "arrange",.str aw,.str c8,.str d6,.str val])) (.ok none) (m9 (.ok (.int 2)))=.ok (.tup [.str "arrange",.str aw]):=rfl;have s2:fZ (.ok (.tup [.str "arrange",.str aw,.str c8,.str d6,.str val])) (m9 (.ok (.int 3))) (.ok none)=.ok (.tup [.str d6,.str val]):=rfl;have s3:pI (.ok (.bh uF)) (.ok (.str "arrange")) (.ok (.str "arrange"))=.ok (.str "set"):=rfl;have s4:oP (.tup [.str "set"]) (.tup [.str d6,.str val])=.ok (.tup [.str "set",.str d6,.str val]):=rfl;have s5:∀A,lU (.ok (.tup [.str "set",.str d6,.str val])) A=.ok (.tup [.str "set",.str d6,.str val]) A:=λ_=>rfl;have I:yW (.str "arrange") (.tup [.str "out",.str "bar"])=.ok (.bl false):=rfl;simp only[ev,bw,bT,bZ,hJ,s1,qi,KA,NU,NV,aQ,aR,s2,s3,s4,s5,w,sn,String.reduceBEq,aU,fO,h1.Y0 L,I]
theorem Ur{fk val:Str}(P:Pr A i j D t)(hH:bz A aA b8)(hM:c_ A bB d4)(hi:b8.lookup c8=some i)(hj:d4.lookup c8=some j)(h6:aw∈six)(hw:fk="door"\/fk="voice"\/fk="past")(hz:fk="voice"->val="all"\/val="some")(ht:t<=400):Res A i j D t [.str "arrange",.str aw,.str c8,.str fk,.str val]:=by
 have tu:=P.g.fr.tu;have hs:=cH h6;have b1:=P.b.b1;have b2:=P.b.b2;have b3:=P.b.b3;have b4:=P.b.b4;have b5:=P.b.b5;have b6:=P.b.b6;have b7:=P.b.b7;have hc:=Uq (c8:=c8) hH hi P.r hs (Up (aw:=aw) (fk:=fk) (val:=val) P.r tu P.g.rk hs (bF (by omega)) (by show 3<cX;decide));refine iG P hc (by simp) λall=>?_
 obtain⟨_,d',v',I,_,_,_,M,ep⟩:=NX (aw:=aw) (c8:=c8) (val:=val) P.m tu (bF (by omega)) hw;have g:=P.g.row (us:=[.int (D.rows.length+1),.str aw,.str "set",.str fk,.str val]) rfl (by show 5<=10;decide);have S:v'=if fk="voice"then val else D.v:=by
  have q:=cR (List.lookup (Str.ofString "voice")) M;rw[om]at q;have q:(if Str.ofString "voice"=fk then some val else some D.v)=some v':=q;rcases hw with rfl|rfl|rfl
  .rw[aE (by decide)]at q;rw[aE (by decide)];cases q;rfl
  .rw[ay rfl]at q;rw[ay rfl];cases q;rfl
  .rw[aE (by decide)]at q;rw[aE (by decide)];cases q;rfl
 refine jf (D':={Dr D aw "set" [.str fk,.str val]with d:=d',v:=v',p:=I}) P hM ⟨_,hc.trans (yv all),?_,?_⟩ (λA1 yy m=>?_) g ⟨by show(D.rows++[_]).length<=_;rw[fS];omega,by show D.ar.length<=_;omega,by show D.ents.length<=_;omega,by show D.stays.length<=_;omega,by show D.asked.length<=_;omega,by show D.aH.length<=_;omega,by show D.inv.length<=_;omega⟩ (by
   have q:=P.se.add (z:=aw) (by omega) (.set (a:=fk) (b:=val) (by have:=all (decide (fi D.ar aw<2),"NoRight","no right") (by simp);simp only[gz]at this;omega) hz);have e:v'=if fk="voice"then val else D.v:=S
   rwa[e])
 .have L:=P.r.l6 (Ext.put (o:=kP D.rows aw "set" [.str fk,.str val]) P.r.lg);exact(dX.put P.r.lg (by simp)).trans (dX.put L.ch (by simp))
 .have L:=P.r.l6 (Ext.put (o:=kP D.rows aw "set" [.str fk,.str val]) P.r.lg);have q:=L.Xk (Ext.put (o:=.bh (dP .str (dk (yw D.d D.v D.p) fk val))) L.ch);have Y7:dP Tr.str (dk (yw D.d D.v D.p) fk val)=dP Tr.str (yw d' v' I):=by rw[M]
  rw[Y7]at q;rwa[Y7]
 .obtain⟨A2,d2,v2,p2,q1,t1,m1,ec2,_⟩:=NX (aw:=aw) (c8:=c8) (val:=val) m tu (bF (by omega)) hw;have e3:yw d' v' I=yw d2 v2 p2:=M.symm.trans ec2;simp only[List.cons.injEq,Prod.mk.injEq,true_and,and_true]at e3;obtain⟨rfl,rfl,rfl⟩:=e3;obtain⟨A3,q2,t2,m2⟩:=oq m1 g.fr.tu P.g.rk P.g.op P.g.ow (by rw[fS];exact bF (by omega)) (cG (bF (by omega))) (bF (by omega));exact⟨A3,_,_,_,p8 (.inl rfl) yy hj q1 q2 rfl,t1.trans (t2 _ _ _),m2,zr⟩
noncomputable def NY(a b c:Int):Bool:=decide (a<2)||((a==2)&&(decide (1<b)||decide (1<c)))
def Kf{role:Str}(h:RA A i rows ar ents S bn iv)(tu:dz rows)(k:cC ar ents ent)(I:role∈eN)(q:(ar.lookup aw).isNone=false)(M:(ar.lookup d6).isNone=false):oC [aJ 5 A (.at i),.str aw,.str d6,.str role]=.ok (.bl (!NY (fi ar aw) (fi ar d6) (lvl role))):=by
 obtain⟨r,L⟩:=uE q;obtain⟨s,hs⟩:=uE M;show eI (gE.1 [.sh (aJ 5 A (.at i)),.sh (.str aw),.sh (.str d6),.sh (.str role)])=_;unfold gE;have l1:vY [.str "speaker"]=.ok (.int 1):=j_ (by decide);have e:=Qs (k.lk L);simp only[ev,bw,h.oR (de tu),dv,L,hs,cA,kc,e.1,e.2,j_ (k.lk L),j_ (k.lk hs),j_ I,l1,FL];rw[iF L,iF hs];have b:=x_ r;unfold NY;by_cases g:lvl r=2
 .simp only[g,decide_true,ev];congr 2;rw[kj];simp only[jJ,oZ,hV,sG,gz];constructor
  .intro q;refine⟨by decide,.inr ?_⟩;split at q<;>omega
  .intro q;have:¬(1<lvl s)/\¬(1<lvl role):=q.2.resolve_left (by simp);split<;>omega
 .simp only[g,decide_false,ev,bw,h.oR (de tu),dv,L,cA,kc,e.1];congr 2;rw[kj];simp only[jJ,oZ,hV,sG,gz,gB];constructor
  .intro q;exact⟨by omega,.inl g⟩
  .intro q;omega
abbrev Y8(ar:List (Str×Str))(aw d6 role:Str):List (Bool×Str×Str):=[((ar.lookup aw).isNone,"NotIn","not in"),((ar.lookup d6).isNone,"NotIn","not in"),(NY (fi ar aw) (fi ar d6) (lvl role),"NoRight","no right"),(ar.lookup d6==some role,"Known","known")]
def MR{role:Str}(h:RA A i rows ar ents me bn iv)(tu:dz rows)(k:cC ar ents ent)(hw:aw.length<=1000)(r:d6.length<=1000)(I:role∈eN):fP [.at i,.str aw,.str d6,.str role] A=fX A (fP [.at i,.str aw,.str d6,.str role] A) (Y8 ar aw d6 role):=by
 have Y9:role.length<=1000:=(by decide:∀z∈eN,z.length<=1000) role I;refine qT (λq=>?_) λq=>qT (λg=>?_) λg=>qT (λM=>?_) λM=>qT (λq4=>?_) λ_=>rfl
 all_goals
  show bf (g9.1 [.sh (.at i),.sh (.str aw),.sh (.str d6),.sh (.str role)] A)=_;unfold g9;simp only[ev,bw,bT,bZ,h.call (m:="need_in") rfl,kO h tu hw,q,aP,bP,bq]
 .simp only[ev,bw,bT,bZ,h.call (m:="need_in") rfl,kO h tu r,g,aP]
 .obtain⟨w,S⟩:=jC (z:=aw) (acc:=Str.empty) (n:=0) (k:=λacc=>eP (.ok (.str " may not make ")) (λacc=>eP (.ok (.str d6)) (λacc=>eP (.ok (.str " a ")) (λacc=>eP (.ok (.str role)) (λacc=>pN acc) acc) acc) acc) acc) (aZ 0) hw (by decide) λa L=>jC L (by decide) (by decide) λa L=>jC L r (by decide) λa L=>jC L (by decide) (by decide) λa L=>jC L Y9 (by decide) λa L=>jN (by omega);have tr:∀b,lR (.bl b)=.ok b:=λ_=>rfl;simp only[ev,bw,bT,bZ,h.call (m:="need_in") rfl,kO h tu r,g,bP,bq,h.gn (n:=4) (m:="may_give") rfl,Kf h tu k I q g,M,dM,dJ,tr,S]
 .obtain⟨s,hs⟩:=uE g;have es:s=role:=by rw[hs]at q4;simpa using q4
  subst es;obtain⟨w,S⟩:=jC (z:=d6) (acc:=Str.empty) (n:=0) (k:=λacc=>eP (.ok (.str " is a ")) (λacc=>eP (.ok (.str s)) (λacc=>pN acc) acc) acc) (aZ 0) r (by decide) λa L=>jC L (by decide) (by decide) λa L=>jC L Y9 (by decide) λa L=>jN (by omega);have tr:∀b,lR (.bl b)=.ok b:=λ_=>rfl;simp only[ev,bw,bT,bZ,h.call (m:="need_in") rfl,kO h tu r,g,bP,bq,h.gn (n:=4) (m:="may_give") rfl,Kf h tu k I q g,M,dM,dJ,tr,h.oR (de tu),dv,hs,wu,cA,kc,aU,S]
def QH{aw d6 role:Str}(h:RA A i rows ar ents S bn iv)(tu:dz rows)(k:cC ar ents ent)(hw:aw.length<=1000)(hv:d6.length<=1000)(I:role∈eN)(hl:rows.length+1<cX)(hk:ar.length+1<cX)(all:∀c∈Y8 ar aw d6 role,c.1=false):
  ∃A' g r,fP [.at i,.str aw,.str d6,.str role] A=.ok .bL A'/\fR (rows++[d7 rows aw "role" [.str d6,.str role]]) (dk ar d6 role) g r/\dX A A' (iS i)/\RA A' i g r ents S bn iv:=by
 have q:(ar.lookup aw).isNone=false:=all ((ar.lookup aw).isNone,"NotIn","not in") (by simp);have L:(ar.lookup d6).isNone=false:=all ((ar.lookup d6).isNone,"NotIn","not in") (by simp);have q3:NY (fi ar aw) (fi ar d6) (lvl role)=false:=all (NY (fi ar aw) (fi ar d6) (lvl role),"NoRight","no right") (by simp);have M:(ar.lookup d6==some role)=false:=all (ar.lookup d6==some role,"Known","known") (by simp);obtain⟨s,hs⟩:=uE L;have es:(s==role)=false:=by rw[hs]at M;simpa using M
 obtain⟨A1,g1,g2,g3⟩:=JN (aw:=aw) (d6:=d6) (role:=role) h (de tu) (by omega) (by rw[gq];omega);rw[gS]at g2 g3;have pl:=oo (l:=ar) (z:=d6) (a:=role);obtain⟨A2,g,r,s1,s2,s3,s4⟩:=JO g3 (de (mX tu)) (k.role (bV.mpr ⟨_,f9 hs,rfl⟩) I) (by rw[fS];omega) (by omega);refine⟨A2,g,r,?_,s2,(dX.of g2 (by simp)).trans (dX.of s3 (by simp)),s4⟩;show bf (g9.1 [.sh (.at i),.sh (.str aw),.sh (.str d6),.sh (.str role)] A)=_;unfold g9;have tr:∀b,lR (.bl b)=.ok b:=λ_=>rfl;simp only[ev,bw,bT,bZ,h.call (m:="need_in") rfl,kO h tu hw,kO h tu hv,q,L,bP,bq,h.gn (n:=4) (m:="may_give") rfl,Kf h tu k I q L,q3,dM,dJ,tr,h.oR (de tu),dv,hs,wu,cA,kc,es,h.call (m:="give_role") rfl,g1,g3.call (m:="see_to_owner") rfl,s1]
theorem Y_:∀{cs:List (Bool×Str×Str)},bf (oy (fX A b cs) Y)=fX A (bf (oy b Y)) cs
 |[]=>rfl
 |(true,_,_)::cs=>rfl
 |(false,_,_)::cs=>Y_ (cs:=cs)
def QK(b:bz A aA b8)(hi:b8.lookup c8=some i)(h:RA A i rows ar ents r bn iv)(hw:aw.length<=1000)(g:d6.length<=1000)(q:fP [.at i,.str aw,.str d6,.str role] A=fX A (fP [.at i,.str aw,.str d6,.str role] A) cs):
  cj [.at 0,.tup [.str "role",.str aw,.str c8,.str d6,.str role]] A=fX A (bf (oy (fP [.at i,.str aw,.str d6,.str role] A) [.sh (.at 0),.sh (.str aw),.sh (.str c8),.sh (.str d6),.sh (.str role)])) ((!((aA.lookup aw).isSome&&(aA.lookup d6).isSome),"NoPerson","no person")::cs):=by
 show bf (bR.1 [.sh (.at 0),.sh (.tup [.str "role",.str aw,.str c8,.str d6,.str role]),.no] A)=_;unfold bR;simp only[ev,bw,bT,bZ,hJ,aQ,aR,sn,String.reduceBEq,aU,b.call (m:="role") rfl,Hk];show bf (lI.1 [.sh (.at 0),.sh (.str aw),.sh (.str c8),.sh (.str d6),.sh (.str role)] A)=_;unfold lI;simp only[ev,bw,bT,bZ,b.call (m:="place_for") rfl,qi,jl b hw g hi];cases((aA.lookup aw).isSome&&(aA.lookup d6).isSome)with
 |false=>rfl
 |true=>
  simp only[aP,ev,bw,bT,bZ,h.call (m:="role") rfl];exact(cR (λσ=>bf (oy σ _)) q).trans Y_
def QL(h:aT A j ks kb ka rows aO stays aH asked d v p)(f:dz rows)(b:rows.length<cX)(g:aO.length<cX):
  ∃A',dU [.at j,.tup [.str "role",.str aw,.str c8,.str d6,.str role]] A=.ok .bL A'/\dX A A' (jS j ks kb ka)/\aT A' j ks kb ka (rows++[d7 rows aw "role" [.str d6,.str role]]) (dk aO d6 role) stays aH asked d v p:=by
 have h0:=h.ext (Ext.push (o:=.bh uF)) λ_ _=>rfl;have w:=jA (aw:=aw) (ps:=[.str "role",.str d6,.str role]) h0 f b (by show 2+3<=cX;decide) rfl;have h1:=h0.uU (Ext.put (o:=.lst (rows++[d7 rows aw "role" [.str d6,.str role]])) h0.rw);have t1:=(dX.push (A:=A) (o:=.bh uF) (S:=jS j ks kb ka)).trans (dX.put (o:=.lst (rows++[d7 rows aw "role" [.str d6,.str role]])) h0.rw (by simp));refine⟨_,?_,t1.trans (dX.put (o:=.bh (dP .str (dk aO d6 role))) h1.rl (by simp)),h1.Mu (Ext.put h1.rl)⟩;show bf (bU.1 [.sh (.at j),.sh (.tup [.str "role",.str aw,.str c8,.str d6,.str role]),.no,.no,.no,.no] A)=_;unfold bU;have s1:fZ (.ok (.tup [.str "role",.str aw,.str c8,.str d6,.str role])) (.ok none) (m9 (.ok (.int 2)))=.ok (.tup [.str "role",.str aw]):=rfl;have s2:fZ (.ok (.tup [.str "role",.str aw,.str c8,.str d6,.str role])) (m9 (.ok (.int 3))) (.ok none)=.ok (.tup [.str d6,.str role]):=rfl;have s3:pI (.ok (.bh uF)) (.ok (.str "role")) (.ok (.str "role"))=.ok (.str "role"):=rfl;have s4:oP (.tup [.str "role"]) (.tup [.str d6,.str role])=.ok (.tup [.str "role",.str d6,.str role]):=rfl;have s5:∀A,lU (.ok (.tup [.str "role",.str d6,.str role])) A=.ok (.tup [.str "role",.str d6,.str role]) A:=λ_=>rfl;have L:yW (.str "role") (.tup [.str "out",.str "bar"])=.ok (.bl false):=rfl;have ep:=gR (z:=d6) (t:=.str role) (Y:=[.sh (.at j),.sh (.tup [.str "role",.str aw,.str c8,.str d6,.str role]),.sh (.str "role"),.sh (.str aw),.sh (.at A.length),.sh (.int (rows.length+1))]) h1.rl (by rwa[gq]);rw[gS]at ep;simp only[ev,bw,bT,bZ,hJ,s1,qi,KA,NU,NV,aQ,aR,s2,s3,s4,s5,w,sn,String.reduceBEq,aU,fO,f_,h1.Mt,ep,L]
def Us{role:Str}(_:∀p∈ar,p.2∈eN)(g:role∈eN)(h:NY (fi ar aw) b (lvl role)=false):2<fi ar aw\/fi ar aw=2/\(role="guest"\/role="speaker"):=by
 unfold NY at h;simp only[hV,sG,gz,gB]at h;obtain⟨L,h2⟩:=h;rcases h2 with h2|h2
 .exact .inl (by omega)
 .by_cases e:fi ar aw=2
  .refine .inr ⟨e,?_⟩;have:role="guest"\/role="speaker"\/role="keeper"\/role="owner":=by simpa using g
   rcases this with rfl|rfl|rfl|rfl
   .exact .inl rfl
   .exact .inr rfl
   .exact absurd (by decide:(1:Int)<lvl "keeper") h2.2
   .exact absurd (by decide:(1:Int)<lvl "owner") h2.2
  .exact .inl (by omega)
theorem QM{role:Str}(P:Pr A i j D t)(hH:bz A aA b8)(hM:c_ A bB d4)(hi:b8.lookup c8=some i)(hj:d4.lookup c8=some j)(h6:aw∈six)(h7:d6∈six)(M:role∈eN)(ht:t<=400):Res A i j D t [.str "role",.str aw,.str c8,.str d6,.str role]:=by
 have tu:=P.g.fr.tu;have hs:=cH h6;have hv:=cH h7;have b1:=P.b.b1;have b2:=P.b.b2;have b3:=P.b.b3;have b4:=P.b.b4;have b5:=P.b.b5;have b6:=P.b.b6;have b7:=P.b.b7;have I:=QK (c8:=c8) hH hi P.r hs hv (MR P.r tu P.g.rk hs hv M);refine iG P I (by simp) λall=>?_
 have QN:=λc I=>all c (cw _ I);obtain⟨s,hsx⟩:=uE (QN ((D.ar.lookup d6).isNone,"NotIn","not in") (by simp));have rB:d6∈D.ar.map (·.1):=bV.mpr ⟨_,f9 hsx,rfl⟩;have Kg:=P.g.rk.role rB M;have S:=uB (a:=role) rB;have pl2:(dk D.ar d6 role).length=D.ar.length:=by have:=cR List.length S;simpa using this
 obtain⟨A3,cf,bH,q3,L,x3,r3⟩:=QH (aw:=aw) (d6:=d6) (role:=role) P.r tu P.g.rk hs hv M (bF (by omega)) (bF (by omega)) QN;have ol:=L.len;rw[fS]at ol;have I:=I.trans (yv all);rw[q3]at I;refine jf (D':={D with rows:=cf,ar:=bH}) P hM ⟨A3,I,x3,r3⟩ (λA1 yy m=>?_) ⟨L.gX (P.g.fr.add rfl (by show 5<=10;decide)),L.Em Kg,(P.g.op.trans S.symm).trans L.names.symm,x' L λq hq=>?_,L.ow,P.g.ia,λz hz=>P.g.ns z (by have hz:z∈bH.map (·.1):=hz;rwa[L.names,S]at hz),P.g.bs,P.g.is,P.g.nd⟩ ⟨by show cf.length<=_;omega,by show bH.length<=_;omega,by show D.ents.length<=_;omega,by show D.stays.length<=_;omega,by show D.asked.length<=_;omega,by show D.aH.length<=_;omega,by show D.inv.length<=_;omega⟩ (L.seen (by rw[fS];omega) Kg (P.se.add (by omega) (.role (.inr (Us P.g.rk.rl M (QN (NY (fi D.ar aw) (fi D.ar d6) (lvl role),"NoRight","no right") (by simp)))) hv M)))
 .obtain⟨A4,q1,t1,m1⟩:=QL (aw:=aw) (c8:=c8) (d6:=d6) (role:=role) m tu (bF (by omega)) (bF (by omega));obtain⟨A2,zt,u_,q2,o3,x2,m2⟩:=uD m1 (mX tu) Kg (P.g.op.trans S.symm) (by rw[fS];exact bF (by omega)) (cG (bF (by omega))) (bF (by omega));obtain⟨rfl,rfl⟩:=L.one o3;exact⟨A2,_,_,_,p8 (.inr (.inr (.inl rfl))) yy hj q1 q2 rfl,t1.trans (dX.of x2 (by simp)),m2,zr⟩
 .have hq1:q.1∈D.ar.map (·.1):=by rw[<-S];exact jH hq
  obtain⟨q',So,e⟩:=bV.mp hq1;have:=P.g.lt q' So;show D.ent q.1<((D.rows++[d7 D.rows aw "role" [.str d6,.str role]]).length:Int)+1;rw[fS,<-e];omega
def contains_filter{l:List Str}:(l.filter P).contains z=(l.contains z&&P z):=by
 rw[kj,ck,eR,bC,ck]
abbrev QQ(p:Str)(n:Int):Int:=if p="shown"then 1 else n
theorem MS(P:Pr A i j D t)(hH:bz A aA b8)(hM:c_ A bB d4)(hi:b8.lookup c8=some i)(hj:d4.lookup c8=some j)(h6:aw∈six)(ht:t<=400):Res A i j D t [.str "enter",.str aw,.str c8]:=by
 have tu:=P.g.fr.tu;have hs:=cH h6;have b1:=P.b.b1;have b2:=P.b.b2;have b3:=P.b.b3;have b4:=P.b.b4;have b5:=P.b.b5;have b6:=P.b.b6;have b7:=P.b.b7;have fl:dS D.rows (dP .str D.ar) (dP .int D.ents) (dP .str (yw D.d D.v D.p)) (nS D.aH) (nS D.inv):=de tu;have S:=(J_ (aw:=aw) (c8:=c8) hH).trans (JU hH hs hi (by rw[P.r.call (m:="enter") rfl];rfl));have vb:∀{b},D.aH.contains aw=b->eM (nS D.aH) (.inr aw)=if b then some (.bl true)else none:=λe=>by rw[uV,e]
 refine iG (cs:=[(!(aA.lookup aw).isSome,"NoPerson","no person"),((D.ar.lookup aw).isSome,"Known","known"),(D.aH.contains aw,"Barred","barred"),(decide (D.d="asked")&&!D.asked.contains aw,"NotAsked","not asked")]) (X:=cj [.at 0,.tup [.str "enter",.str aw,.str c8]] A) P ?_ (by simp) λall=>?_
 .refine qT (λq=>by rw[S,show(aA.lookup aw).isSome=false by simpa using q];rfl) λq=>?_
  rw[show(aA.lookup aw).isSome=true by simpa using q,ay rfl]at S;refine qT (λq=>?_) λq=>qT (λq2=>?_) λq2=>qT (λq3=>?_) λq3=>rfl
  .obtain⟨r,L⟩:=sA.mp q;rw[S,JP P.r fl hs L];rfl
  .rw[S,JR (r:=.bl true) P.r fl hs (by simpa using q) (vb q2)];rfl
  .rw[bC,oZ]at q3;rw[S,JS P.r fl hs (by simpa using q) (vb q2) (show some D.d=some _ by rw[fo q3.1]) (by rw[uV,P.g.ia,q3.2];rfl)];rfl
 have a1:(aA.lookup aw).isSome=true:=by simpa using all _ (cJ ..)
 have L:D.ar.lookup aw=none:=by simpa using all ((D.ar.lookup aw).isSome,"Known","known") (by simp)
 have a3:=all (D.aH.contains aw,"Barred","barred") (by simp);have a4:=all (decide (D.d="asked")&&!D.asked.contains aw,"NotAsked","not asked") (by simp);have Kg:=P.g.rk.enter (aw:=aw) (n:=D.rows.length+1) (r:="guest") L P.g.lt hs (by decide);have Y':(dk D.ar aw "guest").map (·.1)=D.ar.map (·.1)++[aw]:=by rw[kM L,fD];rfl
 have pl:=oo (l:=D.ar) (z:=aw) (a:=("guest":Str));have Ut:kN (D.stays++[(aw,QQ D.p (D.rows.length+1),(D.rows.length+1:Int),none)])=(dk D.ar aw "guest").map (·.1):=by
  unfold kN;rw[List.filter_append,fD,Y',<-P.g.op];rfl
 obtain⟨A3,cf,bH,q3,M,x3,r3⟩:=MH (aw:=aw) (d:=D.d) P.r fl P.g.rk P.g.lt (bF (by omega)) (bF (by omega)) (bF (by omega)) hs L (vb a3) rfl (by
  by_cases h9:D.d="asked"
  .right;rw[uV,P.g.ia];rw[h9]at a4;rw[show D.asked.contains aw=true by simpa using a4];rfl
  .exact .inl h9)
 rw[Fz]at r3;rw[a1,ay rfl,q3]at S;have ol:=M.len;rw[fS]at ol;refine jf (D':=⟨cf,bH,dk D.ents aw (D.rows.length+1),λz=>if z=aw then D.rows.length+1 else D.ent z,D.stays++[(aw,QQ D.p (D.rows.length+1),(D.rows.length+1:Int),none)],D.aH,D.inv.filter λz=>!(z==aw),D.asked.filter λz=>!(z==aw),D.d,D.v,D.p,D.ks,D.kb,D.ka⟩) P hM ⟨A3,S,dX.of x3 (by simp),r3⟩ (λA1 yy m=>?_) ⟨M.gX (P.g.fr.add rfl (by show 3<=10;decide)),M.Em Kg,Ut.trans M.names.symm,x' M λq hq=>?_,M.ow,λz=>?_,λz I=>?_,P.g.bs,λz I=>P.g.is z (eR.mp I).1,P.g.nd.sublist wo⟩ ⟨by show cf.length<=_;omega,by show bH.length<=_;omega,?_,by show(D.stays++[_]).length<=_;rw[fS];omega,by show(D.asked.filter _).length<=_;have:=i6 (λz=>!(z==aw)) D.asked;omega,by show D.aH.length<=_;omega,by show(D.inv.filter _).length<=_;have:=i6 (λz=>!(z==aw)) D.inv;omega⟩ (M.seen (by rw[fS];omega) Kg (P.se.add (by omega) (.enter (by unfold fi;rw[L];decide) hs)))
 .obtain⟨A4,Vq,f1,XO,q1,le1,x1,m1⟩:=JW (aw:=aw) (c9:="enter") m tu (bF (by omega)) (bF (by omega)) (bF (by omega)) (cG (bF (by omega)));have XO:f1=QQ D.p (D.rows.length+1):=XO;subst XO;obtain⟨A2,zt,u_,q2,o3,x2,m2⟩:=uD m1 (mX tu) Kg Ut (by rw[fS];exact bF (by omega)) (by rw[fS];exact cG (bF (by omega))) (bF (by omega));obtain⟨rfl,rfl⟩:=M.one o3;refine⟨A2,_,_,_,J8 yy hj q1 q2,(dX.of x1 (by simp)).trans (dX.of x2 (by simp)),m2,λk L=>?_⟩;simp only[a_,dr,dt]at L⊢;omega
 .rw[kM L]at hq;show(if q.1=aw then(D.rows.length+1:Int)else D.ent q.1)<((D.rows++[d7 D.rows aw "enter" []]).length:Int)+1;rw[fS];rcases cF.mp hq with hq|hq
  .rw[aE (lookup_none L q hq)];have:=P.g.lt q hq;omega
  .cases cz.mp hq;rw[ay rfl];omega
 .show(D.inv.filter λz=>!(z==aw)).contains z=(D.asked.filter λz=>!(z==aw)).contains z;rw[contains_filter,contains_filter,P.g.ia]
 .have I:z∈bH.map (·.1):=I;rw[M.names,Y']at I;rcases cF.mp I with I|I
  .exact P.g.ns z I
  .rwa[cz.mp I]
 .show(dk D.ents aw _).length<=_;have:=oo (l:=D.ents) (z:=aw) (a:=(D.rows.length+1:Int));omega
theorem MT(P:Pr A i j D t)(hH:bz A aA b8)(hM:c_ A bB d4)(hi:b8.lookup c8=some i)(hj:d4.lookup c8=some j)(h6:aw∈six)(ht:t<=400):Res A i j D t [.str "leave",.str aw,.str c8]:=by
 have tu:=P.g.fr.tu;have hs:=cH h6;have b1:=P.b.b1;have b2:=P.b.b2;have b3:=P.b.b3;have b4:=P.b.b4;have b5:=P.b.b5;have b6:=P.b.b6;have b7:=P.b.b7;have fl:dS D.rows (dP .str D.ar) (dP .int D.ents) (dP .str (yw D.d D.v D.p)) (nS D.aH) (nS D.inv):=de tu;have M:=(J' (aw:=aw) (c8:=c8) hH).trans (JV hH hs hi (by rw[P.r.call (m:="leave") rfl];rfl));refine iG (cs:=[(!(aA.lookup aw).isSome,"NoPerson","no person"),(!(D.ar.lookup aw).isSome,"NotIn","not in")]) (X:=cj [.at 0,.tup [.str "leave",.str aw,.str c8]] A) P ?_ (by simp) λall=>?_
 .refine qT (λq=>by rw[M,show(aA.lookup aw).isSome=false by simpa using q];rfl) λq=>qT (λS=>?_) λS=>rfl;rw[M,show(aA.lookup aw).isSome=true by simpa using q,ay rfl,JT P.r fl hs (by simpa using S)];rfl
 have a1:(aA.lookup aw).isSome=true:=by simpa using all _ (cJ ..)
 obtain⟨r,I⟩:∃r,D.ar.lookup aw=some r:=sA.mp (by simpa using all (!(D.ar.lookup aw).isSome,"NotIn","not in") (by simp));have Kg:=P.g.rk.leave (aw:=aw);have dl:=i6 (λp:Str×Str=>decide (p.1≠aw)) D.ar;have Ut:kN (D.stays.map (fA aw (D.rows.length+1)))=(eK D.ar aw).map (·.1):=by rw[u9,P.g.op,sg]
 obtain⟨A3,cf,bH,q3,L,x3,r3⟩:=MI (aw:=aw) P.r fl P.g.rk (bF (by omega)) (bF (by omega)) hs I;rw[a1,ay rfl,q3]at M;have ol:=L.len;rw[fS]at ol;have ol3:bH.length=(D.ar.filter λp=>decide (p.1≠aw)).length:=ol.2.2;refine jf (D':=⟨cf,bH,D.ents,D.ent,D.stays.map (fA aw (D.rows.length+1)),D.aH,D.inv,D.asked,D.d,D.v,D.p,D.ks,D.kb,D.ka⟩) P hM ⟨A3,M,dX.of x3 (by simp),r3⟩ (λA1 yy m=>?_) ⟨L.gX (P.g.fr.add rfl (by show 3<=10;decide)),L.Em Kg,Ut.trans L.names.symm,x' L λq hq=>?_,L.ow,P.g.ia,λz hz=>?_,P.g.bs,P.g.is,P.g.nd⟩ ⟨by show cf.length<=_;omega,by show bH.length<=_;omega,by show D.ents.length<=_;omega,by show(D.stays.map _).length<=_;rw[aY];omega,by show D.asked.length<=_;omega,by show D.aH.length<=_;omega,by show D.inv.length<=_;omega⟩ (L.seen (by rw[fS];omega) Kg (P.se.add (by omega) (.leave I)))
 .have q0:=jA (aw:=aw) (ps:=[.str "leave"]) m tu (bF (by omega)) (by show 2+1<=cX;decide) rfl;have x0:=Ext.put (o:=.lst (D.rows++[d7 D.rows aw "leave" []])) m.rw;have m0:=m.uU x0;have le0:=x0.le;obtain⟨A4,AH,q1,le1,x1,m1⟩:=AB (aw:=aw) (n:=D.rows.length+1) m0 (cG (bF (by omega))) I;obtain⟨A2,zt,u_,S,o3,x2,m2⟩:=uD m1 (mX tu) Kg Ut (by rw[fS];exact bF (by omega)) (by rw[aY];exact cG (bF (by omega))) (bF (by show(D.ar.filter _).length<_;omega));obtain⟨rfl,rfl⟩:=L.one o3;refine⟨A2,_,_,_,J9 yy hj q0 q1 S,((dX.of x0 (by simp)).trans (dX.of x1 (by simp))).trans (dX.of x2 (by simp)),m2,λk I=>?_⟩;simp only[a_,dr,dt]at I⊢;omega
 .have:=P.g.lt q (eR.mp hq).1;show D.ent q.1<((D.rows++[d7 D.rows aw "leave" []]).length:Int)+1;rw[fS];omega
 .have hz:z∈bH.map (·.1):=hz;rw[L.names,sg]at hz;exact P.g.ns z (eR.mp hz).1
def Uu{aw d6:Str}(h:RA A i rows ar ents I bn iv)(tu:dz rows)(k:cC ar ents ent)(hw:aw.length<=1000)(g:d6.length<=1000)(r:rows.length<cX)(M:iv.length<cX):
  r6 [.at i,.str aw,.str d6] A=fX A (.ok .bL ((A.set (i+1) (kP rows aw "ask" [.str d6])).set (i+6) (.bh (nS (sf iv d6))))) [((ar.lookup aw).isNone,"NotIn","not in"),(decide (fi ar aw<2),"NoRight","no right"),((ar.lookup d6).isSome,"Known","known")]:=by
 show bf (nW.1 [.sh (.at i),.sh (.str aw),.sh (.str d6)] A)=_;unfold nW;simp only[ev,bw,bT,bZ,h.call (m:="need_in") rfl,kO h tu hw];refine qT (λq=>by simp only[q,aP,ev]) λq=>?_
 simp only[q,bP,bq,ev,bw,bT,bZ,h.call (m:="need_keeper") rfl,JY h tu k hw q];refine qT (λq=>by simp only[q,aP,ev]) λq=>?_
 have s:=xF (z:=d6) (y:=" is in the room") g (by decide);simp only[q,bP,bq,ev,bw,bT,bZ,h.oR (de tu),cW,nq];refine qT (λq=>by simp only[q,ev,bw,bT,bZ,s]) λq=>?_
 have w:=iD (aw:=aw) (c9:="ask") (ps:=[.str d6]) h (de tu) r (by show 3+1<=cX;decide) rfl;have h1:=h.l6 (Ext.put (o:=kP rows aw "ask" [.str d6]) h.lg);have ep:=gR (z:=d6) (t:=.bl true) (Y:=[.sh (.at i),.sh (.str aw),.sh (.str d6)]) h1.iv (by rwa[FN]);rw[JZ]at ep;simp only[q,ev,bw,bT,bZ,h.call (m:="write_row") rfl,(qi (b:=aw)).1,w,fO,h1.Ui,ep,fX]
def Uv{aw d6:Str}(b:bz A aA b8)(hi:b8.lookup c8=some i)(h:RA A i rows ar ents I bn iv)(hw:aw.length<=1000)(g:d6.length<=1000)(q:r6 [.at i,.str aw,.str d6] A=fX A (.ok .bL r) cs):
  cj [.at 0,.tup [.str "ask",.str aw,.str c8,.str d6]] A=fX A (.ok .bL r) ((!((aA.lookup aw).isSome&&(aA.lookup d6).isSome),"NoPerson","no person")::cs):=by
 show bf (bR.1 [.sh (.at 0),.sh (.tup [.str "ask",.str aw,.str c8,.str d6]),.no] A)=_;unfold bR;simp only[ev,bw,bT,bZ,hJ,aQ,aR,sn,String.reduceBEq,aU,b.call (m:="ask") rfl,Hk];show bf (n_.1 [.sh (.at 0),.sh (.str aw),.sh (.str c8),.sh (.str d6)] A)=_;unfold n_;simp only[ev,bw,bT,bZ,b.call (m:="place_for") rfl,qi,jl b hw g hi];cases((aA.lookup aw).isSome&&(aA.lookup d6).isSome)with
 |false=>rfl
 |true=>simp only[aP,ev,bw,bT,bZ,h.call (m:="ask") rfl,q,NS];rfl
def Uw(h:aT A j ks kb ka rows aO stays aH asked d v p)(f:dz rows)(b:rows.length<cX)(q:asked.length<cX):
  ∃A',dU [.at j,.tup [.str "ask",.str aw,.str c8,.str d6]] A=.ok .bL A'/\dX A A' (jS j ks kb ka)/\aT A' j ks kb ka (rows++[d7 rows aw "ask" [.str d6]]) aO stays aH (asked++[d6]) d v p:=by
 have h0:=h.ext (Ext.push (o:=.bh uF)) λ_ _=>rfl;have w:=jA (aw:=aw) (ps:=[.str "ask",.str d6]) h0 f b (by show 2+2<=cX;decide) rfl;have h1:=h0.uU (Ext.put (o:=.lst (rows++[d7 rows aw "ask" [.str d6]])) h0.rw);have t1:=(dX.push (A:=A) (o:=.bh uF) (S:=jS j ks kb ka)).trans (dX.put (o:=(.lst (rows++[d7 rows aw "ask" [.str d6]]))) h0.rw (by simp));refine⟨_,?_,t1.trans (dX.put (o:=.lst ((asked++[d6]).map .str)) h1.as (by simp)),h1.Xz (Ext.put h1.as)⟩;show bf (bU.1 [.sh (.at j),.sh (.tup [.str "ask",.str aw,.str c8,.str d6]),.no,.no,.no,.no] A)=_;unfold bU;have s1:fZ (.ok (.tup [.str "ask",.str aw,.str c8,.str d6])) (.ok none) (m9 (.ok (.int 2)))=.ok (.tup [.str "ask",.str aw]):=rfl;have s2:fZ (.ok (.tup [.str "ask",.str aw,.str c8,.str d6])) (m9 (.ok (.int 3))) (.ok none)=.ok (.tup [.str d6]):=rfl;have s3:pI (.ok (.bh uF)) (.ok (.str "ask")) (.ok (.str "ask"))=.ok (.str "ask"):=rfl;have s4:oP (.tup [.str "ask"]) (.tup [.str d6])=.ok (.tup [.str "ask",.str d6]):=rfl;have g:yW (.str "ask") (.tup [.str "out",.str "bar"])=.ok (.bl false):=rfl;have L:=rL (t:=.str d6) h1.as (by rwa[aY]);rw[show asked.map Tr.str++[.str d6]=(asked++[d6]).map .str by rw[fD];rfl]at L;simp only[ev,bw,bT,bZ,hJ,s1,qi,KA,NU,NV,aQ,aR,s2,s3,s4,w,sn,String.reduceBEq,aU,f_,h1.XF,rK h1.as,L,g]
def Ux(P:Pr A i j D t)(S:bz A aA b8)(hM:c_ A bB d4)(hi:b8.lookup c8=some i)(hj:d4.lookup c8=some j)(h6:aw∈six)(q:d6∈six)(ht:t<=400):Res A i j D t [.str "ask",.str aw,.str c8,.str d6]:=by
 have tu:=P.g.fr.tu;have hs:=cH h6;have I:=cH q;have b1:=P.b.b1;have b2:=P.b.b2;have b3:=P.b.b3;have b4:=P.b.b4;have b5:=P.b.b5;have b6:=P.b.b6;have b7:=P.b.b7;have M:=Uv (c8:=c8) S hi P.r hs I (Uu (aw:=aw) (d6:=d6) P.r tu P.g.rk hs I (bF (by omega)) (bF (by omega)));refine iG P M (by simp) λall=>?_
 have g:=P.g.row (us:=[.int (D.rows.length+1),.str aw,.str "ask",.str d6]) rfl (by show 4<=10;decide);refine jf (D':={Dr D aw "ask" [.str d6]with inv:=sf D.inv d6,asked:=D.asked++[d6]}) P hM ⟨_,M.trans (yv all),?_,?_⟩ (λA1 yy m=>?_) ⟨g.fr,g.rk,g.op,g.lt,g.ow,λz=>?_,g.ns,g.bs,λz hz=>?_,Qz g.nd⟩ ⟨by show(D.rows++[_]).length<=_;rw[fS];omega,by show D.ar.length<=_;omega,by show D.ents.length<=_;omega,by show D.stays.length<=_;omega,by show(D.asked++[_]).length<=_;rw[fS];omega,by show D.aH.length<=_;omega,by show(sf D.inv d6).length<=_;have:=QC (l:=D.inv) (z:=d6);omega⟩ (P.se.add (by omega) (.ask (.inl rfl) (by have:=all (decide (fi D.ar aw<2),"NoRight","no right") (by simp);simp only[gz]at this;omega)))
 .have L:=P.r.l6 (Ext.put (o:=kP D.rows aw "ask" [.str d6]) P.r.lg);exact(dX.put P.r.lg (by simp)).trans (dX.put L.iv (by simp))
 .have L:=P.r.l6 (Ext.put (o:=kP D.rows aw "ask" [.str d6]) P.r.lg);exact L.Uj (Ext.put L.iv)
 .obtain⟨A4,q1,t1,m1⟩:=Uw (aw:=aw) (c8:=c8) (d6:=d6) m tu (bF (by omega)) (bF (by omega));obtain⟨A2,q2,t2,m2⟩:=oq m1 g.fr.tu P.g.rk P.g.op P.g.ow (by rw[fS];exact bF (by omega)) (cG (bF (by omega))) (bF (by omega));exact⟨A2,_,_,_,p8 (.inr (.inl rfl)) yy hj q1 q2 rfl,t1.trans (t2 _ _ _),m2,zr⟩
 .show(sf D.inv d6).contains z=(D.asked++[d6]).contains z;rw[Ke,kj,ck,ck,cF,cF,<-ck (as:=D.inv),P.g.ia,ck]
 .rcases Qy hz with h|rfl
  .exact P.g.is z h
  .exact q
def MU{aw d6:Str}(h:RA A i rows ar ents I bn iv)(tu:dz rows)(k:cC ar ents ent)(hw:aw.length<=1000)(g:d6.length<=1000)(r:rows.length<cX):
  nZ [.at i,.str aw,.str d6] A=fX A (.ok .bL ((A.set (i+1) (kP rows aw "unbar" [.str d6])).set (i+5) (.bh (nS (bn.filter λy=>!(y==d6)))))) [((ar.lookup aw).isNone,"NotIn","not in"),(decide (fi ar aw<2),"NoRight","no right"),(!bn.contains d6,"Known","known")]:=by
 show bf (jZ.1 [.sh (.at i),.sh (.str aw),.sh (.str d6)] A)=_;unfold jZ;simp only[ev,bw,bT,bZ,h.call (m:="need_in") rfl,kO h tu hw];refine qT (λq=>by simp only[q,aP,ev]) λq=>?_
 simp only[q,bP,bq,ev,bw,bT,bZ,h.call (m:="need_keeper") rfl,JY h tu k hw q];refine qT (λq=>by simp only[q,aP,ev]) λq=>?_
 have s:=xF (z:=d6) (y:=" is not barred") g (by decide);have L:(eM (nS bn) (.inr d6)).isSome=bn.contains d6:=by rw[uV];cases bn.contains d6<;>rfl
 simp only[q,bP,bq,ev,bw,bT,bZ,h.Jq (de tu),L];refine qT (λq=>by simp only[q,ev,bw,bT,bZ,s]) λq=>?_
 have w:=iD (aw:=aw) (c9:="unbar") (ps:=[.str d6]) h (de tu) r (by show 3+1<=cX;decide) rfl;have h1:=h.l6 (Ext.put (o:=kP rows aw "unbar" [.str d6]) h.lg);have p:=ug (z:=d6) (v:=.bl true) h1.bn (by rw[uV,ay (by simpa using q)]);rw[Fz]at p;simp only[q,ev,bw,bT,bZ,h.call (m:="write_row") rfl,(qi (b:=aw)).1,w,h1.Uh,uf h1.bn,p,fX]
def MV{aw d6:Str}(b:bz A aA b8)(hi:b8.lookup c8=some i)(h:RA A i rows ar ents I bn iv)(hw:aw.length<=1000)(g:d6.length<=1000)(q:nZ [.at i,.str aw,.str d6] A=fX A (.ok .bL r) cs):
  cj [.at 0,.tup [.str "unbar",.str aw,.str c8,.str d6]] A=fX A (.ok .bL r) ((!((aA.lookup aw).isSome&&(aA.lookup d6).isSome),"NoPerson","no person")::cs):=by
 show bf (bR.1 [.sh (.at 0),.sh (.tup [.str "unbar",.str aw,.str c8,.str d6]),.no] A)=_;unfold bR;simp only[ev,bw,bT,bZ,hJ,aQ,aR,sn,String.reduceBEq,aU,b.call (m:="unbar") rfl,Hk];show bf (j8.1 [.sh (.at 0),.sh (.str aw),.sh (.str c8),.sh (.str d6)] A)=_;unfold j8;simp only[ev,bw,bT,bZ,b.call (m:="place_for") rfl,qi,jl b hw g hi];cases((aA.lookup aw).isSome&&(aA.lookup d6).isSome)with
 |false=>rfl
 |true=>simp only[aP,ev,bw,bT,bZ,h.call (m:="unbar") rfl,q,NS];rfl
def MW(h:aT A j ks kb ka rows aO stays aH asked d v p)(f:dz rows)(g:rows.length<cX)(q:aH.length<=cX):
  ∃A' b,dU [.at j,.tup [.str "unbar",.str aw,.str c8,.str d6]] A=.ok .bL A'/\A.length<=b/\dX A A' (jS j ks kb ka)/\aT A' j ks b ka (rows++[d7 rows aw "unbar" [.str d6]]) aO stays (aH.filter λy=>!(y==d6)) asked d v p:=by
 have h0:=h.ext (Ext.push (o:=.bh uF)) λ_ _=>rfl;have w:=jA (aw:=aw) (ps:=[.str "unbar",.str d6]) h0 f g (by show 2+2<=cX;decide) rfl;have h1:=h0.uU (Ext.put (o:=.lst (rows++[d7 rows aw "unbar" [.str d6]])) h0.rw);have t1:=(dX.push (A:=A) (o:=.bh uF) (S:=jS j ks kb ka)).trans (dX.put (o:=(.lst (rows++[d7 rows aw "unbar" [.str d6]]))) h0.rw (by simp));have h2:=h1.ext (Ext.push (o:=.lst ((aH.filter λy=>!(y==d6)).map .str))) λ_ _=>rfl;refine⟨_,_,?_,t1.le,t1.trans (dX.push.trans (dX.put h2.o (by simp))),h1.XC⟩;show bf (bU.1 [.sh (.at j),.sh (.tup [.str "unbar",.str aw,.str c8,.str d6]),.no,.no,.no,.no] A)=_;unfold bU;have s1:fZ (.ok (.tup [.str "unbar",.str aw,.str c8,.str d6])) (.ok none) (m9 (.ok (.int 2)))=.ok (.tup [.str "unbar",.str aw]):=rfl;have s2:fZ (.ok (.tup [.str "unbar",.str aw,.str c8,.str d6])) (m9 (.ok (.int 3))) (.ok none)=.ok (.tup [.str d6]):=rfl;have s3:pI (.ok (.bh uF)) (.ok (.str "unbar")) (.ok (.str "unbar"))=.ok (.str "unbar"):=rfl;have s4:oP (.tup [.str "unbar"]) (.tup [.str d6])=.ok (.tup [.str "unbar",.str d6]):=rfl;have L:yW (.str "unbar") (.tup [.str "out",.str "bar"])=.ok (.bl false):=rfl;simp only[ev,bw,bT,bZ,hJ,s1,qi,KA,NU,NV,aQ,aR,s2,s3,s4,w,sn,String.reduceBEq,aU,GY,h1.Xo (n:=3)];rw[uT (zj:=[.sh (.tup [.str "unbar",.str aw,.str c8,.str d6])]) (λz=>!(z==d6)) rfl q rfl (λ_=>rfl) ?hC]
 case hC=>intro z r;simp only[ev,hJ,Fy]
 simp only[uk mY,fO,ev,bw,bT,bZ,h2.Y0 (fk:="barred") rfl,L]
 rfl
def MX(P:Pr A i j D t)(M:bz A aA b8)(S:c_ A bB d4)(hi:b8.lookup c8=some i)(hj:d4.lookup c8=some j)(h6:aw∈six)(h7:d6∈six)(ht:t<=400):Res A i j D t [.str "unbar",.str aw,.str c8,.str d6]:=by
 have tu:=P.g.fr.tu;have hs:=cH h6;have q:=cH h7;have b1:=P.b.b1;have b2:=P.b.b2;have b3:=P.b.b3;have b4:=P.b.b4;have b5:=P.b.b5;have b6:=P.b.b6;have b7:=P.b.b7;have I:=MV (c8:=c8) M hi P.r hs q (MU (aw:=aw) (d6:=d6) P.r tu P.g.rk hs q (bF (by omega)));refine iG P I (by simp) λall=>?_
 have g:=P.g.row (us:=[.int (D.rows.length+1),.str aw,.str "unbar",.str d6]) rfl (by show 4<=10;decide);refine jf (D':={Dr D aw "unbar" [.str d6]with aH:=D.aH.filter λy=>!(y==d6)}) P S ⟨_,I.trans (yv all),?_,?_⟩ (λA1 yy m=>?_) ⟨g.fr,g.rk,g.op,g.lt,g.ow,g.ia,g.ns,λz hz=>g.bs z (eR.mp hz).1,g.is,g.nd⟩ ⟨by show(D.rows++[_]).length<=_;rw[fS];omega,by show D.ar.length<=_;omega,by show D.ents.length<=_;omega,by show D.stays.length<=_;omega,by show D.asked.length<=_;omega,by show(D.aH.filter _).length<=_;have:=i6 (λy=>!(y==d6)) D.aH;omega,by show D.inv.length<=_;omega⟩ (P.se.add (by omega) (.ask (.inr rfl) (by have:=all (decide (fi D.ar aw<2),"NoRight","no right") (by simp);simp only[gz]at this;omega)))
 .have L:=P.r.l6 (Ext.put (o:=kP D.rows aw "unbar" [.str d6]) P.r.lg);exact(dX.put P.r.lg (by simp)).trans (dX.put L.bn (by simp))
 .have L:=P.r.l6 (Ext.put (o:=kP D.rows aw "unbar" [.str d6]) P.r.lg);exact L.Mr (Ext.put L.bn)
 .obtain⟨A4,XQ,q1,le,t1,m1⟩:=MW (aw:=aw) (c8:=c8) (d6:=d6) m tu (bF (by omega)) (cG (bF (by omega)));obtain⟨A2,q2,t2,m2⟩:=oq m1 g.fr.tu P.g.rk P.g.op P.g.ow (by rw[fS];exact bF (by omega)) (cG (bF (by omega))) (bF (by omega));refine⟨A2,_,_,_,p8 (.inr (.inr (.inr (.inr (.inr (.inl rfl)))))) yy hj q1 q2 rfl,t1.trans (t2 _ _ _),m2,λk hk=>?_⟩;simp only[a_,dr,dt]at hk⊢;omega
def Uy(h:RA A i rows ar ents me bn iv)(tu:dz rows)(k:cC ar ents ent)(hw:aw.length<=1000)(g:d6.length<=1000)(I:rows.length<cX):
  r8 [.at i,.str aw,.str d6] A=fX A (.ok .bL ((A.set (i+1) (kP rows aw "out" [.str d6])).set (i+2) (.bh (dP .str (eK ar d6))))) [((ar.lookup aw).isNone,"NotIn","not in"),((ar.lookup d6).isNone,"NotIn","not in"),(decide (fi ar aw<2)||decide (fi ar aw<=fi ar d6),"NoRight","no right")]:=by
 show bf (nX.1 [.sh (.at i),.sh (.str aw),.sh (.str d6)] A)=_;unfold nX;simp only[ev,bw,bT,bZ,h.call (m:="need_in") rfl,kO h tu hw];refine qT (λq=>by simp only[q,aP,ev]) λq=>?_
 simp only[q,bP,bq,ev,bw,bT,bZ,h.call (m:="need_in") rfl,kO h tu g];refine qT (λq=>by simp only[q,aP,ev]) λL=>?_
 simp only[L,bP,bq,ev,bw,bT,bZ,h.call (m:="need_above") rfl,NT h tu k hw g q];refine qT (λq=>by simp only[q,aP,ev]) λM=>?_
 obtain⟨r,S⟩:=uE L;have w:=iD (aw:=aw) (c9:="out") (ps:=[.str d6]) h (de tu) I (by show 3+1<=cX;decide) rfl;have h1:=h.l6 (Ext.put (o:=kP rows aw "out" [.str d6]) h.lg);have p:=ug (z:=d6) (v:=.str r) h1.rk (by rw[cW,S];rfl);rw[nF]at p;simp only[M,bP,bq,ev,bw,bT,bZ,h.call (m:="write_row") rfl,(qi (b:=aw)).1,w,h1.Jr,uf h1.rk,p,fX]
def Uz(b:bz A aA b8)(hi:b8.lookup c8=some i)(h:RA A i rows ar ents I bn iv)(hw:aw.length<=1000)(g:d6.length<=1000)(q:r8 [.at i,.str aw,.str d6] A=fX A (.ok .bL r) cs):
  cj [.at 0,.tup [.str "out",.str aw,.str c8,.str d6]] A=fX A (.ok .bL r) ((!((aA.lookup aw).isSome&&(aA.lookup d6).isSome),"NoPerson","no person")::cs):=by
 show bf (bR.1 [.sh (.at 0),.sh (.tup [.str "out",.str aw,.str c8,.str d6]),.no] A)=_;unfold bR;simp only[ev,bw,bT,bZ,hJ,aQ,aR,sn,String.reduceBEq,aU,b.call (m:="out") rfl,Hk];show bf (og.1 [.sh (.at 0),.sh (.str aw),.sh (.str c8),.sh (.str d6)] A)=_;unfold og;simp only[ev,bw,bT,bZ,b.call (m:="place_for") rfl,qi,jl b hw g hi];cases((aA.lookup aw).isSome&&(aA.lookup d6).isSome)with
 |false=>rfl
 |true=>simp only[aP,ev,bw,bT,bZ,h.call (m:="out") rfl,q,NS];rfl
def UA(h:aT A j ks kb ka rows aO stays aH asked d v p)(f:dz rows)(q:rows.length<cX)(hs:stays.length<=cX)(g:aO.lookup d6=some r):
  ∃A' b,dU [.at j,.tup [.str "out",.str aw,.str c8,.str d6]] A=.ok .bL A'/\A.length<=b/\dX A A' (jS j ks kb ka)/\aT A' j b kb ka (rows++[d7 rows aw "out" [.str d6]]) (eK aO d6) (stays.map (fA d6 (rows.length+1))) aH asked d v p:=by
 have h0:=h.ext (Ext.push (o:=.bh uF)) λ_ _=>rfl;have w:=jA (aw:=aw) (ps:=[.str "out",.str d6]) h0 f q (by show 2+2<=cX;decide) rfl;have h1:=h0.uU (Ext.put (o:=.lst (rows++[d7 rows aw "out" [.str d6]])) h0.rw);have t1:=(dX.push (A:=A) (o:=.bh uF) (S:=jS j ks kb ka)).trans (dX.put (o:=.lst (rows++[d7 rows aw "out" [.str d6]])) h0.rw (by simp));obtain⟨L,b,I,M,q3,q4⟩:=AB (aw:=d6) (n:=rows.length+1) h1 hs g;refine⟨L,b,?_,bI t1.le M,t1.trans (dX.of q3 (by simp)),q4⟩;show bf (bU.1 [.sh (.at j),.sh (.tup [.str "out",.str aw,.str c8,.str d6]),.no,.no,.no,.no] A)=_;unfold bU;have s1:fZ (.ok (.tup [.str "out",.str aw,.str c8,.str d6])) (.ok none) (m9 (.ok (.int 2)))=.ok (.tup [.str "out",.str aw]):=rfl;have s2:fZ (.ok (.tup [.str "out",.str aw,.str c8,.str d6])) (m9 (.ok (.int 3))) (.ok none)=.ok (.tup [.str d6]):=rfl;have s3:pI (.ok (.bh uF)) (.ok (.str "out")) (.ok (.str "out"))=.ok (.str "out"):=rfl;have s4:oP (.tup [.str "out"]) (.tup [.str d6])=.ok (.tup [.str "out",.str d6]):=rfl;have n2:yW (.str "out") (.tup [.str "out",.str "bar"])=.ok (.bl true):=rfl;simp only[ev,bw,bT,bZ,hJ,s1,qi,KA,NU,NV,aQ,aR,s2,s3,s4,w,sn,String.reduceBEq,aU,n2,h1.Qm (n:=3),cW,g,cA,fT,I]
theorem UB(P:Pr A i j D t)(S:bz A aA b8)(hM:c_ A bB d4)(hi:b8.lookup c8=some i)(hj:d4.lookup c8=some j)(h6:aw∈six)(h7:d6∈six)(ht:t<=400):Res A i j D t [.str "out",.str aw,.str c8,.str d6]:=by
 have tu:=P.g.fr.tu;have hs:=cH h6;have I:=cH h7;have b1:=P.b.b1;have b2:=P.b.b2;have b3:=P.b.b3;have b4:=P.b.b4;have b5:=P.b.b5;have b6:=P.b.b6;have b7:=P.b.b7;have M:=Uz (c8:=c8) S hi P.r hs I (Uy P.r tu P.g.rk hs I (bF (by omega)));refine iG P M (by simp) λall=>?_
 have lt:fi D.ar d6<fi D.ar aw:=by
  have:=all (decide (fi D.ar aw<2)||decide (fi D.ar aw<=fi D.ar d6),"NoRight","no right") (by simp);simp only[hV,gz]at this;omega
 obtain⟨r,q⟩:=uE (all ((D.ar.lookup d6).isNone,"NotIn","not in") (by simp));have g:=(P.g.row (us:=[.int (D.rows.length+1),.str aw,.str "out",.str d6]) rfl (by show 4<=10;decide)).drop (n:=D.rows.length+1) lt;have dl:=i6 (λp:Str×Str=>decide (p.1≠d6)) D.ar;refine jf (D':={Dr D aw "out" [.str d6]with ar:=eK D.ar d6,stays:=D.stays.map (fA d6 (D.rows.length+1))}) P hM ⟨_,M.trans (yv all),?_,?_⟩ (λA1 yy m=>?_) g ⟨by show(D.rows++[_]).length<=_;rw[fS];omega,by show(D.ar.filter _).length<=_;omega,by show D.ents.length<=_;omega,by show(D.stays.map _).length<=_;rw[aY];omega,by show D.asked.length<=_;omega,by show D.aH.length<=_;omega,by show D.inv.length<=_;omega⟩ (P.se.add (by omega) (.out (.inl rfl) (by have:=all (decide (fi D.ar aw<2)||decide (fi D.ar aw<=fi D.ar d6),"NoRight","no right") (by simp);simp only[hV,gz]at this;omega) lt))
 .have L:=P.r.l6 (Ext.put (o:=kP D.rows aw "out" [.str d6]) P.r.lg);exact(dX.put P.r.lg (by simp)).trans (dX.put L.rk (by simp))
 .have L:=P.r.l6 (Ext.put (o:=kP D.rows aw "out" [.str d6]) P.r.lg);exact L.Js (Ext.put L.rk)
 .obtain⟨A4,AH,q1,le,t1,m1⟩:=UA (aw:=aw) (c8:=c8) m tu (bF (by omega)) (cG (bF (by omega))) q;obtain⟨A2,q2,t2,m2⟩:=oq m1 g.fr.tu g.rk g.op g.ow (by rw[fS];exact bF (by omega)) (by rw[aY];exact cG (bF (by omega))) (bF (by show(D.ar.filter _).length<_;omega));refine⟨A2,_,_,_,p8 (.inr (.inr (.inr (.inl rfl)))) yy hj q1 q2 rfl,t1.trans (t2 _ _ _),m2,λk q=>?_⟩;simp only[a_,dr,dt]at q⊢;omega
def UC{aw d6:Str}(h:RA A i rows ar ents M bn iv)(tu:dz rows)(k:cC ar ents ent)(hw:aw.length<=1000)(g:d6.length<=1000)(r:rows.length<cX)(S:bn.length<cX):
  r9 [.at i,.str aw,.str d6] A=fX A (.ok .bL (((A.set (i+1) (kP rows aw "bar" [.str d6])).set (i+5) (.bh (nS (bn++[d6])))).set (i+2) (.bh (dP .str (eK ar d6))))) [((ar.lookup aw).isNone,"NotIn","not in"),(decide (fi ar aw<2)||decide (fi ar aw<=fi ar d6),"NoRight","no right"),(bn.contains d6,"Known","known")]:=by
 show bf (nY.1 [.sh (.at i),.sh (.str aw),.sh (.str d6)] A)=_;unfold nY;simp only[ev,bw,bT,bZ,h.call (m:="need_in") rfl,kO h tu hw];refine qT (λq=>by simp only[q,aP,ev]) λq=>?_
 simp only[q,bP,bq,ev,bw,bT,bZ,h.call (m:="need_above") rfl,NT h tu k hw g q];refine qT (λq=>by simp only[q,aP,ev]) λq=>?_
 have s:=xF (z:=d6) (y:=" is barred") g (by decide);have L:(eM (nS bn) (.inr d6)).isSome=bn.contains d6:=by rw[uV];cases bn.contains d6<;>rfl
 simp only[q,bP,bq,ev,bw,bT,bZ,h.Jq (de tu),L];refine qT (λq=>by simp only[q,ev,bw,bT,bZ,s]) λq=>?_
 have w:=iD (aw:=aw) (c9:="bar") (ps:=[.str d6]) h (de tu) r (by show 3+1<=cX;decide) rfl;have h1:=h.l6 (Ext.put (o:=kP rows aw "bar" [.str d6]) h.lg);have ep:=gR (z:=d6) (t:=.bl true) (Y:=[.sh (.at i),.sh (.str aw),.sh (.str d6)]) h1.bn (by rwa[FN]);rw[JZ,show sf bn d6=bn++[d6] by unfold sf;rw[q];rfl]at ep;have h2:=h1.Mr (Ext.put (o:=.bh (nS (bn++[d6]))) h1.bn);have p:=λx I=>Ac (z:=d6) (x:=x) I h2.rk;rw[nF]at p;simp only[q,ev,bw,bT,bZ,h.call (m:="write_row") rfl,(qi (b:=aw)).1,w,fO,h1.Uh,ep,h2.Jr,vW h2.rk,p,fX]
def UD{aw d6:Str}(b:bz A aA b8)(hi:b8.lookup c8=some i)(h:RA A i rows ar ents I bn iv)(hw:aw.length<=1000)(g:d6.length<=1000)(q:r9 [.at i,.str aw,.str d6] A=fX A (.ok .bL r) cs):
  cj [.at 0,.tup [.str "bar",.str aw,.str c8,.str d6]] A=fX A (.ok .bL r) ((!((aA.lookup aw).isSome&&(aA.lookup d6).isSome),"NoPerson","no person")::cs):=by
 show bf (bR.1 [.sh (.at 0),.sh (.tup [.str "bar",.str aw,.str c8,.str d6]),.no] A)=_;unfold bR;simp only[ev,bw,bT,bZ,hJ,aQ,aR,sn,String.reduceBEq,aU,b.call (m:="bar") rfl,Hk];show bf (oh.1 [.sh (.at 0),.sh (.str aw),.sh (.str c8),.sh (.str d6)] A)=_;unfold oh;simp only[ev,bw,bT,bZ,b.call (m:="place_for") rfl,qi,jl b hw g hi];cases((aA.lookup aw).isSome&&(aA.lookup d6).isSome)with
 |false=>rfl
 |true=>simp only[aP,ev,bw,bT,bZ,h.call (m:="bar") rfl,q,NS];rfl
def UE(h:aT A j ks kb ka rows aO stays aH asked d v p)(f:dz rows)(I:kN stays=aO.map (·.1))(M:rows.length<cX)(ha:aH.length<cX)(hs:stays.length<=cX):
  ∃A' b,dU [.at j,.tup [.str "bar",.str aw,.str c8,.str d6]] A=.ok .bL A'/\(b=ks\/A.length<=b)/\dX A A' (jS j ks kb ka)/\aT A' j b kb ka (rows++[d7 rows aw "bar" [.str d6]]) (eK aO d6) (stays.map (fA d6 (rows.length+1))) (aH++[d6]) asked d v p:=by
 have h0:=h.ext (Ext.push (o:=.bh uF)) λ_ _=>rfl;have w:=jA (aw:=aw) (ps:=[.str "bar",.str d6]) h0 f M (by show 2+2<=cX;decide) rfl;have h1:=h0.uU (Ext.put (o:=.lst (rows++[d7 rows aw "bar" [.str d6]])) h0.rw);have t1:=((dX.push (A:=A) (o:=.bh uF) (S:=jS j ks kb ka)).trans (dX.put (o:=.lst (rows++[d7 rows aw "bar" [.str d6]])) h0.rw (by simp))).trans (dX.put (o:=.lst ((aH++[d6]).map .str)) h1.br (by simp));have h2:=h1.XB (l':=aH++[d6]) (Ext.put h1.br);show∃A' b,bf (bU.1 [.sh (.at j),.sh (.tup [.str "bar",.str aw,.str c8,.str d6]),.no,.no,.no,.no] A)=.ok .bL A'/\_;unfold bU;have s1:fZ (.ok (.tup [.str "bar",.str aw,.str c8,.str d6])) (.ok none) (m9 (.ok (.int 2)))=.ok (.tup [.str "bar",.str aw]):=rfl;have s2:fZ (.ok (.tup [.str "bar",.str aw,.str c8,.str d6])) (m9 (.ok (.int 3))) (.ok none)=.ok (.tup [.str d6]):=rfl;have s3:pI (.ok (.bh uF)) (.ok (.str "bar")) (.ok (.str "bar"))=.ok (.str "bar"):=rfl;have s4:oP (.tup [.str "bar"]) (.tup [.str d6])=.ok (.tup [.str "bar",.str d6]):=rfl;have n2:yW (.str "bar") (.tup [.str "out",.str "bar"])=.ok (.bl true):=rfl;have g:=rL (t:=.str d6) h1.br (by rwa[aY]);rw[show aH.map Tr.str++[.str d6]=(aH++[d6]).map .str by rw[fD];rfl]at g;simp only[ev,bw,bT,bZ,hJ,s1,qi,KA,NU,NV,aQ,aR,s2,s3,s4,w,sn,String.reduceBEq,aU,f_,h1.XD,rK h1.br,g,n2,h2.Qm (n:=3),cW];cases L:aO.lookup d6 with
 |none=>
  have hn:d6∉kN stays:=by
   rw[I];intro hm;obtain⟨q,hq,e⟩:=bV.mp hm;exact lookup_none L q hq e
  rw[Ha hn,En L];exact⟨_,ks,rfl,.inl rfl,t1,h2⟩
 |some r=>
  obtain⟨A3,b,q1,q2,q3,q4⟩:=AB (aw:=d6) (n:=rows.length+1) h2 hs L;simp only[cA,fT,ev,bw,bT,bZ,hJ,q1];exact⟨_,b,rfl,.inr (bI t1.le q2),t1.trans (dX.of q3 (by simp)),q4⟩
theorem UG(P:Pr A i j D t)(hH:bz A aA b8)(hM:c_ A bB d4)(hi:b8.lookup c8=some i)(hj:d4.lookup c8=some j)(h6:aw∈six)(h7:d6∈six)(ht:t<=400):Res A i j D t [.str "bar",.str aw,.str c8,.str d6]:=by
 have tu:=P.g.fr.tu;have hs:=cH h6;have M:=cH h7;have b1:=P.b.b1;have b2:=P.b.b2;have b3:=P.b.b3;have b4:=P.b.b4;have b5:=P.b.b5;have b6:=P.b.b6;have b7:=P.b.b7;have S:=UD (c8:=c8) hH hi P.r hs M (UC (aw:=aw) (d6:=d6) P.r tu P.g.rk hs M (bF (by omega)) (bF (by omega)));refine iG P S (by simp) λall=>?_
 have lt:fi D.ar d6<fi D.ar aw:=by
  have:=all (decide (fi D.ar aw<2)||decide (fi D.ar aw<=fi D.ar d6),"NoRight","no right") (by simp);simp only[hV,gz]at this;omega
 have g:=(P.g.row (us:=[.int (D.rows.length+1),.str aw,.str "bar",.str d6]) rfl (by show 4<=10;decide)).drop (n:=D.rows.length+1) lt;have dl:=i6 (λp:Str×Str=>decide (p.1≠d6)) D.ar;refine jf (D':={Dr D aw "bar" [.str d6]with ar:=eK D.ar d6,stays:=D.stays.map (fA d6 (D.rows.length+1)),aH:=D.aH++[d6]}) P hM ⟨_,S.trans (yv all),?_,?_⟩ (λA1 yy m=>?_) ⟨g.fr,g.rk,g.op,g.lt,g.ow,g.ia,g.ns,λz q=>?_,g.is,g.nd⟩ ⟨by show(D.rows++[_]).length<=_;rw[fS];omega,by show(D.ar.filter _).length<=_;omega,by show D.ents.length<=_;omega,by show(D.stays.map _).length<=_;rw[aY];omega,by show D.asked.length<=_;omega,by show(D.aH++[_]).length<=_;rw[fS];omega,by show D.inv.length<=_;omega⟩ (P.se.add (by omega) (.out (.inr rfl) (by have:=all (decide (fi D.ar aw<2)||decide (fi D.ar aw<=fi D.ar d6),"NoRight","no right") (by simp);simp only[hV,gz]at this;omega) lt))
 .have L:=P.r.l6 (Ext.put (o:=kP D.rows aw "bar" [.str d6]) P.r.lg);have I:=L.Mr (Ext.put (o:=.bh (nS (D.aH++[d6]))) L.bn);exact((dX.put P.r.lg (by simp)).trans (dX.put L.bn (by simp))).trans (dX.put I.rk (by simp))
 .have L:=P.r.l6 (Ext.put (o:=kP D.rows aw "bar" [.str d6]) P.r.lg);have I:=L.Mr (Ext.put (o:=.bh (nS (D.aH++[d6]))) L.bn);exact I.Js (Ext.put I.rk)
 .obtain⟨A4,AH,q1,le,t1,m1⟩:=UE (aw:=aw) (c8:=c8) (d6:=d6) m tu P.g.op (bF (by omega)) (bF (by omega)) (cG (bF (by omega)));obtain⟨A2,q2,t2,m2⟩:=oq m1 g.fr.tu g.rk g.op g.ow (by rw[fS];exact bF (by omega)) (by rw[aY];exact cG (bF (by omega))) (bF (by show(D.ar.filter _).length<_;omega));refine⟨A2,_,_,_,p8 (.inr (.inr (.inr (.inr (.inl rfl))))) yy hj q1 q2 rfl,t1.trans (t2 _ _ _),m2,λk hk=>?_⟩;simp only[a_,dr,dt]at hk⊢;omega
 .rcases cF.mp q with q|q
  .exact P.g.bs z q
  .rwa[cz.mp q]
def FR{S:List Int}:yW (.int n) (.tup (S.map .int))=.ok (.bl (S.contains n))/\yW (.int n) (.lst (S.map .int))=.ok (.bl (S.contains n)):=by
 have f:(S.map Tr.int).all qY=true:=fU.mpr λt L=>by obtain⟨i,_,rfl⟩:=bV.mp L;rfl
 have a:((S.map Tr.int).any λy=>eqT y (.int n))=S.contains n:=by
  clear f
  induction S with
  |nil=>rfl
  |cons i S b=>rw[aX,i8,b,List.contains_cons,km];rfl
 have e:yo (.int n) (S.map .int)=.ok (S.contains n):=by unfold yo;rw[ay ⟨rfl,f⟩,a]
 exact⟨by show Gn (yo _ _)=_;rw[e];rfl,by show Gn (yo _ _)=_;rw[e];rfl⟩
def wordAt(rows:List Tr)(n:Int):Str:=match rows[(n - 1).toNat]? with
 |some (.tup (_::_:: .str w::_))=>w
 |_=>Str.empty
def jF(rows:List Tr)(aw:Str)(n:Int):Bool:=(sb aw rows).1.contains n&&wordAt rows n==("say":Str)
theorem Seen.at_ {v:Str}{n:Int}(h:Seen rows ar v)(q:1<=n/\n<=rows.length):∃a b us,ib (.lst rows) (.int (n - 1))=.ok (.tup (a::b:: .str (wordAt rows n)::us)):=by
 have L:(n - 1).toNat<rows.length:=by omega
 obtain⟨m,z,w,ps,e,_⟩:=h.w _ (mq L);have g:rows[(n - 1).toNat]?=some (.tup (.int m:: .str z:: .str w::ps)):=by rw[cI L,e]
 refine⟨.int m,.str z,ps,?_⟩;have:wordAt rows n=w:=by unfold wordAt;rw[g]
 rw[this];show kc (L2.rn rows (n - 1))=_;rw[show n - 1=(((n - 1).toNat:Nat):Int) by omega,nv g];rfl
def Kh(h:Seen rows ar v)(hf:∀t∈rows,∃us,t=.tup us/\us.all qY=true)(q:rows.length<=1000)(ha:ly ["Room"] "log" T=.ok (.lst rows)):oE [T,.str aw,.int n]=.ok (.bl (jF rows aw n)):=by
 show eI (gF.1 [.sh T,.sh (.str aw),.sh (.int n)])=_;unfold gF;have L:Io (.int n) (.int 1)=.ok (.int (n - 1)):=rfl;simp only[ev,bw,ha,Qv h.w hf (by omega),FR,gj,L];unfold jF;cases e:(sb aw rows).1.contains n with
 |false=>rfl
 |true=>
  obtain⟨a,b,us,g⟩:=h.at_ (h.l aw n (ck.mp e));simp only[g,ev,bw,hJ,aP,jO]
def XT(rows:List Tr)(aw:Str):Tr->Bool
 |.int n=>!jF rows aw n
 |_=>false
def zu(t:Tr):Prop:=t=.bL\/∃n:Int,t=.int n/\0<=n/\n<1000
def QR{r:Str}(h:r∈eN):(r==("guest":Str))=(lvl r==0):=by
 have:r="guest"\/r="speaker"\/r="keeper"\/r="owner":=by simpa using h
 rcases this with rfl|rfl|rfl|rfl<;>decide
theorem AD{n:Int}(h:0<=n/\n<1000):∃z,L4 (.int n)=.ok (.str z)/\z.length<=1000:=by
 have all:∀k<1000,(((k:Nat):Int).natAbs.log2<1920/\(Str.ofString (toString ((k:Nat):Int))).length<=1000):=by decide
 have q:=all n.toNat (by omega);rw[show((n.toNat:Nat):Int)=n by omega]at q;exact⟨_,ay ⟨q.1,bI q.2 (by decide)⟩,q.2⟩
def UH{aw:Str}(h:RA A i rows ar ents (yw d v p) bn iv)(tu:dz rows)(fr:∀t∈rows,∃us,t=.tup us/\us.all qY=true)(se:Seen rows ar v)(k:cC ar ents ent)(hw:aw.length<=1000)(M:rows.length<=1000)(g:zu kh):
  r_ [.at i,.str aw,.str words,kh] A=fX A (.ok (.int (rows.length+1)) (A.set (i+1) (kP rows aw "say" [.str words,kh]))) [((ar.lookup aw).isNone,"NotIn","not in"),(v==("some":Str)&&fi ar aw==0,"NoRight","no right"),(XT rows aw kh,"NoRow","no row")]:=by
 show bf (n5.1 [.sh (.at i),.sh (.str aw),.sh (.str words),.sh kh] A)=_;unfold n5;simp only[ev,bw,bT,bZ,h.call (m:="need_in") rfl,kO h tu hw];refine qT (λq=>by simp only[q,aP,ev]) λq=>?_
 obtain⟨r,L⟩:∃r,ar.lookup aw=some r:=by cases e:ar.lookup aw with
  |none=>rw[e]at q;cases q
  |some r=>exact⟨r,rfl⟩
 have rk:fi ar aw=lvl r:=by unfold fi;rw[L]
 obtain⟨s1,e1⟩:=jC (z:=aw) (acc:=Str.empty) (n:=0) (k:=λacc=>eP (.ok (.str " is a guest, and the voice is some")) (λacc=>pN acc) acc) (aZ 0) hw (by decide) λa g=>jC g (by decide) (by decide) λa g=>jN (by omega);have ch:ib (.bh (dP .str (yw d v p))) (.str "voice")=.ok (.str v):=by rw[dv];rfl
 simp only[q,bP,bq,ev];have g1:Ii (.ok (v==("some":Str))) (.ok (r==("guest":Str)))=.ok (v==("some":Str)&&fi ar aw==0):=by
  rw[rk,<-QR (k.lk L)];cases v==("some":Str)<;>rfl
 simp only[ev,bw,bT,bZ,h.Qk (de tu),h.oR (de tu),ch,dv,L,cA,kc,g1];refine qT (λq=>by simp only[q,ev,bw,bT,e1]) λq=>?_
 simp only[q,ev,bw,bT,bZ];have S:jT [.str words,kh]=true:=by rcases g with rfl|⟨n,rfl,_⟩<;>rfl
 have w:=iD (aw:=aw) (c9:="say") (ps:=[.str words,kh]) h (de tu) (nk M (by decide)) (by show 3+2<=cX;decide) S;have fz:∀A,lU (.ok (.tup [.str words,kh])) A=.ok (.tup [.str words,kh]) A:=λA=>ay S;have th:∀n A,aJ n A kh=kh:=λn A=>by rcases g with rfl|⟨m,rfl,_⟩<;>simp only[bZ]
 simp only[th];rcases g with rfl|⟨n,rfl,hn⟩
 .have I:LJ .bL .bL=.ok (.bl false):=rfl;refine qT (λq=>by cases q) λ_=>?_
  simp only[I,ev,bw,bT,bZ,fz,h.call (m:="write_row") rfl,w,fX]
 .have I:LJ (.int n) .bL=.ok (.bl true):=rfl;obtain⟨z,ez,lz⟩:=AD hn;obtain⟨s2,e2⟩:=jC (z:=aw) (acc:=Str.empty) (n:=0) (k:=λacc=>eP (.ok (.str " sees nothing said as ")) (λacc=>eP (.ok (.str z)) (λacc=>pN acc) acc) acc) (aZ 0) hw (by decide) λa g=>jC g (by decide) (by decide) λa g=>jC g lz (by decide) λa g=>jN (by omega);have tb:∀b,lR (.bl b)=.ok b:=λ_=>rfl;simp only[I,ev,bw,bT,bZ,h.gn (n:=4) (m:="sees_say") rfl,Kh (aw:=aw) (n:=n) se fr M (h.GW (de tu)),tb];refine qT (λq=>?_) λq=>?_
  .have q:(!jF rows aw n)=true:=q;simp only[q,ev,bw,bT,bZ,ez,e2]
  .have q:(!jF rows aw n)=false:=q;simp only[q,ev,bw,bT,bZ,fz,h.call (m:="write_row") rfl,w,fX]
theorem Za:∀{cs:List (Bool×Str×Str)},bf (Gx (fX A (.ok u b) cs))=fX A (.ok u b) cs
 |[]=>rfl
 |(true,_,_)::cs=>rfl
 |(false,_,_)::cs=>Za (cs:=cs)
def UI{aw:Str}(g:bz A aA b8)(hi:b8.lookup c8=some i)(h:RA A i rows ar ents S bn iv)(hw:aw.length<=1000)(r:zu kh)(I:r_ [.at i,.str aw,.str words,kh] A=fX A (.ok u q) cs):
  cj [.at 0,.tup [.str "say",.str aw,.str c8,.str words,kh]] A=fX A (.ok u q) ((!(aA.lookup aw).isSome,"NoPerson","no person")::cs):=by
 have L:∀A,lU (.ok kh) A=.ok kh A:=λA=>by rcases r with rfl|⟨n,rfl,_⟩<;>simp only[ev]
 show bf (bR.1 [.sh (.at 0),.sh (.tup [.str "say",.str aw,.str c8,.str words,kh]),.no] A)=_;unfold bR;simp only[ev,bw,bT,bZ,hJ,aQ,aR,sn,String.reduceBEq,aU,g.call (m:="say") rfl,L,Hk];have M:xX [.at 0,.str aw,.str c8,.str words,kh] A=fX A (.ok u q) ((!(aA.lookup aw).isSome,"NoPerson","no person")::cs):=by
  show bf (oj.1 [.sh (.at 0),.sh (.str aw),.sh (.str c8),.sh (.str words),.sh kh] A)=_;unfold oj;simp only[ev,bw,bT,bZ,g.call (m:="place_for") rfl,(qi (b:=aw)).1,iZ g hw hi];cases(aA.lookup aw).isSome with
  |false=>rfl
  |true=>simp only[aP,ev,bw,bT,bZ,h.call (m:="say") rfl,I,Za];rfl
 exact M
def MY(q:cj [.at 0,.tup ts] A=.ok (.int m) A1):fQ [.at 0,.tup ts] A=.ok (.int m) A1:=by
 show bf (jk.1 [.sh (.at 0),.sh (.tup ts),.no,.no,.no] A)=_;unfold jk;have tz:∀o A G,BW 5 4 ["Known","NoPerson","NoRoom","NotIn","NotAsked","Barred","NoRight","NoRow","NoHand","NoLine"] (.ok o A) G=.ok o A:=λ_ _ _=>rfl;have L:LH .bL .bL=.ok (.bl true):=rfl;simp only[ev,bw,bT,bZ,aQ,aR,q,tz,L]
def UJ(h:aT A j ks kb ka rows aO stays aH asked d v p)(f:dz rows)(b:c_ A bB d4)(g:d4.lookup c8=some j)(q:rows.length<cX)(r:zu kh):
  ∃A',cP [.at 4,.tup [.str "say",.str aw,.str c8,.str words,kh]] A=.ok (.int (rows.length+1)) A'/\dX A A' (jS j ks kb ka)/\aT A' j ks kb ka (rows++[d7 rows aw "say" [.str words,kh]]) aO stays aH asked d v p:=by
 have L:jT [.str "say",.str words,kh]=true:=by rcases r with rfl|⟨n,rfl,_⟩<;>rfl
 have w:=jA (aw:=aw) (ps:=[.str "say",.str words,kh]) h f q (by show 2+3<=cX;decide) L;refine⟨_,?_,dX.put (o:=.lst (rows++[d7 rows aw "say" [.str words,kh]])) h.rw (by simp),h.uU (Ext.put h.rw)⟩;show bf (fy.1 [.sh (.at 4),.sh (.tup [.str "say",.str aw,.str c8,.str words,kh]),.no,.no,.no] A)=_;unfold fy;have s1:fZ (.ok (.tup [.str "say",.str aw,.str c8,.str words,kh])) (.ok none) (m9 (.ok (.int 2)))=.ok (.tup [.str "say",.str aw]):=rfl;have s2:fZ (.ok (.tup [.str "say",.str aw,.str c8,.str words,kh])) (.ok none) (m9 (.ok (.int 1)))=.ok (.tup [.str "say"]):=rfl;have s3:fZ (.ok (.tup [.str "say",.str aw,.str c8,.str words,kh])) (m9 (.ok (.int 3))) (.ok none)=.ok (.tup [.str words,kh]):=rfl;have s4:oP (.tup [.str "say"]) (.tup [.str words,kh])=.ok (.tup [.str "say",.str words,kh]):=rfl;have s5:∀A,lU (.ok (.tup [.str "say",.str words,kh])) A=.ok (.tup [.str "say",.str words,kh]) A:=λ_=>ay L;simp only[ev,bw,bT,bZ,hJ,s1,s2,s3,s4,s5,qi,KA,sn,String.reduceBEq,aU,f_,b.Mv,um b.rs,dv,g,cA,kc,aQ,aR,w]
def gX.fr (h:gX rows):∀t∈rows,∃us,t=.tup us/\us.all qY=true:=λt L=>by obtain⟨us,e,f,_⟩:=h t L;exact⟨us,e,f⟩
theorem UK(P:Pr A i j D t)(S:bz A aA b8)(hM:c_ A bB d4)(hi:b8.lookup c8=some i)(hj:d4.lookup c8=some j)(h6:aw∈six)(I:zu kh)(ht:t<=400):Res A i j D t [.str "say",.str aw,.str c8,.str words,kh]:=by
 have tu:=P.g.fr.tu;have hs:=cH h6;have b1:=P.b.b1;have b2:=P.b.b2;have b3:=P.b.b3;have b4:=P.b.b4;have b5:=P.b.b5;have b6:=P.b.b6;have b7:=P.b.b7;have fa:qY kh=true:=by rcases I with rfl|⟨n,rfl,_⟩<;>rfl
 have M:=UI (c8:=c8) S hi P.r hs I (UH (aw:=aw) (words:=words) P.r tu P.g.fr.fr P.se P.g.rk hs (by omega) I);refine iG P M (by simp) λall=>?_
 have g:=P.g.row (us:=[.int (D.rows.length+1),.str aw,.str "say",.str words,kh]) (by show(true&&(true&&(true&&(true&&(qY kh&&true)))))=true;rw[fa];rfl) (by show 5<=10;decide);refine CH (u:=.int (D.rows.length+1)) (D':=Dr D aw "say" [.str words,kh]) P hM (λ_ _ L q=>MQ (MY L) q) ⟨_,M.trans (yv all),dX.put P.r.lg (by simp),P.r.l6 (Ext.put P.r.lg)⟩ (λA1 yy m=>?_) g ⟨by show(D.rows++[_]).length<=_;rw[fS];omega,by show D.ar.length<=_;omega,by show D.ents.length<=_;omega,by show D.stays.length<=_;omega,by show D.asked.length<=_;omega,by show D.aH.length<=_;omega,by show D.inv.length<=_;omega⟩ (P.se.add (by omega) (.say (by
   have L:=all ((D.ar.lookup aw).isNone,"NotIn","not in") (by simp);have q:=all (D.v==("some":Str)&&fi D.ar aw==0,"NoRight","no right") (by simp);obtain⟨r,hr⟩:=uE L;have b:=x_ r;rw[iF hr]at q⊢;by_cases e:lvl r=0
   .refine .inr ⟨e,P.se.v.resolve_right λe2=>?_⟩;rw[e,e2]at q;exact absurd q (by decide)
   .exact .inl (by omega))))
 obtain⟨A4,L,t1,m1⟩:=UJ (aw:=aw) (words:=words) m tu yy hj (bF (by omega)) I;exact⟨A4,_,_,_,L,t1,m1,zr⟩
theorem FT{f:α->Bool}:∀{l:List α},DC (l.map λa=>Tr.bl (f a))=.ok (l.map f)
 |[]=>rfl
 |a::l=>by rw[aX,DC,FT];rfl
theorem MZ(h:Seen rows ar v)(b:rows.length<=1000)(ha:ly ["Room"] "log" T=.ok (.lst rows)):iK [T,.int n]=.ok (.bl (rows.any (Ep n))):=by
 show eI (ee.1 [.sh T,.sh (.int n)])=_;unfold ee;simp only[ev,bw,ha];rw[jc (zj:=[.sh (.int n)]) (c:=.no) (λ_=>true) id (λt=>.bl (Ep n t)) (xs:=rows) (by rw[mC];rfl) (bI b (by decide)) rfl (λ_ _=>rfl) λt L _=>?_]
 .rw[k_.mpr λ_ _=>rfl];have e:P7 [.lst (rows.map λt=>.bl (Ep n t))]=.ok (.bl ((rows.map λt=>Ep n t).any id)):=by
   show(DC (rows.map λt=>Tr.bl (Ep n t))).bind _=_;rw[FT];rfl
  simp only[ev,bw,e,sV];rfl
 .obtain⟨m,z,w,ps,rfl,R⟩:=h.w t L;simp only[ev,bw,hJ,id];by_cases hw:w="gone"
  .obtain⟨k,r,rfl⟩:=R.g hw;subst hw;simp only[hJ,ev,bw,aU,gj,aP]
   rfl
  .have:(w==("gone":Str))=false:=gB.mpr hw;simp only[this,gj,bP,bq];unfold Ep;split
   .rename_i e;cases e;rw[this];rfl
   .rfl
def sj(rows:List Tr)(n:Int):Str:=match rows[(n - 1).toNat]? with
 |some (.tup (_:: .str z::_))=>z
 |_=>Str.empty
theorem Seen.Zb {v:Str}(h:Seen rows ar v)(q:jF rows aw n=true)(hb:rows.any (Ep n)=false):Std rows n (sj rows n):=by
 unfold jF at q;rw[bC]at q;have b:=h.l aw n (ck.mp q.1);have L:(n - 1).toNat<rows.length:=by omega
 obtain⟨m,z,w,ps,e,_⟩:=h.w _ (mq L);have g:rows[(n - 1).toNat]?=some (.tup (.int m:: .str z:: .str w::ps)):=by rw[cI L,e]
 have r:wordAt rows n=w:=by unfold wordAt;rw[g]
 have I:sj rows n=z:=by unfold sj;rw[g]
 rw[r]at q;have M:w="say":=by simpa using q.2
 subst M;rw[I];exact⟨b,⟨m,ps,g⟩,λt S=>by simpa using(List.any_eq_false.mp hb) t S⟩
def zv(h:Seen rows ar v)(q:jF rows aw n=true)(ha:ly ["Room"] "log" T=.ok (.lst rows)):gH [T,.str aw,.int n]=.ok (.bl (sj rows n==aw)):=by
 unfold jF at q;rw[bC]at q;have I:=h.l aw n (ck.mp q.1);have L:(n - 1).toNat<rows.length:=by omega
 obtain⟨m,z,w,ps,e,_⟩:=h.w _ (mq L);have g:rows[(n - 1).toNat]?=some (.tup (.int m:: .str z:: .str w::ps)):=by rw[cI L,e]
 have b:sj rows n=z:=by unfold sj;rw[g]
 have a:=nv (xs:=rows) (j:=(n - 1).toNat) g;rw[qe (by omega)]at a;have e:ib (.lst rows) (.int (n - 1))=.ok (.tup (.int m:: .str z:: .str w::ps)):=by show kc (L2.rn rows (n - 1))=_;rw[a];rfl
 show eI (gG.1 [.sh T,.sh (.str aw),.sh (.int n)])=_;unfold gG;have r:Io (.int n) (.int 1)=.ok (.int (n - 1)):=rfl;simp only[ev,bw,ha,r,e,hJ,b]
theorem zw{n:Int}(h:RA A i rows ar ents (yw d v p) bn iv)(tu:dz rows)(fr:∀t∈rows,∃us,t=.tup us/\us.all qY=true)(g:Seen rows ar v)(hw:aw.length<=1000)(r:rows.length<=1000)(I:0<=n/\n<1000):
  oH [.at i,.str aw,.int n] A=fX A (.ok .bL A) [(!jF rows aw n||rows.any (Ep n),"NoRow","no row")]:=by
 have M:=MZ (n:=n) g r (h.GW (de tu));obtain⟨z,S,lz⟩:=AD I;obtain⟨s2,e2⟩:=jC (z:=aw) (acc:=Str.empty) (n:=0) (k:=λacc=>eP (.ok (.str " sees nothing said as ")) (λacc=>eP (.ok (.str z)) (λacc=>eP (.ok (.str " that stands")) (λacc=>pN acc) acc) acc) acc) (aZ 0) hw (by decide) λa L=>jC L (by decide) (by decide) λa L=>jC L lz (by decide) λa L=>jC L (by decide) (by decide) λa L=>jN (by omega);show bf (gJ.1 [.sh (.at i),.sh (.str aw),.sh (.int n)] A)=_;unfold gJ;have tb:∀b,lR (.bl b)=.ok b:=λ_=>rfl;have ob:∀a b,Vc (.ok a) (.ok b)=.ok (a||b):=λa b=>by cases a<;>rfl
 simp only[ev,bw,bT,bZ,h.gn (n:=4) (m:="sees_say") rfl,h.gn (n:=4) (m:="was_taken_back") rfl,Kh (aw:=aw) (n:=n) g fr r (h.GW (de tu)),M,tb,ob];refine qT (λq=>?_) λq=>?_
 .simp only[q,ev,bw,bT,bZ,S,e2]
 .simp only[q,ev,bw,bT,bZ,fX]
theorem QU{n:Int}(h:RA A i rows ar ents (yw d v p) bn iv)(tu:dz rows)(fr:∀t∈rows,∃us,t=.tup us/\us.all qY=true)(g:Seen rows ar v)(hw:aw.length<=1000)(r:rows.length<=1000)(I:0<=n/\n<1000):
  p7 [.at i,.str aw,.int n,.str words] A=fX A (.ok .bL (A.set (i+1) (kP rows aw "mend" [.int n,.str words]))) [((ar.lookup aw).isNone,"NotIn","not in"),(!jF rows aw n||rows.any (Ep n),"NoRow","no row"),(!(sj rows n==aw),"NoRight","no right")]:=by
 have S:=zw (n:=n) h tu fr g hw r I;obtain⟨z,ez,lz⟩:=AD I;obtain⟨s2,e2⟩:=jC (z:=aw) (acc:=Str.empty) (n:=0) (k:=λacc=>eP (.ok (.str " did not say ")) (λacc=>eP (.ok (.str z)) (λacc=>pN acc) acc) acc) (aZ 0) hw (by decide) λa L=>jC L (by decide) (by decide) λa L=>jC L lz (by decide) λa L=>jN (by omega);have M:(!jF rows aw n||rows.any (Ep n))=false->gH [aJ 5 A (.at i),.str aw,.int n]=.ok (.bl (sj rows n==aw)):=λq=>zv g (by simpa using(hV.mp q).1) (h.GW (de tu));generalize hc:(sj rows n==aw)=c at M⊢;show bf (lH.1 [.sh (.at i),.sh (.str aw),.sh (.int n),.sh (.str words)] A)=_;unfold lH;simp only[ev,bw,bT,bZ,h.call (m:="need_in") rfl,kO h tu hw];refine qT (λq=>by simp only[q,aP,ev]) λq=>?_
 simp only[q,bP,bq,ev,bw,bT,bZ,h.call (m:="need_say") rfl,S];refine qT (λq=>by simp only[q,fX,aP,ev]) λq=>?_
 have w:=iD (aw:=aw) (c9:="mend") (ps:=[.int n,.str words]) h (de tu) (nk r (by decide)) (by show 3+2<=cX;decide) rfl;have tb:∀b,lR (.bl b)=.ok b:=λ_=>rfl;have fz:∀A,lU (.ok (.tup [.int n,.str words])) A=.ok (.tup [.int n,.str words]) A:=λA=>rfl;simp only[q,fX,bP,bq,ev,bw,bT,bZ,h.gn (n:=4) (m:="has_said") rfl,M q,tb];cases c with
 |true=>simp only[ev,bw,bT,bZ,dM,bP,bq,h.call (m:="write_row") rfl,fz,w]
 |false=>simp only[ev,bw,bT,bZ,dJ,aP,ez,e2]
def QV(g:bz A aA b8)(hi:b8.lookup c8=some i)(h:RA A i rows ar ents I bn iv)(hw:aw.length<=1000)(q:p7 [.at i,.str aw,.int n,.str words] A=fX A (.ok .bL r) cs):
  cj [.at 0,.tup [.str "mend",.str aw,.str c8,.int n,.str words]] A=fX A (.ok .bL r) ((!(aA.lookup aw).isSome,"NoPerson","no person")::cs):=by
 show bf (bR.1 [.sh (.at 0),.sh (.tup [.str "mend",.str aw,.str c8,.int n,.str words]),.no] A)=_;unfold bR;simp only[ev,bw,bT,bZ,hJ,aQ,aR,sn,String.reduceBEq,aU,g.call (m:="mend") rfl,Hk];show bf (lJ.1 [.sh (.at 0),.sh (.str aw),.sh (.str c8),.sh (.int n),.sh (.str words)] A)=_;unfold lJ;simp only[ev,bw,bT,bZ,g.call (m:="place_for") rfl,(qi (b:=aw)).1,iZ g hw hi];cases(aA.lookup aw).isSome with
 |false=>rfl
 |true=>simp only[aP,ev,bw,bT,bZ,h.call (m:="mend") rfl,q,NS];rfl
def QX(h:aT A j ks kb ka rows aO stays aH asked d v p)(f:dz rows)(b:rows.length<cX):
  ∃A',dU [.at j,.tup [.str "mend",.str aw,.str c8,.int n,.str words]] A=.ok .bL A'/\dX A A' (jS j ks kb ka)/\aT A' j ks kb ka (rows++[d7 rows aw "mend" [.int n,.str words]]) aO stays aH asked d v p:=by
 have h0:=h.ext (Ext.push (o:=.bh uF)) λ_ _=>rfl;have w:=jA (aw:=aw) (ps:=[.str "mend",.int n,.str words]) h0 f b (by show 2+3<=cX;decide) rfl;refine⟨_,?_,(dX.push (A:=A) (o:=.bh uF) (S:=jS j ks kb ka)).trans (dX.put (o:=.lst (rows++[d7 rows aw "mend" [.int n,.str words]])) h0.rw (by simp)),h0.uU (Ext.put h0.rw)⟩;show bf (bU.1 [.sh (.at j),.sh (.tup [.str "mend",.str aw,.str c8,.int n,.str words]),.no,.no,.no,.no] A)=_;unfold bU;have s1:fZ (.ok (.tup [.str "mend",.str aw,.str c8,.int n,.str words])) (.ok none) (m9 (.ok (.int 2)))=.ok (.tup [.str "mend",.str aw]):=rfl;have s2:fZ (.ok (.tup [.str "mend",.str aw,.str c8,.int n,.str words])) (m9 (.ok (.int 3))) (.ok none)=.ok (.tup [.int n,.str words]):=rfl;have s3:pI (.ok (.bh uF)) (.ok (.str "mend")) (.ok (.str "mend"))=.ok (.str "mend"):=rfl;have s4:oP (.tup [.str "mend"]) (.tup [.int n,.str words])=.ok (.tup [.str "mend",.int n,.str words]):=rfl;have s5:∀A,lU (.ok (.tup [.str "mend",.int n,.str words])) A=.ok (.tup [.str "mend",.int n,.str words]) A:=λ_=>rfl;have L:yW (.str "mend") (.tup [.str "out",.str "bar"])=.ok (.bl false):=rfl;simp only[ev,bw,bT,bZ,hJ,s1,qi,KA,NU,NV,aQ,aR,s2,s3,s4,s5,w,sn,String.reduceBEq,aU,L]
def QY{n:Int}(P:Pr A i j D t)(S:bz A aA b8)(hM:c_ A bB d4)(hi:b8.lookup c8=some i)(hj:d4.lookup c8=some j)(h6:aw∈six)(hn:0<=n/\n<1000)(ht:t<=400):Res A i j D t [.str "mend",.str aw,.str c8,.int n,.str words]:=by
 have tu:=P.g.fr.tu;have hs:=cH h6;have b1:=P.b.b1;have b2:=P.b.b2;have b3:=P.b.b3;have b4:=P.b.b4;have b5:=P.b.b5;have b6:=P.b.b6;have b7:=P.b.b7;have hR:=QU (words:=words) P.r tu P.g.fr.fr P.se hs (by omega) hn;have I:=QV (c8:=c8) S hi P.r hs hR;refine iG P I (by simp) λall=>?_
 have L:=all (!jF D.rows aw n||D.rows.any (Ep n),"NoRow","no row") (by simp);rw[hV]at L;have M:=P.se.Zb (by simpa using L.1) L.2;have g:=P.g.row (us:=[.int (D.rows.length+1),.str aw,.str "mend",.int n,.str words]) rfl (by show 5<=10;decide);refine jf (D':=Dr D aw "mend" [.int n,.str words]) P hM ⟨_,I.trans (yv all),dX.put P.r.lg (by simp),P.r.l6 (Ext.put P.r.lg)⟩ (λA1 yy m=>?_) g ⟨by show(D.rows++[_]).length<=_;rw[fS];omega,by show D.ar.length<=_;omega,by show D.ents.length<=_;omega,by show D.stays.length<=_;omega,by show D.asked.length<=_;omega,by show D.aH.length<=_;omega,by show D.inv.length<=_;omega⟩ (P.se.add (by omega) (.Hb (by
   have q:=all (!(sj D.rows n==aw),"NoRight","no right") (by simp);rw[show sj D.rows n=aw by simpa using q]at M;exact M)))
 obtain⟨A4,q1,t1,m1⟩:=QX (aw:=aw) (c8:=c8) (words:=words) (n:=n) m tu (bF (by omega));obtain⟨A2,L,t2,m2⟩:=oq m1 g.fr.tu P.g.rk P.g.op P.g.ow (by rw[fS];exact bF (by omega)) (cG (bF (by omega))) (bF (by omega));exact⟨A2,_,_,_,p8 (.inr (.inr (.inr (.inr (.inr (.inr (.inl rfl))))))) yy hj q1 L rfl,t1.trans (t2 _ _ _),m2,zr⟩
def QZ{n:Int}(h:RA A i rows ar ents (yw d v p) bn iv)(tu:dz rows)(fr:∀t∈rows,∃us,t=.tup us/\us.all qY=true)(g:Seen rows ar v)(k:cC ar ents ent)(hw:aw.length<=1000)(r:rows.length<=1000)(S:0<=n/\n<1000):
  iY [.at i,.str aw,.int n] A=fX A (.ok .bL (A.set (i+1) (kP rows aw "gone" [.int n]))) [((ar.lookup aw).isNone,"NotIn","not in"),(!jF rows aw n||rows.any (Ep n),"NoRow","no row"),(!(sj rows n==aw)&&decide (fi ar aw<2),"NoRight","no right")]:=by
 have eb:=zw (n:=n) h tu fr g hw r S;have L:(!jF rows aw n||rows.any (Ep n))=false->gH [aJ 5 A (.at i),.str aw,.int n]=.ok (.bl (sj rows n==aw)):=λq=>zv g (by simpa using(hV.mp q).1) (h.GW (de tu));generalize hc:(sj rows n==aw)=c at L⊢;show bf (gg.1 [.sh (.at i),.sh (.str aw),.sh (.int n)] A)=_;unfold gg;simp only[ev,bw,bT,bZ,h.call (m:="need_in") rfl,kO h tu hw];refine qT (λq=>by simp only[q,aP,ev]) λI=>?_
 simp only[I,bP,bq,ev,bw,bT,bZ,h.call (m:="need_say") rfl,eb];refine qT (λq=>by simp only[q,fX,aP,ev]) λq=>?_
 have w:=iD (aw:=aw) (c9:="gone") (ps:=[.int n]) h (de tu) (nk r (by decide)) (by show 3+1<=cX;decide) rfl;have tb:∀b,lR (.bl b)=.ok b:=λ_=>rfl;have M:∀A,lU (.ok (.tup [.int n])) A=.ok (.tup [.int n]) A:=λA=>rfl;simp only[q,fX,bP,bq,ev,bw,bT,bZ,h.gn (n:=4) (m:="has_said") rfl,L q,tb];cases c with
 |true=>simp only[ev,bw,bT,bZ,dM,mz,bP,bq,h.call (m:="write_row") rfl,M,w]
 |false=>
  simp only[ev,bw,bT,bZ,dJ,jO,h.call (m:="need_keeper") rfl,JY h tu k hw I];cases decide (fi ar aw<2)with
  |true=>simp only[aP,ev]
  |false=>simp only[bP,bq,ev,bw,bT,bZ,h.call (m:="write_row") rfl,M,w]
def XU:bf (Gx X)=X:=by cases X<;>rfl
def Q0(g:bz A aA b8)(hi:b8.lookup c8=some i)(h:RA A i rows ar ents I bn iv)(hw:aw.length<=1000)(q:iY [.at i,.str aw,.int n] A=fX A (.ok .bL r) cs):
  cj [.at 0,.tup [.str "take_back",.str aw,.str c8,.int n]] A=fX A (.ok .bL r) ((!(aA.lookup aw).isSome,"NoPerson","no person")::cs):=by
 show bf (bR.1 [.sh (.at 0),.sh (.tup [.str "take_back",.str aw,.str c8,.int n]),.no] A)=_;unfold bR;simp only[ev,bw,bT,bZ,hJ,aQ,aR,sn,String.reduceBEq,aU,g.call (m:="take_back") rfl,XU];show bf (gi.1 [.sh (.at 0),.sh (.str aw),.sh (.str c8),.sh (.int n)] A)=_;unfold gi;simp only[ev,bw,bT,bZ,g.call (m:="place_for") rfl,(qi (b:=aw)).1,iZ g hw hi];cases(aA.lookup aw).isSome with
 |false=>rfl
 |true=>simp only[aP,ev,bw,bT,bZ,h.call (m:="take_back") rfl,q,NS];rfl
def Q1(h:aT A j ks kb ka rows aO stays aH asked d v p)(f:dz rows)(b:rows.length<cX):
  ∃A',dU [.at j,.tup [.str "take_back",.str aw,.str c8,.int n]] A=.ok .bL A'/\dX A A' (jS j ks kb ka)/\aT A' j ks kb ka (rows++[d7 rows aw "gone" [.int n]]) aO stays aH asked d v p:=by
 have h0:=h.ext (Ext.push (o:=.bh uF)) λ_ _=>rfl;have w:=jA (aw:=aw) (ps:=[.str "gone",.int n]) h0 f b (by show 2+2<=cX;decide) rfl;refine⟨_,?_,(dX.push (A:=A) (o:=.bh uF) (S:=jS j ks kb ka)).trans (dX.put (o:=.lst (rows++[d7 rows aw "gone" [.int n]])) h0.rw (by simp)),h0.uU (Ext.put h0.rw)⟩;show bf (bU.1 [.sh (.at j),.sh (.tup [.str "take_back",.str aw,.str c8,.int n]),.no,.no,.no,.no] A)=_;unfold bU;have s1:fZ (.ok (.tup [.str "take_back",.str aw,.str c8,.int n])) (.ok none) (m9 (.ok (.int 2)))=.ok (.tup [.str "take_back",.str aw]):=rfl;have s2:fZ (.ok (.tup [.str "take_back",.str aw,.str c8,.int n])) (m9 (.ok (.int 3))) (.ok none)=.ok (.tup [.int n]):=rfl;have s3:pI (.ok (.bh uF)) (.ok (.str "take_back")) (.ok (.str "take_back"))=.ok (.str "gone"):=rfl;have s4:oP (.tup [.str "gone"]) (.tup [.int n])=.ok (.tup [.str "gone",.int n]):=rfl;have s5:∀A,lU (.ok (.tup [.str "gone",.int n])) A=.ok (.tup [.str "gone",.int n]) A:=λ_=>rfl;have L:yW (.str "take_back") (.tup [.str "out",.str "bar"])=.ok (.bl false):=rfl;simp only[ev,bw,bT,bZ,hJ,s1,qi,KA,NU,NV,aQ,aR,s2,s3,s4,s5,w,sn,String.reduceBEq,aU,L]
def Q2{n:Int}(P:Pr A i j D t)(M:bz A aA b8)(S:c_ A bB d4)(hi:b8.lookup c8=some i)(hj:d4.lookup c8=some j)(h6:aw∈six)(hn:0<=n/\n<1000)(ht:t<=400):Res A i j D t [.str "take_back",.str aw,.str c8,.int n]:=by
 have tu:=P.g.fr.tu;have hs:=cH h6;have b1:=P.b.b1;have b2:=P.b.b2;have b3:=P.b.b3;have b4:=P.b.b4;have b5:=P.b.b5;have b6:=P.b.b6;have b7:=P.b.b7;have hR:=QZ P.r tu P.g.fr.fr P.se P.g.rk hs (by omega) hn;have I:=Q0 (c8:=c8) M hi P.r hs hR;refine iG P I (by simp) λall=>?_
 have L:=all (!jF D.rows aw n||D.rows.any (Ep n),"NoRow","no row") (by simp);rw[hV]at L;have sd:=P.se.Zb (by simpa using L.1) L.2;have g:=P.g.row (us:=[.int (D.rows.length+1),.str aw,.str "gone",.int n]) rfl (by show 4<=10;decide);refine jf (D':=Dr D aw "gone" [.int n]) P S ⟨_,I.trans (yv all),dX.put P.r.lg (by simp),P.r.l6 (Ext.put P.r.lg)⟩ (λA1 yy m=>?_) g ⟨by show(D.rows++[_]).length<=_;rw[fS];omega,by show D.ar.length<=_;omega,by show D.ents.length<=_;omega,by show D.stays.length<=_;omega,by show D.asked.length<=_;omega,by show D.aH.length<=_;omega,by show D.inv.length<=_;omega⟩ (P.se.add (by omega) (.gone sd (by
   have q:=all (!(sj D.rows n==aw)&&decide (fi D.ar aw<2),"NoRight","no right") (by simp);rw[sG]at q;rcases q with q|q
   .exact .inl (by simpa using q)
   .exact .inr (by simp only[gz]at q;omega))))
 obtain⟨A4,q1,t1,m1⟩:=Q1 (aw:=aw) (c8:=c8) (n:=n) m tu (bF (by omega));obtain⟨A2,L,t2,m2⟩:=oq m1 g.fr.tu P.g.rk P.g.op P.g.ow (by rw[fS];exact bF (by omega)) (cG (bF (by omega))) (bF (by omega));exact⟨A2,_,_,_,p8 (.inr (.inr (.inr (.inr (.inr (.inr (.inr rfl))))))) yy hj q1 L rfl,t1.trans (t2 _ _ _),m2,zr⟩
def mix(c p m:Int):Int:=(c*48271 % p)*(c*48271 % p+7) % p % m
def i5{m:Int}(hm:0<m):0<=mix c p m/\mix c p m<m:=⟨wJ _ (by omega),Int.emod_lt_of_pos _ hm⟩
def Ki(h:xn i j):Dv (.int i) (.int j)=.ok (.int (i*j)):=ay h
def Er{j:Int}(h:0<j):Bv (.int i) (.int j)=.ok (.int (i % j)):=ay h
def FU(c p m:Int)(b:0<p)(I:p<=1048576)(hm:0<m):Az [.int c,.int p,.int m]=.ok (.int (mix c p m)):=by
 have M:0<=c*48271 % p:=wJ _ (by omega);have S:c*48271 % p<p:=Int.emod_lt_of_pos _ b;show eI (v5.1 [.sh (.int c),.sh (.int p),.sh (.int m),.no])=_;unfold v5;have L:Dv (.int c) (.int 48271)=.ok (.int (c*48271)):=ay (.inr ⟨by decide,by decide⟩);have g:∀a,Bv (.int a) (.int p)=.ok (.int (a % p)):=λa=>ay b;have q:Dv (.int (c*48271 % p)) (.int (c*48271 % p+7))=.ok (.int ((c*48271 % p)*(c*48271 % p+7))):=ay (.inl ⟨by omega,by omega⟩);have r:∀a,Bv (.int a) (.int m)=.ok (.int (a % m)):=λa=>ay hm;simp only[ev,bw,L,g,q,r,aQ,aR,mix]
def Q3(ns:List Int)(k:Int)(h:0<=k):∃c,Cw [.vg ns,.int k]=.ok (.int c):=by
 show∃c,eI (Dq (SR (.ok (decide (k<(ns.length:Int)))) (Lr ((kc (L2.rn ns k)).bind λn=>.ok (.int n))) (.ok (.nx [.sh (.vg ns),.sh (.int k)]))) λY=>Lr (Rs.ok (.int 0)))=_;by_cases L:k<(ns.length:Int)
 .have b:k.toNat<ns.length:=by omega
  have e:L2.rn ns k=some (ns[k.toNat]):=by
   have q:=nv (xs:=ns) (j:=k.toNat) (cI b);rw[qe h]at q;exact q
  rw[dA L,e];exact⟨_,rfl⟩
 .rw[fV L];exact⟨0,rfl⟩
def AE{l:List Tr}{k:Int}(h0:0<=k)(b:k<l.length):∃t∈l,ib (.tup l) (.int k)=.ok t/\ib (.lst l) (.int k)=.ok t:=by
 have L:k.toNat<l.length:=by omega
 have q:=nv (xs:=l) (j:=k.toNat) (cI L);rw[qe h0]at q;exact⟨l[k.toNat],mq _,by show kc (L2.rn l k)=_;rw[q];rfl,by show kc (L2.rn l k)=_;rw[q];rfl⟩
def NZ{l:List Str}{k:Int}(h0:0<=k)(g:k<l.length):∃z∈l,ib (.tup (l.map .str)) (.int k)=.ok (.str z):=by
 obtain⟨t,L,e,_⟩:=AE (l:=l.map .str) h0 (by rwa[aY]);obtain⟨z,b,rfl⟩:=bV.mp L;exact⟨z,b,e⟩
abbrev M0:List Str:=["ann","bo","cy","dee","ed"]
noncomputable abbrev three:List Str:=["ann","bo","zed"]
noncomputable abbrev rms:List Str:=["hall","hall","hall","yard"]
noncomputable abbrev sets:List Tr:=[.tup [.str "door",.str "open"],.tup [.str "door",.str "asked"],.tup [.str "voice",.str "all"],.tup [.str "voice",.str "some"],.tup [.str "past",.str "shown"],.tup [.str "past",.str "hidden"]]
inductive gu(ws:List Str):List Tr->Prop
 |M3 {aw:Str}:("come":Str)∈ws->aw∈six->gu ws [.str "come",.str aw]
 |one {c9 aw c8:Str}:(c9="found"\/c9="enter"\/c9="leave")->c9∈ws->aw∈six->(c8="hall"\/c8="yard")->gu ws [.str c9,.str aw,.str c8]
 |arr {aw c8 fk val:Str}:("arrange":Str)∈ws->aw∈six->(c8="hall"\/c8="yard")->(fk="door"\/fk="voice"\/fk="past")->(fk="voice"->val="all"\/val="some")->gu ws [.str "arrange",.str aw,.str c8,.str fk,.str val]
 |role {aw c8 d6 r:Str}:("role":Str)∈ws->aw∈six->(c8="hall"\/c8="yard")->d6∈six->r∈eN->gu ws [.str "role",.str aw,.str c8,.str d6,.str r]
 |two {c9 aw c8 d6:Str}:(c9="ask"\/c9="out"\/c9="bar"\/c9="unbar")->c9∈ws->aw∈six->(c8="hall"\/c8="yard")->d6∈six->gu ws [.str c9,.str aw,.str c8,.str d6]
 |say {aw c8 words:Str} {kh:Tr}:("say":Str)∈ws->aw∈six->(c8="hall"\/c8="yard")->zu kh->gu ws [.str "say",.str aw,.str c8,.str words,kh]
 |Hb {aw c8 words:Str} {n:Int}:("mend":Str)∈ws->aw∈six->(c8="hall"\/c8="yard")->(0<=n/\n<1000)->gu ws [.str "mend",.str aw,.str c8,.int n,.str words]
 |take {aw c8:Str} {n:Int}:("take_back":Str)∈ws->aw∈six->(c8="hall"\/c8="yard")->(0<=n/\n<1000)->gu ws [.str "take_back",.str aw,.str c8,.int n]
noncomputable abbrev ten:List Str:=["come","found","enter","leave","arrange","role","ask","out","bar","unbar"]
def Es{x y:Rs Out}{K:bW->Rs Out}{P:Rs Tr->Prop}(h:∀r,r=x\/r=y->P (eI (Dq r K))):P (eI (Dq (SR (.ok b) x y) K)):=by
 cases b
 .exact h y (.inr rfl)
 .exact h x (.inl rfl)
def Kj:List Str:=["hi","@ann hi","@bo @ann","hi @cy","@ann,","@@ann","a@ann","\"","@ed @ed x","@","@annabel","@zed"]
def ya:Str:=" !\"#$&'()*+,-./0123456789:;<=>?@ABCDEFGHIJKLMNOPQRSTUVWXYZ[\\]^_`abcdefghijklmnopqrstuvwxyz{|}~"
def CI:ya.length=94/\ya.cps.toList.length=94:=by decide
theorem strs_map{f:α->Str}:∀{l:List α},ox (l.map λk=>Tr.str (f k))=.ok (l.map f)
 |[]=>rfl
 |k::l=>by rw[aX,ox,strs_map];rfl
def Q4(j:Int):Bq (.ok [.int j])=if-4611686018427387904<=j/\j<4611686018427387904 then .ok (oO 0 j.toNat)else .bad:=rfl
theorem FV(c:Int):∃z,zp [.int c]=.ok (.str z):=by
 show∃z,eI (qM.1 [.sh (.int c),.no,.no,.no])=_;unfold qM;have S:Bv (.int c) (.int 3)=.ok (.int (c % 3)):=Er (by decide);have L:=λp m (hp:0<p) (Rk:p<=1048576) (hm:0<m)=>FU c p m hp Rk hm;simp only[ev,bw,S,L 9973 12 (by decide) (by decide) (by decide),L 9967 6 (by decide) (by decide) (by decide),L 9949 9 (by decide) (by decide) (by decide),aQ,aR];refine Es (P:=λr=>∃z,r=.ok (.str z)) λr h=>?_
 rcases h with rfl|rfl
 .obtain⟨z,_,ez⟩:=NZ (l:=Kj) (i5 (c:=c) (p:=9973) (m:=12) (by decide)).1 (i5 (by decide)).2;have t8:∀a b c d e f g h,xm (.ok [a,b,c,d,e,f,g,h])=.ok (.tup [a,b,c,d,e,f,g,h]):=λ_ _ _ _ _ _ _ _=>rfl;have I:oP (.tup [.str "hi",.str "@ann hi",.str "@bo @ann",.str "hi @cy",.str "@ann,",.str "@@ann",.str "a@ann",.str "\""]) (.tup [.str "@ed @ed x",.str "@",.str "@annabel",.str "@zed"])=.ok (.tup (Kj.map .str)):=rfl;refine⟨z,?_⟩;simp only[t8,ev,bw,I,aQ,aR,L 9973 12 (by decide) (by decide) (by decide),ez]
 .simp only[ev,bw,L 9967 6 (by decide) (by decide) (by decide),L 9949 9 (by decide) (by decide) (by decide),aQ,aR];refine Es (P:=λr=>∃z,r=.ok (.str z)) λr h=>?_
  obtain⟨n,hn,rfl⟩:∃n:Nat,n<=60/\r=.ok (.nx [.sh (.int c),.sh (.str ya),.no,.sh (.int (n:Nat))]):=by
   have b:=i5 (c:=c) (p:=9967) (m:=6) (by decide);rcases h with rfl|rfl
   .exact⟨60,by decide,rfl⟩
   .exact⟨(1+mix c 9967 6).toNat,by omega,by rw[qe (by omega)];rfl⟩
  have e1:Bq (.ok [.int (n:Int)])=.ok ((List.range n).map λk=>Tr.int (0+(k:Nat))):=by
   rw[Q4,ay ⟨by omega,by omega⟩,Int.toNat_natCast];unfold oO;rfl
  let f:Nat->Str:=λk=>⟨#[ya.cps.toList.getD (mix (c+7*(0+(k:Int))) 9941 94).toNat 0]⟩
  have l2:xC [.str ya]=.ok (.int 94):=by show Rs.ok (Tr.int (ya.length:Nat))=_;rw[CI.1];rfl
  simp only[ev,bw,e1];rw[jc (zj:=[.sh (.str ya),.sh (.int c)]) (λ_=>true) (λk:Nat=>Tr.int (0+(k:Nat))) (λk=>Tr.str (f k)) (xs:=List.range n) rfl (by rw[o4];exact bI hn (by decide)) rfl (λ_ _=>rfl) λk _ _=>?_]
  .have e4:(Txt.join ("":Str) ((List.range n).map f)).length=n:=by
    have q:=PySem.W.KT.join_ones ((List.range n).map f) λa ha=>by obtain⟨j,_,rfl⟩:=bV.mp ha;rfl
    rw[aY,o4]at q;exact q
   have fe:(List.range n).filter (λ_=>true)=List.range n:=k_.mpr λ_ _=>rfl;have jo:JoinOk "" ((List.range n).map f)=true:=by
    have q:=PyProof.Rows.joinOk_few (sep:="") (as:=List.range n) (pz:=λ_=>true) (f:=f) (by rw[o4];omega) (λa=>by show 1<=_;decide) (by decide);rw[fe]at q;exact q
   rw[fe];refine⟨Txt.join "" ((List.range n).map f),?_⟩;have jm:mS joinM (.ok (.str "")) (.ok [.lst ((List.range n).map λk=>Tr.str (f k))])=.ok (.str (Txt.join "" ((List.range n).map f))):=by
    show(ox ((List.range n).map λk=>Tr.str (f k))).bind (λzs=>if JoinOk "" zs=true/\(Txt.join "" zs).length<=cy then Rs.ok (Tr.str (Txt.join "" zs))else .bad)=_;rw[strs_map];exact ay ⟨jo,by rw[e4];exact bI hn (by decide)⟩
   simp only[ev,bw,jm]
  .have e3:Dv (.int 7) (.int (0+(k:Int)))=.ok (.int (7*(0+(k:Int)))):=Ki (.inl ⟨by decide,by decide⟩);obtain⟨m0,m1⟩:=i5 (c:=c+7*(0+(k:Int))) (p:=9941) (m:=94) (by decide);simp only[ev,bw,e3,l2,FU _ 9941 94 (by decide) (by decide) (by decide)];show(kc (L2.rn ya.cps.toList (mix (c+7*(0+(k:Int))) 9941 94))).bind (λch=>Rs.ok (Tr.str ⟨#[ch]⟩))=_;have M:(mix (c+7*(0+(k:Int))) 9941 94).toNat<ya.cps.toList.length:=by rw[CI.2];omega
   have q:=nv (xs:=ya.cps.toList) (j:=(mix (c+7*(0+(k:Int))) 9941 94).toNat) (cI M);rw[qe m0]at q;rw[q];show Rs.ok (Tr.str ⟨#[_]⟩)=Rs.ok (Tr.str ⟨#[ya.cps.toList.getD _ 0]⟩);rw[p9,cI M];rfl
def rh(D:Dat)(i j:Nat):Prop:=∀k∈[D.ks,D.kb,D.ka],(k<i\/i+6<k)/\k≠j/\k≠j+1/\k≠j+2
def Apart(D D':Dat):Prop:=∀k∈[D.ks,D.kb,D.ka],k∉[D'.ks,D'.kb,D'.ka]
def Apart.symm (h:Apart D D'):Apart D' D:=λk L q=>h k q L
def far{i j g b:Nat}(q:(i=7/\j=16/\g=27/\b=36)\/(i=27/\j=36/\g=7/\b=16)){k:Nat}(r:(i<=k/\k<=i+6)\/k=j\/k=j+1\/k=j+2):(k<g\/g+6<k)/\k≠b/\k≠b+1/\k≠b+2:=by
 rcases q with⟨rfl,rfl,rfl,rfl⟩|⟨rfl,rfl,rfl,rfl⟩<;>refine⟨?_,?_,?_,?_⟩<;>omega
def rh.ne (c:rh D i j){k q:Nat}(b:(i<=k/\k<=i+6)\/k=j\/k=j+1\/k=j+2)(g:q∈[D.ks,D.kb,D.ka]):k≠q:=λe=>by
 subst e;have c:=c k g;rcases b with h|h|h|h
 .rcases c.1 with z|z
  .exact Nat.not_le_of_lt z h.1
  .exact Nat.not_le_of_lt z h.2
 .exact c.2.1 h
 .exact c.2.2.1 h
 .exact c.2.2.2 h
def Kk{i j b g:Nat}(I:(i=7/\j=16/\b=27/\g=36)\/(i=27/\j=36/\b=7/\g=16))(hH:bz A aA b8)(hM:c_ A bB d4)(M:Pr A i j D t)(R2:Pr A b g D' t)(S:rh D b g)(c2:rh D' i j)(ap:Apart D D')(res:Res A i j D t ts):
  ∃A' D1,jn ts A=.ok (.bl true) A'/\bz A' aA b8/\c_ A' bB d4/\Pr A' i j D1 (t+1)/\Pr A' b g D' (t+1)/\rh D1 b g/\rh D' i j/\Apart D1 D':=by
 obtain⟨A',D1,e,x,P1,kp⟩:=res;have hi:=M.hi;have t6:∀k∈touched i j D,6<k:=λk L=>by
  rcases cF.mp L with L|L
  .simp only[a_,dr,dt]at L;omega
  .exact(M.dj k L).1
 have l1:=fh R2.m.st;have l2:=fh R2.m.br;have l3:=fh R2.m.as;have l4:=fh R2.m.rl;have l5:=fh R2.r.iv;refine⟨A',D1,e,bz.kp hH x t6,c_.kp hM x t6,P1,R2.kp x λk L=>?_,λk q=>?_,c2,λk q=>?_⟩
 .have go:∀k,((i<=k/\k<=i+6)\/k=j\/k=j+1\/k=j+2)->(k<b\/b+6<k)/\k∉jS g D'.ks D'.kb D'.ka:=λk L=>by
   have f:=far I L;have n:=λq (hq:q∈[D'.ks,D'.kb,D'.ka])=>c2.ne L hq;refine⟨f.1,λm=>?_⟩;simp only[a_,dr,dt]at m n;rcases m with m|m|m|m
   .exact f.2.1 m
   .exact f.2.2.1 m
   .exact f.2.2.2 m
   .exact n k m rfl
  rcases cF.mp L with L|L
  .refine go k (.inl ?_)
   clear go I
   simp only[a_,dr,dt]at L;rcases L with rfl|L<;>first|exact⟨aZ _,Nat.le_add_right _ 6⟩|omega
  .have:k=j\/k=j+1\/k=j+2\/k∈[D.ks,D.kb,D.ka]:=by simpa using L
   rcases this with h|h|h|h
   .exact go k (.inr (.inl h))
   .exact go k (.inr (.inr (.inl h)))
   .exact go k (.inr (.inr (.inr h)))
   .have f:=S k h;refine⟨f.1,λm=>?_⟩;have a:=ap k h;simp only[a_,dr,dt]at m a;rcases m with m|m|m|m
    .exact f.2.1 m
    .exact f.2.2.1 m
    .exact f.2.2.2 m
    .exact a m
 .rcases kp k q with q|q
  .exact S k q
  .omega
 .rcases kp k q with q|q
  .exact ap k q
  .simp only[a_,dr,dt,not_or];omega
structure XW(A:Ab)(t:Nat)(aA:List (Str×Bool))(bB:List Str)(D1 D2:Dat):Prop where
 h:bz A aA [("hall",7),("yard",27)]
 m:c_ A bB [("hall",16),("yard",36)]
 pp:aA.map (·.1)=bB
 pl:bB.length<=5+t
 p6:∀z∈bB,z∈six
 r1:Pr A 7 16 D1 t
 r2:Pr A 27 36 D2 t
 c1:rh D1 27 36
 c2:rh D2 7 16
 ap:Apart D1 D2
def St(A:Ab)(t:Nat):Prop:=∃aA bB D1 D2,XW A t aA bB D1 D2
def St.go {f:Str->List Tr}(h:St A t)(S:∀{i j D aA b8 bB d4 c8},Pr A i j D t->bz A aA b8->c_ A bB d4->b8.lookup c8=some i->d4.lookup c8=some j->Res A i j D t (f c8)){c8:Str}(I:c8="hall"\/c8="yard"):
  ∃A',jn (f c8) A=.ok (.bl true) A'/\St A' (t+1):=by
 obtain⟨aA,bB,D1,D2,s⟩:=h;have M:=s.pl;rcases I with rfl|rfl
 .obtain⟨A',D',e,a1,a2,L,b,g,q,r⟩:=Kk (.inl ⟨rfl,rfl,rfl,rfl⟩) s.h s.m s.r1 s.r2 s.c1 s.c2 s.ap (S (c8:="hall") s.r1 s.h s.m (by decide) (by decide));exact⟨A',e,aA,bB,D',D2,a1,a2,s.pp,by omega,s.p6,L,b,g,q,r⟩
 .obtain⟨A',D',e,a1,a2,L,b,g,q,r⟩:=Kk (.inr ⟨rfl,rfl,rfl,rfl⟩) s.h s.m s.r2 s.r1 s.c2 s.c1 s.ap.symm (S (c8:="yard") s.r2 s.h s.m (by decide) (by decide));exact⟨A',e,aA,bB,D1,D',a1,a2,s.pp,by omega,s.p6,b,L,q,g,r.symm⟩
abbrev Et:List (Str×Str):=[("ann","owner"),("bo","guest"),("cy","guest")]
abbrev Kl:List (Str×Int):=[("ann",1),("bo",2),("cy",3)]
abbrev Km:List oS:=[("ann",1,1,none),("bo",1,2,none),("cy",1,3,none)]
abbrev Kn:List Tr:=[.tup [.int 1,.str "ann",.str "found"],.tup [.int 2,.str "bo",.str "enter"],.tup [.int 3,.str "cy",.str "enter"]]
abbrev u_:List (Str×Str):=[("dee","owner")]
abbrev Ko:List (Str×Int):=[("dee",1)]
abbrev Kp:List oS:=[("dee",1,1,none)]
noncomputable abbrev zt:List Tr:=[.tup [.int 1,.str "dee",.str "found"]]
abbrev CJ:List (Str×Bool):=[("ann",true),("bo",true),("cy",true),("dee",true),("ed",true)]
def D10:Dat:=⟨Kn,Et,Kl,λz=>(Kl.lookup z).getD 0,Km,[],[],[],"open","all","shown",19,20,26⟩
def D20:Dat:=⟨zt,u_,Ko,λz=>(Ko.lookup z).getD 0,Kp,[],[],[],"open","all","shown",39,40,42⟩
noncomputable def B0:Ab:=[.ins "Hall" [("persons",.at 1),("places",.at 2),("hands",.at 3)],.bh [],.bh [],.lst []]
def B1:Ab:=B0++[.bh (dP id [("people",.at 5),("rooms",.at 6)]),.lst (M0.map .str),.bh []]
def A0:Ab:=[.ins "Hall" [("persons",.at 1),("places",.at 2),("hands",.at 3)],.bh (dP .bl CJ),.bh (dP .at [("hall",7),("yard",27)]),.lst [],.bh (dP id [("people",.at 5),("rooms",.at 6)]),.lst (M0.map .str),.bh (dP .at [("hall",16),("yard",36)]),
 .ins "Room" (roomF 7),.lst Kn,.bh (dP .str Et),.bh (dP .int Kl),.bh (dP .str (yw "open" "all" "shown")),.bh [],.bh [],.bh [],.bh [],
 .bh (dP id (yr 16 19 20 26 "open" "all" "shown")),.lst Kn,.bh (dP .str Et),.lst (Km.map vI),.lst [],.lst [],.lst [],.lst [.str "ann"],.lst [],.lst [.str "ann"],.lst [],
 .ins "Room" (roomF 27),.lst zt,.bh (dP .str u_),.bh (dP .int Ko),.bh (dP .str (yw "open" "all" "shown")),.bh [],.bh [],.bh [],.bh [],
 .bh (dP id (yr 36 39 40 42 "open" "all" "shown")),.lst zt,.bh (dP .str u_),.lst (Kp.map vI),.lst [],.lst [],.lst []]
def Q5:BV "Hall" oB (.ok [] [])=.ok (.at 0) B0:=by kernel_rfl
def M4:zm [.tup [.str "ann",.str "bo",.str "cy",.str "dee",.str "ed"]] B0=.ok (.at 4) B1:=by kernel_rfl
def Q6:CD [.at 0,.at 4] B1=.ok .bL A0:=by kernel_rfl
def Zc{ents:List (Str×Int)}(h:(ar.all λp=>eN.contains p.2&&(decide (p.1.length<=1000)&&(ents.lookup p.1==some ((ents.lookup p.1).getD 0))))=true)(n:(ar.map (·.1)).Nodup)(u:(ar.map λp=>(ents.lookup p.1).getD 0).Pairwise (· <·)):cC ar ents λz=>(ents.lookup z).getD 0:=by
 have q:=λp L=>fU.mp h p L;simp only[bC,jJ,fG]at q;exact⟨λp L=>ck.mp (q p L).1,n,λp L=>(q p L).2.1,λp L=>(q p L).2.2,u⟩
theorem rows0{rows:List Tr}(h:(rows.all λt=>match t with|.tup us=>us.all qY&&decide (us.length<=10)|_=>false)=true):gX rows:=λt L=>by
 have q:=fU.mp h t L;cases t with
 |tup us=>
  have q:(us.all qY&&decide (us.length<=10))=true:=q;rw[bC,jJ]at q;exact⟨us,rfl,q⟩
 |_=>cases q
def st0:St A0 0:=⟨CJ,M0,D10,D20,⟨rfl,rfl,rfl⟩,⟨rfl,rfl,rfl⟩,rfl,by decide,by decide,
 ⟨⟨rfl,rfl,rfl,rfl,rfl,rfl,rfl⟩,⟨rfl,rfl,rfl,rfl,rfl,rfl,by decide⟩,⟨rows0 rfl,Zc (by decide) (by decide) (by decide),rfl,by decide,.inr (by decide),λ_=>rfl,by decide,by decide,by decide,by decide⟩,⟨by decide,by decide,by decide,by decide,by decide,by decide,by decide⟩,by decide,by decide,(((Seen.nil.add (rows:=[]) (z:="ann") (by decide) (.found (by decide) (by decide))).add (z:="bo") (by decide) (.enter (by decide) (by decide))).add (z:="cy") (by decide) (.enter (by decide) (by decide)))⟩,
 ⟨⟨rfl,rfl,rfl,rfl,rfl,rfl,rfl⟩,⟨rfl,rfl,rfl,rfl,rfl,rfl,by decide⟩,⟨rows0 rfl,Zc (by decide) (by decide) (by decide),rfl,by decide,.inr (by decide),λ_=>rfl,by decide,by decide,by decide,by decide⟩,⟨by decide,by decide,by decide,by decide,by decide,by decide,by decide⟩,by decide,by decide,(Seen.nil.add (rows:=[]) (z:="dee") (by decide) (.found (by decide) (by decide)))⟩,by unfold rh;decide,by unfold rh;decide,by unfold Apart;decide⟩
def Hc{ws:List Str}(h:gu ws ts):jT ts=true:=by
 cases h with
 |say _ _ _ L=>rcases L with rfl|⟨n,rfl,_⟩<;>rfl
 |_=>rfl
theorem FW{T:ye}{G:bW->Ab->Rz Out}{n:Nat}(I:Nat->bW->Ab->Prop)(h:∀k Y A,k<n->I k Y A->∃r,T (.int (0+(k:Nat))) Y=.ok r/\∃b g,G r A=.ok (.nx b) g/\I (k+1) b g):∀(m k:Nat) (Y:bW) (A:Ab),k+m=n->I k Y A->∃q A',mU T G ((List.range' k m).map λk=>Tr.int (0+(k:Nat))) Y A=.ok (.nx q) A'/\I n q A'
 |0,k,Y,A,e,hi=>⟨Y,A,rfl,by rwa[<-e]⟩
 |m+1,k,Y,A,e,hi=>by
  obtain⟨r,L,b,g,M,h2⟩:=h k Y A (by omega) hi;obtain⟨q,A',S,h3⟩:=FW I h m (k+1) b g (by omega) h2;refine⟨q,A',?_,h3⟩;rw[List.range'_succ,aX];simp only[GY,L,bT,bw,M];exact S
def Kq{n:Nat}{T:ye}{G:bW->Ab->Rz Out}{A0:Ab}(I:Nat->bW->Ab->Prop)(h0:I 0 b A0)(h:∀k Y A,k<n->I k Y A->∃g,T (.int (0+(k:Nat))) Y=.ok g/\∃r M,G g A=.ok (.nx r) M/\I (k+1) r M)(S:∀Y A,I n Y A->mV (K Y A)=.ok (.bl true)):
  mV (zV (mU T G ((List.range' 0 n).map λk=>Tr.int (0+(k:Nat))) b A0) K)=.ok (.bl true):=by
 obtain⟨L,A',e,q⟩:=FW I h n 0 b A0 (by omega) h0;rw[show mU T G ((List.range' 0 n).map λk=>Tr.int (0+(k:Nat))) b A0=_ from e];exact S L A' q
def M5(j:Int):Bq (.ok [.int j])=if-4611686018427387904<=j/\j<4611686018427387904 then .ok (oO 0 j.toNat)else .bad:=rfl
def UL:Bq (.ok [.int 40])=.ok ((List.range' 0 40).map λk=>Tr.int (0+(k:Nat))):=by rw[M5,ay (by decide)];show Rs.ok (oO 0 40)=_;unfold oO;rw[List.range_eq_range']
def tw(t:Tr):Str:=match t with
 |.tup (_::_:: .str w::_)=>w
 |_=>Str.empty
def XX(T:Tr)(c8:Str):Prop:=∃rows,Ky ib (pI (ib T (.str "rooms")) (.ok (.str c8)) (.ok (.bh [(.inr "rows",.lst [])]))) (.ok (.str "rows"))=.ok (.lst rows)/\(∀t∈rows,J5 t)/\rows.length<900
def Q7{x:Rs Out}{K:bW->Rs Out}{P:Rs Tr->Prop}{Φ:bW->Prop}(h:∃Y,x=.ok (.nx Y)/\Φ Y)(k:∀Y,Φ Y->P (eI (K Y))):P (eI (Dq x K)):=by
 obtain⟨Y,rfl,q⟩:=h;exact k Y q
theorem Q8{ws:List Str}(hws:∀w∈ws,w∈("say":Str)::"mend"::"take_back"::ten)(hl:0<ws.length)(c:Int)(T:Tr)(hT:∀c8:Str,c8="hall"\/c8="yard"->XX T c8):∃ts,CA [.int c,T,.tup (ws.map .str)]=.ok (.tup ts)/\gu ws ts:=by
 show∃ts,eI (uA.1 [.sh (.int c),.sh T,.sh (.tup (ws.map .str)),.no,.no,.no,.no,.no,.no,.no,.no,.no])=.ok (.tup ts)/\_;unfold uA;have L:=λp m (hp:0<p) (Rk:p<=1048576) (hm:0<m)=>FU c p m hp Rk hm;simp only[ev,bw,L 9931 20 (by decide) (by decide) (by decide),aQ,aR];refine Es (P:=λr=>∃ts,r=.ok (.tup ts)/\gu ws ts) λr h=>?_
 obtain⟨l,h0,h6,rfl⟩:∃l:List Str,(0:Int)<l.length/\(∀z∈l,z∈six)/\r=.ok (.nx [.sh (.int c),.sh T,.sh (.tup (ws.map .str)),.sh (.tup (l.map .str)),.no,.no,.no,.no,.no,.no,.no,.no]):=by
  rcases h with rfl|rfl
  .exact⟨three,by decide,by decide,rfl⟩
  .exact⟨M0,by decide,by decide,rfl⟩
 have hm:(0:Int)<ws.length:=by omega
 have k4:∀l:List Str,((l.map Tr.str).length:Int)=l.length:=λl=>by rw[aY]
 have pk:=λ{l:List Str} {p m:Int} (hm:0<m) (hl:m=l.length)=>NZ (l:=l) (i5 (c:=c) (p:=p) hm).1 (hl▸(i5 hm).2);obtain⟨c8,hr,er⟩:=pk (l:=rms) (p:=9907) (m:=4) (by decide) rfl;obtain⟨c9,hw,ew⟩:=pk (l:=ws) (p:=9901) (m:=ws.length) hm rfl;obtain⟨aw,g3,e3⟩:=pk (l:=l) (p:=9929) (m:=l.length) h0 rfl;obtain⟨d6,g4,e4⟩:=pk (l:=l) (p:=9923) (m:=l.length) h0 rfl;obtain⟨rl,hrl,e7⟩:=pk (l:=eN) (p:=9883) (m:=4) (by decide) rfl;obtain⟨st,cU,_,e8⟩:=AE (l:=sets) (i5 (c:=c) (p:=9887) (m:=6) (by decide)).1 (by exact(i5 (by decide)).2);have q:c8="hall"\/c8="yard":=by simpa using hr
 have I:=h6 aw g3;have h4:=h6 d6 g4;have M:=hws c9 hw;simp only[a_,dr,dt]at M cU;simp only[aX,sS]at er e7;have ni:yW (.str "arrange") (.tup [.str "come",.str "found",.str "enter",.str "leave"])=.ok (.bl false)/\yW (.str "role") (.tup [.str "come",.str "found",.str "enter",.str "leave"])=.ok (.bl false):=⟨rfl,rfl⟩;have l3:∀a b c,Bl (.ok [a,b,c])=.ok (.lst [a,b,c]):=λ_ _ _=>rfl;have a3:oP (.lst [.tup [.str "door",.str "open"],.tup [.str "door",.str "asked"],.tup [.str "voice",.str "all"]]) (.lst [.tup [.str "voice",.str "some"],.tup [.str "past",.str "shown"],.tup [.str "past",.str "hidden"]])=.ok (.lst sets):=rfl;simp only[ev,bw,k4,L 9929 l.length (by decide) (by decide) h0,L 9923 l.length (by decide) (by decide) h0,L 9907 4 (by decide) (by decide) (by decide),L 9901 ws.length (by decide) (by decide) hm,e3,e4,er,ew,aQ,aR];have M:(c9="say"\/c9="mend"\/c9="take_back")\/(c9="come"\/c9="found"\/c9="enter"\/c9="leave"\/c9="arrange"\/c9="role"\/c9="ask"\/c9="out"\/c9="bar"\/c9="unbar"):=by
  rcases M with h|h|h|h
  .exact .inl (.inl h)
  .exact .inl (.inr (.inl h))
  .exact .inl (.inr (.inr h))
  .exact .inr h
 rcases M with Zd|M
 .have nw:yW (.str c9) (.tup [.str "come",.str "found",.str "enter",.str "leave"])=.ok (.bl false)/\yW (.str c9) (.tup [.str "ask",.str "out",.str "bar",.str "unbar"])=.ok (.bl false)/\(c9==Str.ofString "arrange")=false/\(c9==Str.ofString "role")=false:=by
   rcases Zd with rfl|rfl|rfl<;>exact⟨rfl,rfl,by decide,by decide⟩
  simp only[ev,bw,nw,aQ,aR];obtain⟨rows,e9,XY,hlr⟩:=hT c8 q;have e0:S8 (Ir (.ok (.str "rows")) (Bl (.ok [])) (.ok []))=.ok (.bh [(.inr "rows",.lst [])]):=rfl;have mk:∀(m:Nat),0<m->Az [.int c,.int 9859,.int m]=.ok (.int (mix c 9859 m)):=λm hm=>FU c 9859 m (by decide) (by decide) (by omega);have m4:Bv (.int c) (.int 4)=.ok (.int (c % 4)):=Er (by decide);obtain⟨z1,ez1⟩:=FV (c+1);obtain⟨z2,ez2⟩:=FV (c+2);have m10:=i5 (c:=c) (p:=9871) (m:=(rows.length:Int)+2) (by omega);have sq:zN (.ok (.lst rows))=.ok (rows.map id):=by rw[mC];rfl
  simp only[e0,e9,ev,bw,L 9871 (rows.length+2) (by decide) (by decide) (by omega),m4,aQ,aR];rw[jc (zj:=[]) (λt=>tw t==("say":Str)) id (λt=>.int (tn t)) (xs:=rows) sq (bI (cG hlr) (by decide)) rfl (λt g=>by obtain⟨n,z,w,ps,rfl,_⟩:=XY t g;simp only[ev,bw,hJ,id];rfl) (λt g _=>by obtain⟨n,z,w,ps,rfl,_⟩:=XY t g;simp only[ev,bw,hJ,id];rfl)];simp only[ev,bw,aQ,aR];have fin:∀n:Int,0<=n/\n<1000->∃kh,ib (.tup [.bL,.bL,.int n]) (.int (mix c 9857 3))=.ok kh/\zu kh:=λn hn=>by
   obtain⟨t,g,e,_⟩:=AE (l:=[.bL,.bL,.int n]) (i5 (c:=c) (p:=9857) (m:=3) (by decide)).1 (i5 (by decide)).2;refine⟨t,e,?_⟩;simp only[a_,dr,dt]at g;rcases g with rfl|rfl|rfl
   .exact .inl rfl
   .exact .inl rfl
   .exact .inr ⟨n,rfl,hn⟩
  have t3:∀a b c:Tr,xm (.ok [a,b,c])=.ok (.tup [a,b,c]):=λ_ _ _=>rfl;refine Q7 (P:=λr=>∃ts,r=.ok (.tup ts)/\gu ws ts) (Φ:=λY=>∃(n:Int) (s:Cell),(0<=n/\n<1000)/\Y=[.sh (.int c),.sh T,.sh (.tup (ws.map .str)),.sh (.tup (l.map .str)),.sh (.str aw),.sh (.str d6),.sh (.str c8),.sh (.str c9),.no,.sh (.lst rows),.sh (.int n),s]) ?_ ?_
  .generalize hS:rows.filter (λt=>tw t==("say":Str))=S;have hb:∀t∈S,0<=tn t/\tn t<1000:=λt g=>by
    rw[<-hS]at g;obtain⟨n,z,w,ps,rfl,R⟩:=XY t (eR.mp g).1;exact R.b
   cases S with
   |nil=>exact⟨_,rfl,mix c 9871 (rows.length+2),_,by omega,rfl⟩
   |cons t S=>
    have tt:lR (.lst ((t::S).map λt=>.int (tn t)))=.ok true:=rfl;simp only[tt,ev,bw,m4];cases decide (0<c % 4)with
    |false=>exact⟨_,rfl,mix c 9871 (rows.length+2),_,by omega,rfl⟩
    |true=>
     have Sw:((t::S).map λt=>Tr.int (tn t)).length=(t::S).length:=aY ..;obtain⟨u,hu,_,eu⟩:=AE (l:=(t::S).map λt=>Tr.int (tn t)) (i5 (c:=c) (p:=9859) (m:=((t::S).length:Nat)) (by rw[dq];omega)).1 (by rw[Sw];exact(i5 (by rw[dq];omega)).2);obtain⟨v,hv,rfl⟩:=bV.mp hu;simp only[ev,bw,Sw,mk _ (show 0<(t::S).length by rw[dq];omega),eu,aQ,aR];exact⟨_,rfl,tn v,_,hb v hv,rfl⟩
  .rintro Y ⟨n,s,hn,rfl⟩
   obtain⟨kh,ea,ha⟩:=fin n hn;rcases Zd with rfl|rfl|rfl
   .refine⟨_,?_,gu.say (words:=z1) hw I q ha⟩;simp only[ev,bw,ez1,t3,L 9857 3 (by decide) (by decide) (by decide),ea,aU]
   .refine⟨_,?_,gu.Hb (words:=z2) hw I q hn⟩;simp only[ev,bw,ez2,sn,String.reduceBEq,aU]
   .refine⟨_,?_,gu.take hw I q hn⟩;simp only[ev,bw,sn,String.reduceBEq]
 rcases M with rfl|rfl|rfl|rfl|rfl|rfl|rfl|rfl|rfl|rfl
 all_goals first
  |exact⟨_,rfl,.M3 hw I⟩
  |exact⟨_,rfl,.one (by simp) hw I q⟩
  |exact⟨_,rfl,.two (by simp) hw I q h4⟩
  |skip
 all_goals simp only[ev,bw,sn,String.reduceBEq,aU,ni,L 9887 6 (by decide) (by decide) (by decide),L 9883 4 (by decide) (by decide) (by decide),e7,l3,a3,e8,aQ,aR]
 all_goals first
  |exact⟨_,rfl,.role hw I q h4 hrl⟩
  |(rcases cU with rfl|rfl|rfl|rfl|rfl|rfl<;>exact⟨_,rfl,.arr hw I q (by simp) (by decide)⟩)
theorem XW.kp {S:List Nat}{people':List Str}(s:XW A t aA bB D1 D2)(x:dX A A' S)(b:∀k∈S,k=1\/k=5)(h:bz A' persons' [("hall",7),("yard",27)])(m:c_ A' people' [("hall",16),("yard",36)])(pp:persons'.map (·.1)=people')(pl:people'.length<=5+(t+1))(p6:∀z∈people',z∈six):St A' (t+1):=by
 have go:∀{i j:Nat} {D:Dat},Pr A i j D t->Pr A' i j D (t+1):=λ{i j D} P=>P.kp x λk q=>by
  have L:=b k q;have g:=P.hi;refine⟨by omega,λq=>?_⟩;have:=(P.dj k q).1;omega
 exact⟨persons',people',D1,D2,h,m,pp,pl,p6,go s.r1,go s.r2,s.c1,s.c2,s.ap⟩
theorem St.no {w:Str}(h:St A t)(b:cj [.at 0,.tup ts] A=.exc (.str x) A)(he:(x,w)∈Qx):∃A',jn ts A=.ok (.bl true) A'/\St A' (t+1):=by
 obtain⟨aA,bB,D1,D2,s⟩:=h;obtain⟨L,g⟩:=Kd he;have q:=s.pl;have e:∀k∈([]:List Nat),6<k:=λ_ h=>(nomatch h);exact⟨_,FP (FO b L g),s.kp (dX.push (S:=[])) (λ_ h=>(nomatch h)) (bz.kp s.h (dX.push (S:=[])) e) (c_.kp s.m (dX.push (S:=[])) e) s.pp (by omega) s.p6⟩
def St.M3 (h:St A t)(S:aw∈six)(ht:t<=400):∃A',jn [.str "come",.str aw] A=.ok (.bl true) A'/\St A' (t+1):=by
 obtain⟨aA,bB,D1,D2,s⟩:=h;have hl:=s.pl;have I:=MP (aw:=aw) s.h;cases e:aA.lookup aw with
 |some b=>
  rw[MJ s.h (cH S) e]at I;exact St.no (w:="known") ⟨aA,bB,D1,D2,s⟩ I (by simp)
 |none=>
  have yF:aA.length=bB.length:=by rw[<-s.pp,aY]
  rw[Qr s.h e (bF (by omega))]at I;have L:=Ext.put (o:=.bh (dP .bl (dk aA aw true))) s.h.ps;have M:dX A (A.set 1 (.bh (dP .bl (dk aA aw true)))) [1,5]:=dX.put s.h.ps (by simp);have g:c_ (A.set 1 (.bh (dP .bl (dk aA aw true)))) bB [("hall",16),("yard",36)]:=⟨L.same s.m.o (d9 (by decide)),L.same s.m.pe (d9 (by decide)),L.same s.m.rs (d9 (by decide))⟩;have q:=Ext.put (o:=.lst ((bB++[aw]).map .str)) g.pe;refine⟨_,FQ (Ka I) (MO g (bF (by omega))),s.kp (M.trans (dX.put g.pe (by simp))) (by simp) (persons':=dk aA aw true) (people':=bB++[aw]) ⟨q.same (L.same s.h.o (d9 (by decide))) (d9 (by decide)),q.same (L.new s.h.ps B_) (d9 (by decide)),q.same (L.same s.h.pl (d9 (by decide))) (d9 (by decide))⟩ ⟨q.same g.o (d9 (by decide)),q.new g.pe B_,q.same g.rs (d9 (by decide))⟩ ?_ (by rw[fS];omega) λz r=>?_⟩
  .rw[kM e,fD,s.pp];rfl
  .rcases cF.mp r with r|r
   .exact s.p6 z r
   .rwa[cz.mp r]
theorem St.found {c8:Str}(h:St A t)(b:aw∈six)(g:c8="hall"\/c8="yard"):∃A',jn [.str "found",.str aw,.str c8] A=.ok (.bl true) A'/\St A' (t+1):=by
 have h0:=h;obtain⟨aA,bB,D1,D2,s⟩:=h;have L:cj [.at 0,.tup [.str "found",.str aw,.str c8]] A=.exc (.str (if(aA.lookup aw).isSome=true then"Known"else"NoPerson")) A:=by
  rcases g with rfl|rfl
  .exact(CG s.h).trans (FK (j:=7) s.h (cH b) (by decide) (by decide))
  .exact(CG s.h).trans (FK (j:=27) s.h (cH b) (by decide) (by decide))
 refine h0.no (w:=if(aA.lookup aw).isSome=true then"known"else"no person") L ?_
 split<;>simp
theorem step{ws:List Str}(h:St A t)(hd:gu ws ts)(ht:t<=300):∃A',jn ts A=.ok (.bl true) A'/\St A' (t+1):=by
 cases hd with
 |M3 _ I=>exact h.M3 I (by omega)
 |@one c9 aw c8 hw q I M=>
  rcases hw with rfl|rfl|rfl
  .exact h.found I M
  .exact h.go (f:=λc8=>[.str "enter",.str aw,.str c8]) (λP L b hi g=>MS P L b hi g I (by omega)) M
  .exact h.go (f:=λc8=>[.str "leave",.str aw,.str c8]) (λP L b hi g=>MT P L b hi g I (by omega)) M
 |@arr aw c8 fk val q I M hw hz=>exact h.go (f:=λc8=>[.str "arrange",.str aw,.str c8,.str fk,.str val]) (λP L b hi g=>Ur P L b hi g I hw hz (by omega)) M
 |@role aw c8 d6 r q I M S h4=>exact h.go (f:=λc8=>[.str "role",.str aw,.str c8,.str d6,.str r]) (λP L b hi g=>QM P L b hi g I S h4 (by omega)) M
 |@say aw c8 words kh q I M ha=>exact h.go (f:=λc8=>[.str "say",.str aw,.str c8,.str words,kh]) (λP L b hi g=>UK P L b hi g I ha (by omega)) M
 |@Hb aw c8 words n q I M hn=>exact h.go (f:=λc8=>[.str "mend",.str aw,.str c8,.int n,.str words]) (λP L b hi g=>QY P L b hi g I hn (by omega)) M
 |@take aw c8 n q I M hn=>exact h.go (f:=λc8=>[.str "take_back",.str aw,.str c8,.int n]) (λP L b hi g=>Q2 P L b hi g I hn (by omega)) M
 |@two c9 aw c8 d6 hw q I M S=>
  rcases hw with rfl|rfl|rfl|rfl
  .exact h.go (f:=λc8=>[.str "ask",.str aw,.str c8,.str d6]) (λP L b hi g=>Ux P L b hi g I S (by omega)) M
  .exact h.go (f:=λc8=>[.str "out",.str aw,.str c8,.str d6]) (λP L b hi g=>UB P L b hi g I S (by omega)) M
  .exact h.go (f:=λc8=>[.str "bar",.str aw,.str c8,.str d6]) (λP L b hi g=>UG P L b hi g I S (by omega)) M
  .exact h.go (f:=λc8=>[.str "unbar",.str aw,.str c8,.str d6]) (λP L b hi g=>MX P L b hi g I S (by omega)) M
def Pr.rm (P:Pr A i j D t)(q:c_ A bB d4)(r:d4.lookup c8=some j)(I:t<=300):XX (aJ 5 A (.at 4)) c8:=by
 have L:=P.b.b1;refine⟨D.rows,?_,P.se.w,by omega⟩;rw[q.Xx (n:=3)];have e:pI (.ok (.bh (dP (λj=>aJ 3 A (.at j)) d4))) (.ok (.str c8)) (.ok (.bh [(.inr "rows",.lst [])]))=.ok (aJ 3 A (.at j)):=by
  show Rs.ok ((eM (dP (λj=>aJ 3 A (.at j)) d4) (.inr c8)).getD _)=_;rw[cW,r];rfl
 rw[e];exact P.m.Ql (n:=1) P.g.fr.tu
theorem St.rm (h:St A t)(b:t<=300)(c8:Str)(g:c8="hall"\/c8="yard"):XX (aJ 5 A (.at 4)) c8:=by
 obtain⟨aA,bB,D1,D2,s⟩:=h;rcases g with rfl|rfl
 .exact s.r1.rm s.m (by decide) b
 .exact s.r2.rm s.m (by decide) b
def Kr(h:bz A aA b8)(hi:b8.lookup name=some i):oK [aJ 5 A (.at 0),.str name]=.ok (aJ 3 A (.at i)):=by
 show eI (gK.1 [.sh (aJ 5 A (.at 0)),.sh (.str name)])=_;unfold gK;simp only[ev,bw,h.Ms,cW,hi,cA,fT,dM,dv,kc]
def FX(h:bz A aA b8)(hi:b8.lookup name=some i)(P:Pr A i j D t):vB [aJ 5 A (.at 0),.str name]=.ok (.tup D.rows):=by
 show eI (lL.1 [.sh (aJ 5 A (.at 0)),.sh (.str name)])=_;unfold lL;have e:vA [aJ 3 A (.at i)]=.ok (.tup D.rows):=by
  show eI (lK.1 [.sh (aJ 3 A (.at i))])=_;unfold lK;simp only[ev,bw,P.r.XG (n:=1) P.g.fr.tu,Y1]
 simp only[ev,bw,h.gn (n:=4) (m:="place") rfl,Kr h hi,P.r.gn (n:=2) (m:="rows") rfl,e]
theorem Ks(k:u7 l):vC [.bh (dP .str l),.str z]=.ok (.int (fi l z)):=by
 show eI (lM.1 [.sh (.bh (dP .str l)),.sh (.str z)])=_;unfold lM;have L:∀X:Rs Tr,(if([.str "guest",.str "speaker",.str "keeper",.str "owner"]:List Tr).length<=cX then X else .bad)=X:=λX=>ay (by show 4<=cX;decide);cases e:l.lookup z with
 |none=>
  simp only[ev,bw,cW,e,mw,mh];unfold fi;rw[e]
 |some r=>
  have b:=k.rl _ (f9 e);have g:xA [.str "guest",.str "speaker",.str "keeper",.str "owner"] (.str r)=.ok (.int (lvl r)):=by
   have:r="guest"\/r="speaker"\/r="keeper"\/r="owner":=by simpa using b
   rcases this with rfl|rfl|rfl|rfl<;>rfl
  simp only[ev,bw,cW,e,cA,fT,L,dv,kc,g,iF e]
def gx:yW (.str w) (.tup [.str a,.str b,.str c])=.ok (.bl (w==a||(w==b||w==c))):=by
 show Rs.ok (Tr.bl ((a==w)||((b==w)||((c==w)||false))))=_;rw[cK,km (a:=a),km (a:=b),km (a:=c)]
def sk:Yn (.ok (.bl a)) b=if a then .ok (.bl true)else b:=by cases a<;>rfl
def Cb{ns:List Str}:Gv (.str z) (.lst (ns.map .str))=.ok (.bl (!ns.contains z)):=by
 have r:Gn (yo (.str z) (ns.map .str))=.ok (.bl (ns.contains z)):=Ad;show Gn (Dp (yo _ _))=_;cases e:yo (.str z) (ns.map .str)with
 |ok b=>rw[e]at r;cases r;rfl
 |_=>rw[e]at r;cases r
def CK{S:List Int}:Gv (.int n) (.lst (S.map .int))=.ok (.bl (!S.contains n)):=by
 have r:Gn (yo (.int n) (S.map .int))=.ok (.bl (S.contains n)):=FR.2;show Gn (Dp (yo _ _))=_;cases e:yo (.int n) (S.map .int)with
 |ok b=>rw[e]at r;cases r;rfl
 |_=>rw[e]at r;cases r
def p3(t:Tr):Int:=match t with
 |.tup (_::_::_:: .int m::_)=>m
 |_=>0
def Ze(t:Tr):Bool:=match t with
 |.tup (_::_:: .str w::_)=>w==("gone":Str)
 |_=>false
def yz{a b:Tr}{g c1 c2 q:Cell}:SS (gT [4,5]) (.ok (.tup [a,b])) [g,c1,c2,q,.no,.no,.no,.no,.no,.no]=.ok (.nx [g,c1,c2,q,.sh a,.sh b,.no,.no,.no,.no]):=rfl
theorem N0{full:List Tr}(h:Std rows n y)(hp:∃t r,full=rows++t::r)(hw:∀t∈full,J5 t)(hf:full.length<=900):
  (∃k ps,ib (.tup full) (.int (n - 1))=.ok (.tup (.int k:: .str y:: .str "say"::ps)))/\
  ∃S:List Int,(∀Y:bW,yR [none] (gN 0) (λY=>Vb (Ky SX (Ky ib (zK Y 0) (.ok (.int 2))) (.ok (.str "gone")))) (λY=>Ky ib (zK Y 0) (.ok (.int 3))) (zN (fZ (.ok (.tup full)) (.ok none) (m9 (.ok (.int ((rows.length:Int)+1 - 1)))))) Y=.ok (.lst (S.map .int)))/\S.contains n=false:=by
 obtain⟨t,r,rfl⟩:=hp;obtain⟨hn,⟨k,ps,e⟩,L⟩:=h;constructor
 .refine⟨k,ps,?_⟩;have g:(rows++t::r)[(n - 1).toNat]?=some (.tup (.int k:: .str y:: .str "say"::ps)):=by rw[p_ (by omega),e]
  have a:=nv g;rw[qe (by omega)]at a;show kc (L2.rn _ (n - 1))=_;rw[a];rfl
 .have sl:zN (fZ (.ok (.tup (rows++t::r))) (.ok none) (m9 (.ok (.int ((rows.length:Int)+1 - 1)))))=.ok (rows.map id):=by
   rw[show(rows.length:Int)+1 - 1=(rows.length:Nat) by omega];show Rs.ok (xq (rows++t::r) none (some ((rows.length:Nat):Int)))=_;unfold xq;rw[HT.KD,HT.Hl,List.drop_zero,Nat.sub_zero,Nat.min_eq_left (by rw[dI];omega),List.take_left,mC]
  rw[dI]at hf;refine⟨(rows.filter Ze).map p3,λY=>?_,?_⟩
  .rw[jc (c:=.no) (zj:=[]) Ze id (λt=>.int (p3 t)) sl (cG (bF (by omega))) rfl (λt L=>?_) λt L b=>?_]
   .rw[cp];rfl
   .obtain⟨m,z,w,ps,rfl,R⟩:=hw t (gA _ L);simp only[ev,bw,hJ,id];rfl
   .obtain⟨m,z,w,ps,rfl,R⟩:=hw t (gA _ L);have b:(w==("gone":Str))=true:=b;obtain⟨i,r,rfl⟩:=R.g (by simpa using b);simp only[ev,bw,hJ,id];rfl
  .refine wz.mpr λq=>?_
   obtain⟨t,h1,h2⟩:=bV.mp (ck.mp q);obtain⟨M,b⟩:=eR.mp h1;have I:=L t M;obtain⟨m,z,w,ps,rfl,R⟩:=hw t (gA _ M);have Vk:(w==("gone":Str))=true:=b;obtain⟨i,r,rfl⟩:=R.g (by simpa using Vk);have h2:i=n:=h2;have I:(w==("gone":Str)&&i==n)=false:=I;rw[Vk,h2,aU]at I;cases I
def Q9{full:List Tr}(q:yx rows l v z w ps l' v')(k:u7 l)(hl:l.length<900)(hv:ar.lookup ("voice":Str)=some v)(hp:∃r,full=rows++ .tup (.int (rows.length+1):: .str z:: .str w::ps)::r)(hw:∀t∈full,J5 t)(hf:full.length<=900):FF [.tup full,.tup (.int (rows.length+1):: .str z:: .str w::ps),.bh (dP .str l),.bh (dP .str ar)]=.ok (.bl true):=by
 show eI (v7.1 [.sh (.tup full),.sh (.tup (.int (rows.length+1):: .str z:: .str w::ps)),.sh (.bh (dP .str l)),.sh (.bh (dP .str ar)),.no,.no,.no,.no,.no,.no])=_;unfold v7;have s0:∀a b c:Tr,fZ (.ok (.tup [a,b,c])) (m9 (.ok (.int 1))) (m9 (.ok (.int 3)))=.ok (.tup [b,c]):=λ_ _ _=>rfl;have s1:∀a b c d:Tr,fZ (.ok (.tup [a,b,c,d])) (m9 (.ok (.int 1))) (m9 (.ok (.int 3)))=.ok (.tup [b,c]):=λ_ _ _ _=>rfl;have s2:∀a b c d e:Tr,fZ (.ok (.tup [a,b,c,d,e])) (m9 (.ok (.int 1))) (m9 (.ok (.int 3)))=.ok (.tup [b,c]):=λ_ _ _ _ _=>rfl;have s3:∀a b c d e:Tr,fZ (.ok (.tup [a,b,c,d,e])) (m9 (.ok (.int 3))) (.ok none)=.ok (.tup [d,e]):=λ_ _ _ _ _=>rfl;have tb:∀b,lR (.bl b)=.ok b:=λ_=>rfl;have rk:=λz=>Ks (z:=z) k;have Kw:ar.lookup (Str.ofString "voice")=some v:=hv;have sb:∀i j,Io (.int i) (.int j)=.ok (.int (i - j)):=λ_ _=>rfl;cases q with
 |found h _=>simp only[ev,bw,hJ,FL,s0,yz,rk,dG,gx,sn,String.reduceBEq,aU,aQ,aR,fq,fF,cK,dA h]
 |enter h _=>simp only[ev,bw,hJ,FL,s0,yz,rk,dG,gx,sn,String.reduceBEq,aU,aQ,aR,fq,fF,cK,dA h]
 |@role y r h hy h4=>
  simp only[ev,bw,hJ,FL,s2,s3,yz,rk,dG,gx,sn,String.reduceBEq,aU,aQ,aR,fq,fF,cK,vX k.sh,map_fst];rw[jc (zj:=[.sh (.bh (dP .str l))]) (λ_=>true) (λp:Str×Str=>.str p.1) (λp=>.str p.2) (xs:=l) (by rw[cp];rfl) (cG (bF (by omega))) rfl (λ_ _=>rfl) ?hF]
  case hF=>intro q L _;simp only[ev,bw,dv,iE k.nd q L,cA,kc]
  rw[show l.filter (λ_=>true)=l from k_.mpr λ_ _=>rfl,show(l.map λp=>Tr.str p.2)=(l.map (·.2)).map .str by rw[cp];rfl];have eq2:SX (.tup [.str y,.str r]) (.tup [.str z,.str "owner"])=.ok (.bl ((y==z)&&((r==("owner":Str))&&true))):=rfl;simp only[ev,bw,hJ,FL,s3,Cb,aQ,aR,gj,sk,eq2,dG];rcases h with⟨hn,rfl,rfl⟩|h|⟨h,h5⟩
  .have hc:(l.map (·.2)).contains (Str.ofString "owner")=false:=wz.mpr λq=>by
    obtain⟨q,L,e⟩:=bV.mp (ck.mp q);exact hn q L e
   simp only[hc,dJ,aP,aU,mB,sk,ev]
  .rw[dA h];cases(l.map (·.2)).contains (Str.ofString "owner")<;>cases((y==z)&&((r==("owner":Str))&&true))<;>simp only[dJ,dM,bP,aP,bq,sk,ev]
  .rw[h];have h6:(r==Str.ofString "guest"||r==Str.ofString "speaker")=true:=by rcases h5 with rfl|rfl<;>decide
   rw[h6];cases(l.map (·.2)).contains (Str.ofString "owner")<;>cases((y==z)&&((r==("owner":Str))&&true))<;>cases decide ((2:Int)<2)<;>simp only[dJ,dM,bP,aP,bq,sk,ev,aU]
 |@leave r h=>
  have b:=x_ r;have h0:decide ((0:Int)<=fi l z)=true:=dA (by rw[iF h];omega);simp only[ev,bw,hJ,FL,s0,yz,rk,dG,gx,sn,String.reduceBEq,aU,aQ,aR,cK,h0]
 |@out y _ hw h1 h2=>
  rcases hw with rfl|rfl<;>simp only[ev,bw,hJ,FL,s1,yz,rk,dG,gx,sn,String.reduceBEq,aU,aQ,aR,fq,fF,cK,gj,dA h1,dA h2,aP]
 |set h _=>simp only[ev,bw,hJ,FL,s2,yz,rk,dG,gx,sn,String.reduceBEq,aU,aQ,aR,fq,fF,cK,dA h]
 |ask hw h=>
  rcases hw with rfl|rfl<;>simp only[ev,bw,hJ,FL,s1,yz,rk,dG,gx,sn,String.reduceBEq,aU,aQ,aR,fq,fF,cK,dA h]
 |say h=>
  simp only[ev,bw,hJ,FL,s2,yz,rk,dG,gx,sn,String.reduceBEq,aU,aQ,aR,cK,sk,gj,dv,Kw,cA,kc];rcases h with h|⟨h,rfl⟩
  .simp only[dA h,aP,ev]
  .rw[h];cases decide ((0:Int)<0)<;>simp only[aU,aP,bq,bP,ev]
 |@Hb n a h=>
  obtain⟨r,g⟩:=hp;obtain⟨⟨i,qs,I⟩,S,M,e3⟩:=N0 h ⟨_,_,g⟩ hw hf;simp only[ev,bw,hJ,FL,s2,yz,rk,dG,gx,sn,String.reduceBEq,aU,aQ,aR,fq,fF,cK,sb,I,M,CK,e3,dJ,gj,sk,aP]
 |@gone y n h h2=>
  obtain⟨r,g⟩:=hp;obtain⟨⟨i,qs,I⟩,S,M,e3⟩:=N0 h ⟨_,_,g⟩ hw hf;simp only[ev,bw,hJ,FL,s1,yz,rk,dG,gx,sn,String.reduceBEq,aU,aQ,aR,fq,fF,cK,sb,I,M,CK,e3,dJ,gj,sk,aP];rcases h2 with rfl|h2
  .simp only[aU,aP,ev]
  .rw[dA h2];cases(y==z)<;>simp only[bP,aP,bq,ev]
def yx.len (s:yx rows l v z w ps l' b):l'.length<=l.length+1:=by
 cases s with
 |leave _=>exact sN (i6 ..)
 |out _=>exact sN (i6 ..)
 |found=>exact oo
 |enter=>exact oo
 |role=>exact oo
 |_=>exact sW _
abbrev UM(n:Nat)(z w:Str)(ps:List Tr):Tr:=.tup (.int (n+1):: .str z:: .str w::ps)
def M6{T:ye}{full:List Tr}(I:Nat->List (Str×Str)->Str->bW->Ab->Prop)(h:∀rows l v l' g z w ps Y A,(∃r,full=rows++UM rows.length z w ps::r)->l.length<900->rows.length<900->u7 l->yx rows l v z w ps l' g->I rows.length l v Y A->∃b,T (UM rows.length z w ps) Y=.ok b/\∃M A2,K b A=.ok (.nx M) A2/\I (rows.length+1) l' g M A2){l:List (Str×Str)}{v:Str}(q:RF rows l v):
  (∃r,full=rows++r)->rows.length<=900->u7 l/\l.length<=rows.length/\∀Y A,I 0 [] "all" Y A->∃g6 A',(∀ys,mU T K (rows++ys) Y A=mU T K ys g6 A')/\I rows.length l v g6 A':=by
 induction q with
 |nil=>exact λ_ _=>⟨⟨λ_ h=>(by cases h),.nil,λ_ h=>(by cases h)⟩,aZ _,λY A hi=>⟨Y,A,λ_=>rfl,hi⟩⟩
 |@add rows l l' v g z w ps q s ih=>
  intro L hl;rw[fS]at hl⊢;obtain⟨r,L⟩:=L;rw[sL]at L;obtain⟨h0,h1,h2⟩:=ih ⟨_,L⟩ (by omega);refine⟨s.rk h0,by have:=s.len;omega,λY A hi=>?_⟩;obtain⟨b,A1,e,hi⟩:=h2 Y A hi;obtain⟨M,e2,S,A3,e3,hi⟩:=h rows l v l' g z w ps b A1 ⟨_,L⟩ (by omega) (by omega) h0 s hi;refine⟨S,A3,λys=>?_,hi⟩;rw[sL,e];show mU T K (UM rows.length z w ps::ys) b A1=_;simp only[GY,e2,bT,bw,e3]
def Q_{T:ye}{G:bW->Ab->Rz Out}{l:List (Str×Str)}{v:Str}{Y:bW}{A:Ab}{r:Rs Tr}(I:Nat->List (Str×Str)->Str->bW->Ab->Prop)(hi:I 0 [] "all" Y A)(q:RF rows l v)(hl:rows.length<=900)(h:∀pre l v l' b z w ps Y A,(∃r,rows=pre++UM pre.length z w ps::r)->l.length<900->pre.length<900->u7 l->yx pre l v z w ps l' b->I pre.length l v Y A->∃g,T (UM pre.length z w ps) Y=.ok g/\∃M S,G g A=.ok (.nx M) S/\I (pre.length+1) l' b M S)
  (hK:∀Y A,I rows.length l v Y A->mV (K Y A)=r):mV (zV (mU T G rows Y A) K)=r:=by
 obtain⟨L,A',e,hi⟩:=(M6 I h q ⟨[],(hW _).symm⟩ hl).2.2 Y A hi;have e:=e [];rw[hW]at e;rw[e];exact hK L A' hi
def Zf(full:List Tr)(n:Nat)(l:List (Str×Str))(v:Str)(Y:bW)(A:Ab):Prop:=∃k m ss c d e,k≠m/\Y=[.sh (.tup full),.sh (.at k),.sh (.at m),c,d,e]/\A[k]?=some (.bh (dP .str l))/\A[m]?=some (.bh (dP .str ss))/\ss.lookup (Str.ofString "voice")=some v/\ss.length<=n+1
theorem FY{full:List Tr}(h:Seen full l v)(hf:∀t∈full,∃us,t=.tup us/\us.all qY=true)(hl:full.length<=900):l_ [.tup full]=.ok (.bl true):=by
 unfold l_ vH;have na:fm [.tup full]=true:=by show(fm full&&true)=true;rw[u6 hf];rfl
 rw[ay ⟨rfl,na⟩];show mV (je.1 [.sh (.tup full),.no,.no,.no,.no,.no] [])=_;unfold je;have n0:uM (.ok (.bh [])) ([]:Ab)=.ok (.at 0) [.bh []]:=rfl;have d0:PX (λA=>IT (Rz.ok (Tr.str (Str.ofString "voice")) A) (λA=>Rz.ok (Tr.str (Str.ofString "all")) A) λA=>Rz.ok [] A) [Ao.bh []]=.ok (.at 1) [Ao.bh [],.bh (dP .str [("voice","all")])]:=rfl;have sq:zN (.ok (.tup full))=.ok full:=rfl;have lz:∀T G ts A Y,IC T G (.ok ts A) Y=mU T G ts Y A:=λ_ _ _ _ _=>rfl;simp only[ev,bw,bT,bZ,GY,n0,d0,sq,lz,aQ,aR];refine Q_ (Zf full) ⟨0,1,[("voice","all")],.no,.no,.no,by decide,rfl,rfl,rfl,rfl,aZ _⟩ h.f hl (λpre l v l' v' z w ps Y A hp Sw hn k s hI=>?_) λY A hI=>?_
 .obtain⟨i,m,ss,c,d,e,iO,rfl,L,I,M,hs⟩:=hI;refine⟨_,rfl,?_⟩;have my:=Q9 s k Sw M hp h.w hl;have t1:aJ 5 A (.at i)=.bh (dP .str l):=by rw[gQ L];exact cR Tr.bh (jU RE)
  have t2:aJ 5 A (.at m)=.bh (dP .str ss):=by rw[gQ I];exact cR Tr.bh (jU RE)
  have tb:∀b,lR (.bl b)=.ok b:=λ_=>rfl;have ep:∀(y v:Str) Y,putD A (.at i) (.str y) (.str v) Y=.ok (.nx Y) (A.set i (.bh (dP .str (dk l y v)))):=λy v Y=>by
   rw[gR (z:=y) (t:=.str v) L (by rw[gq];exact bF (by omega)),gS]
  have eq:∀(y v:Str) Y,putD A (.at m) (.str y) (.str v) Y=.ok (.nx Y) (A.set m (.bh (dP .str (dk ss y v)))):=λy v Y=>by
   rw[gR (z:=y) (t:=.str v) I (by rw[gq];exact bF (by omega)),gS]
  have un:∀a b c0 c1 c2 c3 c4 c5 A,Gy (gT [4,5]) (.ok (.tup [a,b]) A) [c0,c1,c2,c3,c4,c5]=.ok (.nx [c0,c1,c2,c3,.sh a,.sh b]) A:=λ_ _ _ _ _ _ _ _ _=>rfl;have s0:∀a b c:Tr,fZ (.ok (.tup [a,b,c])) (m9 (.ok (.int 1))) (m9 (.ok (.int 3)))=.ok (.tup [b,c]):=λ_ _ _=>rfl;have s1:∀a b c d:Tr,fZ (.ok (.tup [a,b,c,d])) (m9 (.ok (.int 1))) (m9 (.ok (.int 3)))=.ok (.tup [b,c]):=λ_ _ _ _=>rfl;have s2:∀a b c d e:Tr,fZ (.ok (.tup [a,b,c,d,e])) (m9 (.ok (.int 1))) (m9 (.ok (.int 3)))=.ok (.tup [b,c]):=λ_ _ _ _ _=>rfl;have g:∀(a b:Str) A,lU (.ok (.tup [.str a,.str b])) A=.ok (.tup [.str a,.str b]) A:=λ_ _ _=>rfl;have go:∀{A2 l2 v2 c d e},A2[i]?=some (.bh (dP .str l2))->(∃ss,A2[m]?=some (.bh (dP .str ss))/\ss.lookup (Str.ofString "voice")=some v2/\ss.length<=pre.length+1+1)->Zf full (pre.length+1) l2 v2 [.sh (.tup full),.sh (.at i),.sh (.at m),c,d,e] A2:=λ{A2 l2 v2 c d e} h1 ⟨ss,h2,h3,h4⟩=>⟨i,m,ss,c,d,e,iO,rfl,h1,h2,h3,h4⟩
  have S:∀{o},(A.set i o)[i]?=some o:=kW (fh L)
  have at2:∀{o},∃ss,(A.set i o)[m]?=some (.bh (dP .str ss))/\ss.lookup (Str.ofString "voice")=some v/\ss.length<=pre.length+1+1:=λ{o}=>⟨ss,by rwa[kY iO],M,by omega⟩
  simp only[ev,bw,bT,bZ,t1,t2,aQ,aR,my,tb,dM];cases s with
  |found=>simp only[ev,bw,bT,bZ,hJ,s0,un,g,sn,String.reduceBEq,aU,fO,dG,cK,fq,fF,aQ,aR,show ib (.tup [.str (Str.ofString "guest"),.str (Str.ofString "owner")]) (.int 1)=.ok (.str "owner")from rfl,show L8 [.bl true]=.ok (.int 1)from rfl,ep];exact⟨_,_,rfl,go S at2⟩
  |enter=>simp only[ev,bw,bT,bZ,hJ,s0,un,g,sn,String.reduceBEq,aU,fO,dG,cK,fq,fF,aQ,aR,show L8 [.bl false]=.ok (.int 0)from rfl,ep];exact⟨_,_,rfl,go S at2⟩
  |role=>simp only[ev,bw,bT,bZ,hJ,s2,un,g,sn,String.reduceBEq,aU,fO,ep,dG,cK,aQ,aR];exact⟨_,_,rfl,go S at2⟩
  |@leave r e=>
   have p:=ug (z:=z) (v:=.str r) L (by rw[cW,e];rfl);rw[nF]at p;simp only[ev,bw,bT,bZ,hJ,s0,un,g,sn,String.reduceBEq,aU,uf L,p,dG,cK,aQ,aR];exact⟨_,_,rfl,go S at2⟩
  |@out y _ hw=>
   have p:∀x:Ab->Rz Tr,x A=.ok .bL A->B9 x i (.str y) A=.ok ((eM (dP .str l) (.inr y)).getD .bL) (A.set i (.bh (dP .str (eK l y)))):=λx hx=>by rw[Ac (z:=y) hx L,nF]
   rcases hw with rfl|rfl
   .simp only[ev,bw,bT,bZ,hJ,s1,un,g,sn,String.reduceBEq,aU,vW L,p _ rfl,dG,cK,fq,fF,aQ,aR];exact⟨_,_,rfl,go S at2⟩
   .simp only[ev,bw,bT,bZ,hJ,s1,un,g,sn,String.reduceBEq,aU,vW L,p _ rfl,dG,cK,fq,fF,aQ,aR];exact⟨_,_,rfl,go S at2⟩
  |@set a b _ _=>
   simp only[ev,bw,bT,bZ,hJ,s2,un,g,sn,String.reduceBEq,aU,fO,eq,dG,cK,aQ,aR];refine⟨_,_,rfl,go (by rwa[kY (Ne.symm iO)]) ⟨dk ss a b,kW (fh I),?_,bI oo (by omega)⟩⟩;rw[om,M];by_cases e:a="voice"
   .subst e;rw[ay rfl,ay rfl]
   .rw[aE λq=>e q.symm,aE e]
  |ask hw=>rcases hw with rfl|rfl<;>(simp only[ev,bw,bT,bZ,hJ,s1,un,g,sn,String.reduceBEq,dG,cK,aQ,aR];exact⟨_,_,rfl,go L ⟨ss,I,M,by omega⟩⟩)
  |say=>simp only[ev,bw,bT,bZ,hJ,s2,un,g,sn,String.reduceBEq,dG,cK,aQ,aR];exact⟨_,_,rfl,go L ⟨ss,I,M,by omega⟩⟩
  |Hb=>simp only[ev,bw,bT,bZ,hJ,s2,un,g,sn,String.reduceBEq,dG,cK,aQ,aR];exact⟨_,_,rfl,go L ⟨ss,I,M,by omega⟩⟩
  |gone=>simp only[ev,bw,bT,bZ,hJ,s1,un,g,sn,String.reduceBEq,dG,cK,aQ,aR];exact⟨_,_,rfl,go L ⟨ss,I,M,by omega⟩⟩
 .obtain⟨i,m,ss,c,d,e,iO,rfl,L,I,M,hs⟩:=hI
  rfl
theorem M7(h:bz A aA [("hall",7),("yard",27)]):uw [aJ 5 A (.at 0)]=.ok (.tup [.str "hall",.str "yard"]):=by
 show eI (j9.1 [.sh (aJ 5 A (.at 0))])=_;unfold j9;have b:=Mw (f:=λj=>aJ 3 A (.at j)) (l:=[("hall",7),("yard",27)]) (λp g=>(by decide:∀p∈([("hall",7),("yard",27)]:List (Str×Nat)),p.1.length<=1000) p g) (by decide);have L:kC [Str.ofString "hall",Str.ofString "yard"]=[Str.ofString "hall",Str.ofString "yard"]:=(xy (.refl _) (by decide)).symm;simp only[ev,bw,h.Ms,b,Y1,aX,sS,L]
noncomputable abbrev ws:List Str:=["come","found","enter","enter","leave","arrange","ask","role","out","bar","unbar","say","say","mend","take_back"]
def LI(ns:List Int)(k:Nat)(Y:bW)(A:Ab):Prop:=St A k/\∃a b,Y=[.sh (.vg ns),.sh (.at 0),.sh (.at 4),.sh (.tup (ws.map .str)),a,b]
theorem Kt(ns:List Int):x6 [.vg ns]=.ok (.bl true):=by
 unfold x6 vH;rw[ay ⟨rfl,rfl⟩];show mV (FG.1 [.sh (.vg ns),.no,.no,.no,.no,.no] [])=_;unfold FG;have S:∀A,lU (.ok (.tup [.str "ann",.str "bo",.str "cy",.str "dee",.str "ed"])) A=.ok (.tup [.str "ann",.str "bo",.str "cy",.str "dee",.str "ed"]) A:=λA=>rfl;have t8:∀a b c d e f g h,xm (.ok [a,b,c,d,e,f,g,h])=.ok (.tup [a,b,c,d,e,f,g,h]):=λ_ _ _ _ _ _ _ _=>rfl;have t7:∀a b c d e f g,xm (.ok [a,b,c,d,e,f,g])=.ok (.tup [a,b,c,d,e,f,g]):=λ_ _ _ _ _ _ _=>rfl;have e8:∀A,lU (.ok (.tup [.str "come",.str "found",.str "enter",.str "enter",.str "leave",.str "arrange",.str "ask",.str "role"])) A=.ok (.tup [.str "come",.str "found",.str "enter",.str "enter",.str "leave",.str "arrange",.str "ask",.str "role"]) A:=λA=>rfl;have a8:oP (.tup [.str "come",.str "found",.str "enter",.str "enter",.str "leave",.str "arrange",.str "ask",.str "role"]) (.tup [.str "out",.str "bar",.str "unbar",.str "say",.str "say",.str "mend",.str "take_back"])=.ok (.tup (ws.map .str)):=rfl;have eg:∀A,lU (.ok (.tup (ws.map .str))) A=.ok (.tup (ws.map .str)) A:=λA=>rfl;simp only[ev,bw,bT,bZ,Q5,S,M4,Q6,t8,t7,e8,a8,eg,aQ,aR,UL,GY];refine Kq (LI ns) ⟨st0,.no,.no,rfl⟩ (λk Y A hk L=>?_) λY A L=>?_
 .obtain⟨hs,a,b,rfl⟩:=L;obtain⟨c0,ec⟩:=Q3 ns ((0+(k:Nat):Int) % 11) (wJ _ (by decide));obtain⟨ts,ed,hd⟩:=Q8 (ws:=ws) (by decide) (by decide) (c0+41*(0+(k:Nat))) (aJ 5 A (.at 4)) (hs.rm (by omega));obtain⟨A',eb,WL⟩:=step hs hd (by omega);have m1:Bv (.int (0+(k:Nat))) (.int 11)=.ok (.int ((0+(k:Nat):Int) % 11)):=Er (by decide);have m2:Dv (.int 41) (.int (0+(k:Nat)))=.ok (.int (41*(0+(k:Nat)))):=Ki (.inl ⟨by decide,by decide⟩);have fz:∀A,lU (.ok (.tup ts)) A=.ok (.tup ts) A:=λA=>ay (Hc hd);refine⟨_,rfl,?_⟩;simp only[ev,bw,bT,bZ,m1,ec,m2,ed,fz,aQ,aR];refine⟨[.sh (.vg ns),.sh (.at 0),.sh (.at 4),.sh (.tup (ws.map .str)),.sh (.int (0+(k:Nat))),.sh (.tup ts)],A',?_,WL,_,_,rfl⟩;rcases Kb eb with⟨w,q⟩|⟨u,I,v,hu,q,M⟩
  .rw[q];rfl
  .rw[q];rcases hu with rfl|⟨n,rfl⟩
   .show oy (cP [.at 4,.tup ts] I) _=_;rw[M];rfl
   .show oy (cP [.at 4,.tup ts] I) _=_;rw[M];rfl
 .obtain⟨⟨aA,bB,D1,D2,s⟩,a,b,rfl⟩:=L;have sq:zN (.ok (.tup [.str "hall",.str "yard"]))=.ok ((["hall","yard"]:List Str).map .str):=rfl;have r1:=s.r1.b.b1;have r2:=s.r2.b.b1;simp only[ev,bw,bT,bZ,s.h.gn (n:=4) (m:="rooms") rfl,M7 s.h,sq];rw[jc (zj:=[.sh (aJ 5 A (.at 0))]) (λ_=>true) Tr.str (λ_=>.bl true) (xs:=["hall","yard"]) rfl (by show 2<=cX;decide) rfl (λ_ _=>rfl) ?hF]
  case hF=>
   intro z r _;have r:z="hall"\/z="yard":=by simpa using r
   rcases r with rfl|rfl
   .simp only[ev,bw,s.h.gn (n:=4) (m:="rows") rfl,FX (name:="hall") s.h (by decide) s.r1,FY s.r1.se s.r1.g.fr.fr (by omega)]
   .simp only[ev,bw,s.h.gn (n:=4) (m:="rows") rfl,FX (name:="yard") s.h (by decide) s.r2,FY s.r2.se s.r2.g.fr.fr (by omega)]
  rfl
def O:RB:=⟨["ValueError","all","any","dict","int","isinstance","len","list","max","min","range","sorted","str","tuple"],["Barred","Hall","Known","NoHand","NoLine","NoPerson","NoRight","NoRoom","NoRow","NotAsked","NotIn","Room","TalkError"],["Hall","Room"],[("Room",["banned","chosen","entries","invited","log","ranks","read_marks","said_by_key"]),("Hall",["hands","persons","places"])],[iu],["Known","NoPerson","NoRoom","NotIn","NotAsked","Barred","NoRight","NoRow","NoHand","NoLine"],[.inl "Barred",.inl "Known",.inl "NoHand",.inl "NoLine",.inl "NoPerson",.inl "NoRight",.inl "NoRoom",.inl "NoRow",.inl "NotAsked",.inl "NotIn",.inr "ValueError"],["TalkError"],["Barred","Known","NoPerson","NoRight","NoRoom","NoRow","NotAsked","NotIn"]⟩
set_option maxHeartbeats 8000000 in
theorem all_mk{l:PySem.W.OpenLaw}{w:World}{K:Frag}(X:K.In h)(G:h.Ns mainGlobals mg)(b:mg "law"=some (.ref fa))
  (c1:DS.map (Df.fd K)=DS.map (λd=>d.re (d.fd K))) (c2:DS.all (Df.NR K)=true) (c3:O.NR K=true)
   {Ku:Array (Option Value)} (g:PySem.W.nsIn K mainGlobals "ROLES"=some (some (.ref q))) (r:K.lookup q=some ⟨.type "tuple",none,.seq #[.str "guest" RJ,.str "speaker" RK,.str "keeper" RL,.str "owner" RM] UN,Ku⟩)
    (I:PySem.W.nsIn K mainGlobals "SETTINGS"=some (some (.ref M))) (S:K.lookup M=some ⟨.type "dict",none,.dict #[⟨PyData.keyHash w.params "door",.str "door" aaa,.ref XZ⟩,⟨PyData.keyHash w.params "voice",.str "voice" aab,.ref X0⟩,⟨PyData.keyHash w.params "past",.str "past" aac,.ref X1⟩] dn1,#[]⟩) (s1:(M==sysModules)=false)
   {UO:Array (Option Value)} (UP:K.lookup XZ=some ⟨.type "tuple",none,.seq #[.str "open" X2,.str "asked" X3] Zh,UO⟩)
   {UQ:Array (Option Value)} (UR:K.lookup X0=some ⟨.type "tuple",none,.seq #[.str "all" X4,.str "some" X5] Zi,UQ⟩)
   {US:Array (Option Value)} (UT:K.lookup X1=some ⟨.type "tuple",none,.seq #[.str "shown" X6,.str "hidden" X7] Zj,US⟩)
  :∃fd:FuncData,(∀(s:Shared) (v:Value),BindsTo s fd ⟨[v],[]⟩ [("_law_script",v)])/\∀base:Heap,K.In base->base.Ns mainGlobals mg->fL l.prog w K mg base qX 9 fa fd ["_law_script"] (spT K x6):=by
 have o:=O.ok X G c3;have T:RC K w mg:=⟨λi d e=>Jl X G c1 c2 d (eQ e),o.bl rfl,o.bl rfl,o.bl rfl,o.bl rfl,o.bl rfl,o.bl rfl,o.bl rfl,o.bl rfl,o.bl rfl,o.bl rfl,o.bl rfl,o.bl rfl,o.bl rfl,o.bl rfl,o.bn 0 rfl,o.Y2 rfl,o.Y2 rfl,⟨⟨.ref q,_,W.mg_of X G g,rfl,λH=>.tup (vs:=[.str "guest",.str "speaker",.str "keeper",.str "owner"]) (.inr ⟨_,_,_,r,rfl,rfl,rfl,by show 4<=sizeLine;decide,(.cons ⟨_,rfl⟩ (.cons ⟨_,rfl⟩ (.cons ⟨_,rfl⟩ (.cons ⟨_,rfl⟩ .nil))))⟩) (.cons (.str _ (by decide)) (.cons (.str _ (by decide)) (.cons (.str _ (by decide)) (.cons (.str _ (by decide)) .nil))))⟩,⟨_,_,W.mg_of X G g,r,rfl,rfl⟩⟩,o.fl (c:="Room") rfl rfl,o.fl (c:="Room") rfl rfl,o.fl (c:="Room") rfl rfl,o.fl (c:="Hall") rfl rfl,o.fl (c:="Room") rfl rfl,o.fl (c:="Room") rfl rfl,o.fl (c:="Hall") rfl rfl,o.fl (c:="Hall") rfl rfl,o.fl (c:="Room") rfl rfl,o.fl (c:="Room") rfl rfl,o.fl (c:="Room") rfl rfl,DD.gd (bg:=[("door",.tup [.str "open",.str "asked"]),("voice",.tup [.str "all",.str "some"]),("past",.tup [.str "shown",.str "hidden"])]) (.cons (v:=.ref _) rfl (λH=>.tup (vs:=[.str "open",.str "asked"]) (.inr ⟨_,_,_,UP,rfl,rfl,rfl,by show 2<=sizeLine;decide,(.cons ⟨_,rfl⟩ (.cons ⟨_,rfl⟩ .nil))⟩) (.cons (.str _ (by decide)) (.cons (.str _ (by decide)) .nil))) (.cons (v:=.ref _) rfl (λH=>.tup (vs:=[.str "all",.str "some"]) (.inr ⟨_,_,_,UR,rfl,rfl,rfl,by show 2<=sizeLine;decide,(.cons ⟨_,rfl⟩ (.cons ⟨_,rfl⟩ .nil))⟩) (.cons (.str _ (by decide)) (.cons (.str _ (by decide)) .nil))) (.cons (v:=.ref _) rfl (λH=>.tup (vs:=[.str "shown",.str "hidden"]) (.inr ⟨_,_,_,UT,rfl,rfl,rfl,by show 2<=sizeLine;decide,(.cons ⟨_,rfl⟩ (.cons ⟨_,rfl⟩ .nil))⟩) (.cons (.str _ (by decide)) (.cons (.str _ (by decide)) .nil))) .nil))) (W.mg_of X G I) S s1 (show List.Nodup (["door","voice","past"]:List Str) by decide),DD.gk (bg:=[("door",.tup [.str "open",.str "asked"]),("voice",.tup [.str "all",.str "some"]),("past",.tup [.str "shown",.str "hidden"])]) (.cons (v:=.ref _) rfl (λH=>.tup (vs:=[.str "open",.str "asked"]) (.inr ⟨_,_,_,UP,rfl,rfl,rfl,by show 2<=sizeLine;decide,(.cons ⟨_,rfl⟩ (.cons ⟨_,rfl⟩ .nil))⟩) (.cons (.str _ (by decide)) (.cons (.str _ (by decide)) .nil))) (.cons (v:=.ref _) rfl (λH=>.tup (vs:=[.str "all",.str "some"]) (.inr ⟨_,_,_,UR,rfl,rfl,rfl,by show 2<=sizeLine;decide,(.cons ⟨_,rfl⟩ (.cons ⟨_,rfl⟩ .nil))⟩) (.cons (.str _ (by decide)) (.cons (.str _ (by decide)) .nil))) (.cons (v:=.ref _) rfl (λH=>.tup (vs:=[.str "shown",.str "hidden"]) (.inr ⟨_,_,_,UT,rfl,rfl,rfl,by show 2<=sizeLine;decide,(.cons ⟨_,rfl⟩ (.cons ⟨_,rfl⟩ .nil))⟩) (.cons (.str _ (by decide)) (.cons (.str _ (by decide)) .nil))) .nil))) (W.mg_of X G I) S s1 (show List.Nodup (["door","voice","past"]:List Str) by decide) (show∀z∈(["door","voice","past"]:List Str),z.length<=cy by decide),o.xc 0 rfl,o.xc 1 rfl,o.xc 2 rfl,o.xc 3 rfl,o.xc 4 rfl,o.xc 5 rfl,o.xc 6 rfl,o.xc 7 rfl,o.xc 8 rfl,o.xc 9 rfl,o.xc 10 rfl,o.FC rfl,o.FC rfl,o.FC rfl,o.FC rfl,o.FC rfl,o.FC rfl,o.FC rfl,o.FC rfl,o.FC rfl,o.FC rfl,o.ca rfl rfl,o.er rfl rfl,o.er rfl rfl,o.er rfl rfl,o.er rfl rfl,o.er rfl rfl,o.er rfl rfl,o.er rfl rfl,o.er rfl rfl⟩;cases b.symm.trans ((T.d 69 rfl:zk.Ok K mg).m0 rfl);obtain⟨oc,od,kV,doc,pm,an,fM,ct,HL,L,_,_⟩:=(T.d 69 rfl:zk.Ok K mg).fn.ex;exact⟨_,λs v=>by rw[L];exact .of_eq rfl,λbase _ _=>(Um T).ok⟩
def Ra{K:Frag}{Q:VK}{ns:List Int}(g:lj K H a (ns.map V.int))(q:∀H',Q (.bl true) H'):spT K x6 [.ref a] H Q E:=
 ⟨⟨λ_=>false,λ_=>none⟩,[.vg ns],λb e=>(nomatch e),.cons (.vg g) .nil,.bl true,Kt ns,λv H' _ r=>by rw[r.rD];exact q H'⟩
def walk{l:PySem.W.OpenLaw}{b:World->Heap->Prop}{d:DefRec}{K:Params->Frag}(g:l.most=some 63)(r:d.params.defaults=[])
  (I:∀(w:World) (h:Heap),b w h->(K w.params).In h)
  (F:∀(w:World) (mg:Str->Option Value) (fa:Addr) (h:Heap),(K w.params).In h->h.Ns mainGlobals mg->mg d.name=some (.ref fa)->
   ∃fd:FuncData,(∀(s:Shared) (u:Value),BindsTo s fd ⟨[u],[]⟩ [("_law_script",u)])/\∀base:Heap,(K w.params).In base->base.Ns mainGlobals mg->fL l.prog w (K w.params) mg base qX 9 fa fd ["_law_script"] (spT (K w.params) x6)):
  PySem.W.WalkO q loose M b l.row.toRowW d [] (λf vs=>PySem.call f vs):=
 L2.Lg (n:=63) (k:=9) (x:="_law_script") (CX:=λ_=>qX) (sp:=λw=>spT (K w.params) x6) g (by decide) r ⟨rfl,by decide,by decide⟩ I F (λ_ _ a ns S _ L=>Ra L λ_=>rfl) λ_ _ _ _ _ z=>z
end XH
namespace PySem.W.Fast
theorem tw11514931913253591074:True:=trivial
theorem tw18105075096398764616:True:=trivial
theorem tw2693288392519088401:True:=trivial
theorem tw8353298426837813068:True:=trivial
theorem tw2915390384748608224:True:=trivial
theorem tw2930102076143162412:True:=trivial
theorem tw15289680775697528541:True:=trivial
theorem tw18125038823197260396:True:=trivial
theorem tw11231644404792816824:True:=trivial
theorem tw10914940954653141938:True:=trivial
theorem tw6164095033437832221:True:=trivial
theorem tw17757958611530440868:True:=trivial
theorem tw5440885090334967733:True:=trivial
theorem tw1079968750353509548:True:=trivial
theorem tw10699255707684887797:True:=trivial
theorem tw15086066755554932882:True:=trivial
theorem tw17935219867049280749:True:=trivial
theorem tw1584245106876907007:True:=trivial
theorem tw13401444986201109372:True:=trivial
theorem tw9435537623964885457:True:=trivial
theorem tw13727187888927229773:True:=trivial
theorem tw1147529404104801893:True:=trivial
theorem tw15465944718182262943:True:=trivial
theorem tw16514757646208675578:True:=trivial
theorem tw1423228103510831935:True:=trivial
theorem tw7572261459740260984:True:=trivial
theorem tw6322871917591122620:True:=trivial
theorem tw14864214376061560837:True:=trivial
theorem tw562349157311657012:True:=trivial
theorem tw5217022828543937347:True:=trivial
theorem tw15735668495424094881:True:=trivial
theorem tw12130259602457910915:True:=trivial
theorem tw12572619330432725377:True:=trivial
theorem tw2182801641505093352:True:=trivial
theorem tw959635927095720796:True:=trivial
theorem tw8284837602740350247:True:=trivial
theorem tw11467732271881041552:True:=trivial
theorem tw1164945200638840620:True:=trivial
theorem tw101947747186424303:True:=trivial
theorem tw5402880016872072426:True:=trivial
theorem tw6750902285193220294:True:=trivial
theorem tw6421657139508232958:True:=trivial
theorem tw17547134540130574063:True:=trivial
theorem tw12148528431079606326:True:=trivial
theorem tw7988986293906291733:True:=trivial
theorem tw2337723551495583477:True:=trivial
theorem tw472832253859090326:True:=trivial
theorem tw2062897659361452121:True:=trivial
theorem tw4446190985336761889:True:=trivial
theorem tw3041892263612132968:True:=trivial
theorem tw6754419185233824251:True:=trivial
theorem tw4969823807244129483:True:=trivial
theorem tw5464369276301911429:True:=trivial
theorem tw6997409555882935620:True:=trivial
theorem tw3621494466659099834:True:=trivial
theorem tw593512224252420960:True:=trivial
theorem tw14972643999060906322:True:=trivial
theorem tw8972166932662061277:True:=trivial
theorem tw1713654321427999756:True:=trivial
theorem tw6727030868115059501:True:=trivial
theorem tw8266396218012134970:True:=trivial
theorem tw7037398204556282829:True:=trivial
theorem tw14679046248369264964:True:=trivial
theorem tw1345106086431296292:True:=trivial
theorem tw15296739855857522318:True:=trivial
theorem tw8292219718849562587:True:=trivial
theorem tw11380250750699903453:True:=trivial
theorem tw5734439490683669675:True:=trivial
theorem tw9487777834006207334:True:=trivial
theorem tw4053673895565973049:True:=trivial
theorem tw16421173355050972109:True:=trivial
theorem tw9020588953581538454:True:=trivial
theorem tw7454306064696740397:True:=trivial
theorem tw9594339368729566068:True:=trivial
theorem tw1504667466222582245:True:=trivial
theorem tw597716678150435793:True:=trivial
theorem tw18194442359515758716:True:=trivial
theorem tw14264567380473210225:True:=trivial
theorem tw12425286401748137027:True:=trivial
theorem tw14487762599658583400:True:=trivial
theorem tw8554737081472102760:True:=trivial
theorem tw11234631865565419716:True:=trivial
theorem tw4728411994816080210:True:=trivial
theorem tw7643853364895900789:True:=trivial
theorem tw4721407877709634582:True:=trivial
theorem tw11483204603435389657:True:=trivial
theorem tw14450294815681855077:True:=trivial
theorem tw1425572465120053553:True:=trivial
theorem tw6739261265996894975:True:=trivial
theorem tw14591258352769745064:True:=trivial
theorem tw7362733812646738983:True:=trivial
theorem tw3804551898140117688:True:=trivial
theorem tw16302603616421524398:True:=trivial
theorem tw8075900589545041744:True:=trivial
theorem tw10449142295737254357:True:=trivial
theorem tw10643427109328851051:True:=trivial
theorem tw16890846335138760519:True:=trivial
theorem tw18100356357511689190:True:=trivial
theorem tw10644019649404586735:True:=trivial
theorem tw13743600717979945867:True:=trivial
theorem tw6925693446473820937:True:=trivial
theorem tw989682276170761245:True:=trivial
theorem tw11275177117296472056:True:=trivial
theorem tw17710551617046306259:True:=trivial
theorem tw13591074554576473149:True:=trivial
theorem tw1620603848070881502:True:=trivial
theorem tw5777450546877642426:True:=trivial
theorem tw12718410273471403613:True:=trivial
theorem tw15367176047927136113:True:=trivial
theorem tw450578171157660684:True:=trivial
theorem tw3851202462919342861:True:=trivial
theorem tw8425743702684114301:True:=trivial
theorem tw13491362238446308233:True:=trivial
theorem tw16395927519014042087:True:=trivial
theorem tw4272634682620300018:True:=trivial
theorem tw15821018802117314834:True:=trivial
theorem tw12159516362797838414:True:=trivial
theorem tw9140466164476937959:True:=trivial
theorem tw9572266276581858374:True:=trivial
theorem tw6064745941916254292:True:=trivial
theorem tw15412631264893838463:True:=trivial
theorem tw14173530232288494334:True:=trivial
theorem tw12044163123712380987:True:=trivial
theorem tw8676976935054492812:True:=trivial
theorem tw10434991667242347194:True:=trivial
theorem tw10991043335840653341:True:=trivial
theorem tw9943305286918983552:True:=trivial
theorem tw15918422059431909253:True:=trivial
theorem tw10022759209107768790:True:=trivial
theorem tw2179351164788947673:True:=trivial
theorem tw1896220662201364349:True:=trivial
theorem tw17380428151830248136:True:=trivial
theorem tw5017911364558904064:True:=trivial
theorem tw16065242856846645211:True:=trivial
theorem tw4085711403498334604:True:=trivial
theorem tw2075893349026936956:True:=trivial
theorem tw2612021674990449789:True:=trivial
theorem tw16357704981910015263:True:=trivial
theorem tw5873551752615929565:True:=trivial
theorem tw8681746134251688051:True:=trivial
theorem tw15433653153289240594:True:=trivial
theorem tw11552014445417881914:True:=trivial
theorem tw8791757050012725301:True:=trivial
theorem tw11149506390018568660:True:=trivial
theorem tw12413918689702951481:True:=trivial
theorem tw8623601244615326932:True:=trivial
theorem tw14288166969520396299:True:=trivial
theorem tw499816069430574831:True:=trivial
theorem tw3659592022614422533:True:=trivial
theorem tw8628818040418090262:True:=trivial
theorem tw9670210529564270915:True:=trivial
theorem tw8943225443615459980:True:=trivial
theorem tw18024305813000019444:True:=trivial
theorem tw17037174840424694069:True:=trivial
theorem tw5367587651966750981:True:=trivial
theorem tw16901831029980240525:True:=trivial
theorem tw15722797391652638795:True:=trivial
theorem tw3149765560308132097:True:=trivial
theorem tw10046589785896575075:True:=trivial
theorem tw12411860318039120175:True:=trivial
theorem tw15196623335914979632:True:=trivial
theorem tw9191769194671635060:True:=trivial
theorem tw5057604666689947466:True:=trivial
theorem tw15830390667946452836:True:=trivial
theorem tw7259760546806209547:True:=trivial
theorem tw9338333949524940516:True:=trivial
theorem tw14483095184694169160:True:=trivial
theorem tw12059776108893738801:True:=trivial
theorem tw9611492320670305052:True:=trivial
theorem tw17762987731875971729:True:=trivial
theorem tw17980194136067872758:True:=trivial
theorem tw11853433965546513038:True:=trivial
theorem tw15850334687053144638:True:=trivial
theorem tw17567723031070956265:True:=trivial
theorem tw8251964344081234587:True:=trivial
theorem tw16188746211329317439:True:=trivial
theorem tw6747217353723205276:True:=trivial
theorem tw17392861763519396357:True:=trivial
theorem tw11544671127350992259:True:=trivial
theorem tw18240111669276345278:True:=trivial
theorem tw7361626151265538946:True:=trivial
theorem tw12708637498868514173:True:=trivial
theorem tw14513012773768264075:True:=trivial
theorem tw8364560109707910554:True:=trivial
theorem tw10819511876654606682:True:=trivial
theorem tw4881539947701875806:True:=trivial
theorem tw10367073810800278114:True:=trivial
theorem tw2947038195399295566:True:=trivial
theorem tw10167872848953642784:True:=trivial
theorem tw4300385234684459067:True:=trivial
theorem tw12688162611616396695:True:=trivial
theorem tw16310942990489323307:True:=trivial
theorem tw6654186814250821628:True:=trivial
theorem tw3312299971938535736:True:=trivial
theorem tw4804417833065593647:True:=trivial
theorem tw3325899534734684322:True:=trivial
theorem tw9978581984150025928:True:=trivial
theorem tw6742075299062821712:True:=trivial
theorem tw17556940939839931004:True:=trivial
theorem tw17216755142430574235:True:=trivial
theorem tw15191615435357856163:True:=trivial
theorem tw9214125098459645650:True:=trivial
theorem tw8335715014179699215:True:=trivial
theorem tw1181127902057987630:True:=trivial
theorem tw13090055691185022965:True:=trivial
theorem tw15771027307235737726:True:=trivial
theorem tw5808564381311852635:True:=trivial
theorem tw16106359778219292866:True:=trivial
theorem tw4394020300751599558:True:=trivial
theorem tw17976413642515558278:True:=trivial
theorem tw16760303657718858505:True:=trivial
theorem tw10804894663260518224:True:=trivial
theorem tw9253277946944759870:True:=trivial
theorem tw7840541929562022732:True:=trivial
theorem tw489056462445960658:True:=trivial
theorem tw7957397827390376197:True:=trivial
theorem tw3071494569538332440:True:=trivial
theorem tw10088455137707269622:True:=trivial
theorem tw7707944632247554706:True:=trivial
theorem tw10432103634270558469:True:=trivial
theorem tw5461031624670981956:True:=trivial
theorem tw4674617166090342031:True:=trivial
theorem tw12522688052765151962:True:=trivial
theorem tw8606612095341407539:True:=trivial
theorem tw14462279879875999361:True:=trivial
theorem tw10321589694240274460:True:=trivial
theorem tw10216004054718184466:True:=trivial
theorem tw7940500042812751749:True:=trivial
theorem tw11470823402008336094:True:=trivial
theorem tw9114609539133954255:True:=trivial
theorem tw9272912820416105224:True:=trivial
theorem tw16654385755628556667:True:=trivial
theorem tw7678125677389376421:True:=trivial
theorem tw5754592705615584365:True:=trivial
theorem tw15421869885412762796:True:=trivial
theorem tw5692450450989511726:True:=trivial
theorem tw10727046026458285371:True:=trivial
theorem tw5574031457954938062:True:=trivial
theorem tw7763439681510454247:True:=trivial
theorem tw10150433913096582740:True:=trivial
theorem tw14597999428031706665:True:=trivial
theorem tw3152563616079524579:True:=trivial
theorem tw3208618720644913912:True:=trivial
theorem tw4098322953179699403:True:=trivial
theorem tw3024952498078980775:True:=trivial
theorem tw17102799691809312799:True:=trivial
theorem tw775714872362798697:True:=trivial
theorem tw6595695859646230845:True:=trivial
theorem tw11486278384973585876:True:=trivial
theorem tw12475369927910612916:True:=trivial
theorem tw2881336187532256701:True:=trivial
theorem tw17785776080734654791:True:=trivial
theorem tw5221938771871871477:True:=trivial
theorem tw17840381662412977772:True:=trivial
theorem tw13286889016139146803:True:=trivial
theorem tw9773689952475960090:True:=trivial
theorem tw13004089512277651066:True:=trivial
theorem tw17441726385738668122:True:=trivial
theorem tw5486462954786827065:True:=trivial
theorem tw14417568210944293504:True:=trivial
theorem tw11843330232123694679:True:=trivial
theorem tw4008466836466248326:True:=trivial
theorem tw6087024003178782802:True:=trivial
theorem tw6227164561459203423:True:=trivial
theorem tw10782155993696428147:True:=trivial
theorem tw3743214713328207767:True:=trivial
theorem tw5679332441765265750:True:=trivial
theorem tw7262946597627176748:True:=trivial
theorem tw6669190174536846214:True:=trivial
theorem tw9996264383598318781:True:=trivial
theorem tw13963089215466085045:True:=trivial
theorem tw2328507435705907613:True:=trivial
theorem tw1783929019148711162:True:=trivial
theorem tw766435850700857271:True:=trivial
theorem tw5187042292917155436:True:=trivial
theorem tw10623523834981350271:True:=trivial
theorem tw8168867401956045176:True:=trivial
theorem tw8904365244054998961:True:=trivial
theorem tw4587140959955111637:True:=trivial
theorem tw12468206510734989340:True:=trivial
theorem tw57139924772364530:True:=trivial
theorem tw11394318193487270113:True:=trivial
theorem tw7715845543040073260:True:=trivial
theorem tw13382713597302291036:True:=trivial
theorem tw12988244729424470162:True:=trivial
theorem tw5118523073898739916:True:=trivial
theorem tw1505462770362406442:True:=trivial
theorem tw933228691957822758:True:=trivial
theorem tw10857085296055232210:True:=trivial
theorem tw6808164624101022967:True:=trivial
theorem tw4360221358873051199:True:=trivial
theorem tw13312179452469341946:True:=trivial
theorem tw14199158937099266600:True:=trivial
theorem tw11881879486531134749:True:=trivial
theorem tw16333681362914324947:True:=trivial
theorem tw14044441715315765180:True:=trivial
theorem tw340374111658071397:True:=trivial
theorem tw10422872639329345258:True:=trivial
theorem tw12446615380776053929:True:=trivial
theorem tw8484339562270124860:True:=trivial
theorem tw18102922236889845896:True:=trivial
theorem tw16828582693642692618:True:=trivial
theorem tw9172787120301278253:True:=trivial
theorem tw16419494019168421732:True:=trivial
theorem tw8004972052166908288:True:=trivial
theorem tw148863596076439401:True:=trivial
theorem tw1350658397158363496:True:=trivial
theorem tw10929392064167500052:True:=trivial
theorem tw9250063496132881770:True:=trivial
theorem tw9782149577843215786:True:=trivial
theorem tw14129130270270487103:True:=trivial
theorem tw16688255822494065138:True:=trivial
theorem tw9583234813678661462:True:=trivial
theorem tw14938697414911292317:True:=trivial
theorem tw1216183352244294338:True:=trivial
theorem tw1247188174352695482:True:=trivial
theorem tw12505206744205889863:True:=trivial
theorem tw10160499533349601346:True:=trivial
theorem tw15963115325285921423:True:=trivial
theorem tw17313876100947240860:True:=trivial
theorem tw8187153244060175728:True:=trivial
theorem tw16996261266852194494:True:=trivial
theorem tw17092498162952308197:True:=trivial
theorem tw4908271247269593966:True:=trivial
theorem tw17010461024471411961:True:=trivial
theorem tw13446137046377201458:True:=trivial
theorem tw3124484461540138724:True:=trivial
theorem tw3220395347899185750:True:=trivial
theorem tw2880165562693302820:True:=trivial
theorem tw8920352913587483359:True:=trivial
theorem tw1089691072090507538:True:=trivial
theorem tw18127885088960061787:True:=trivial
theorem tw3105447349583174125:True:=trivial
theorem tw15285220854128224170:True:=trivial
theorem tw4392687319776961733:True:=trivial
theorem tw14883179077893214107:True:=trivial
theorem tw1209829220156288359:True:=trivial
theorem tw1783776847592301202:True:=trivial
theorem tw10314138445910519008:True:=trivial
theorem tw5705539189174496654:True:=trivial
theorem tw6492314152038782300:True:=trivial
theorem tw2578626369951644078:True:=trivial
theorem tw3916993244361944225:True:=trivial
theorem tw7673204757270482585:True:=trivial
theorem tw5560347143869111440:True:=trivial
theorem tw5479217488150359758:True:=trivial
theorem tw17336891785794533963:True:=trivial
theorem tw16376118868162390582:True:=trivial
theorem tw17132558620415319208:True:=trivial
theorem tw13174771330273857074:True:=trivial
theorem tw15185267963495356275:True:=trivial
theorem tw18042629462904387924:True:=trivial
theorem tw2629920618520499155:True:=trivial
theorem tw11015104243051711272:True:=trivial
theorem tw1153283798759734652:True:=trivial
theorem tw5493031711526004962:True:=trivial
theorem tw3309154886232696685:True:=trivial
theorem tw3929416516586650441:True:=trivial
theorem tw6477125357016531748:True:=trivial
theorem tw5665399698425433678:True:=trivial
theorem tw16766647915445967498:True:=trivial
theorem tw8395537738550779291:True:=trivial
theorem tw7732615928528923264:True:=trivial
theorem tw11794569639215771450:True:=trivial
theorem tw9426571751758791553:True:=trivial
theorem tw8661896450331300002:True:=trivial
theorem tw7603183957105459881:True:=trivial
theorem tw11207237317426557635:True:=trivial
theorem tw834954885423220177:True:=trivial
theorem tw7250145028862934753:True:=trivial
theorem tw11331369286900125935:True:=trivial
theorem tw4280257137232623413:True:=trivial
theorem tw14962261815887437757:True:=trivial
theorem tw6563891618441293848:True:=trivial
theorem tw6674639561833827612:True:=trivial
theorem tw4982014843123791829:True:=trivial
theorem tw11097664195372007727:True:=trivial
theorem tw14759649846698352562:True:=trivial
theorem tw18189198714644815645:True:=trivial
theorem tw12389041370487943372:True:=trivial
theorem tw3459750062317348512:True:=trivial
theorem tw16022810061643708364:True:=trivial
theorem tw14115758768999652570:True:=trivial
theorem tw8891548044509457133:True:=trivial
theorem tw815384238276297992:True:=trivial
theorem tw14912271402504713058:True:=trivial
theorem tw5260306960155430887:True:=trivial
theorem tw9457016846690124169:True:=trivial
theorem tw7804474493124925073:True:=trivial
theorem tw2565834906106539507:True:=trivial
theorem tw7840759951551468424:True:=trivial
theorem tw13504200493522427479:True:=trivial
theorem tw15824129393284670982:True:=trivial
theorem tw16656418298772642931:True:=trivial
theorem tw18018769338563556181:True:=trivial
theorem tw15694599428117914212:True:=trivial
theorem tw18149537931027105660:True:=trivial
theorem tw2888292087900115718:True:=trivial
theorem tw8352873873166372819:True:=trivial
theorem tw1238835820319095042:True:=trivial
theorem tw5070765517936937020:True:=trivial
theorem tw1761081585178381891:True:=trivial
theorem tw17954722041236328823:True:=trivial
theorem tw13356627730743392496:True:=trivial
theorem tw15264147846878135698:True:=trivial
theorem tw13039999826052081357:True:=trivial
theorem tw11664635583544321289:True:=trivial
theorem tw782810451378094849:True:=trivial
theorem tw12655110962717279059:True:=trivial
theorem tw14893352231509081877:True:=trivial
theorem tw12560908207625596500:True:=trivial
theorem tw8375473495388313314:True:=trivial
theorem tw11380478755717541390:True:=trivial
theorem tw11435476936482855365:True:=trivial
theorem tw10268048956973609712:True:=trivial
theorem tw7365273645641509605:True:=trivial
theorem tw5351745426999539863:True:=trivial
theorem tw13362585471715411046:True:=trivial
theorem tw5146712299888850056:True:=trivial
theorem tw10030342013095253078:True:=trivial
theorem tw8807010338056211618:True:=trivial
theorem tw1711445489279870:True:=trivial
theorem tw11333421095159014310:True:=trivial
theorem tw14097509254815073018:True:=trivial
theorem tw4190143715364779767:True:=trivial
theorem tw7617987231672988413:True:=trivial
theorem tw5195801003960479548:True:=trivial
theorem tw13099556001825331415:True:=trivial
theorem tw12115748274773237417:True:=trivial
theorem tw10479205488313240869:True:=trivial
theorem tw6634286171547953387:True:=trivial
theorem tw12626178162975810309:True:=trivial
theorem tw3057937368940339513:True:=trivial
theorem tw3685259546021800599:True:=trivial
theorem tw16620377447925742443:True:=trivial
theorem tw6644050687389963467:True:=trivial
theorem tw10516971354463326667:True:=trivial
theorem tw2924825969175267072:True:=trivial
theorem tw17156963149138566325:True:=trivial
theorem tw10242046226205234288:True:=trivial
theorem tw5494698885868292360:True:=trivial
theorem tw6163459849755122364:True:=trivial
theorem tw4251359086745842471:True:=trivial
theorem tw11978989065574960185:True:=trivial
theorem tw1240099230434818457:True:=trivial
theorem tw10599291248724205459:True:=trivial
theorem tw16198262206824652998:True:=trivial
theorem tw4669695813577867908:True:=trivial
theorem tw5413935656894199632:True:=trivial
theorem tw4164340851584299811:True:=trivial
theorem tw4310925307416492520:True:=trivial
theorem tw10362142567588016732:True:=trivial
theorem tw18002085755436699698:True:=trivial
theorem tw16895092888077301990:True:=trivial
theorem tw8633583154063317902:True:=trivial
theorem tw12924051006377098734:True:=trivial
theorem tw14467904935871608439:True:=trivial
theorem tw15472287353157932721:True:=trivial
theorem tw2656281024394232709:True:=trivial
theorem tw9698635107618313951:True:=trivial
theorem tw5193359257335457021:True:=trivial
theorem tw12654059563448963989:True:=trivial
theorem tw4350616434551833882:True:=trivial
theorem tw11547246213345289715:True:=trivial
theorem tw10320201511769110396:True:=trivial
theorem tw6821759643245944657:True:=trivial
theorem tw5546443586999361743:True:=trivial
theorem tw18317571285985760547:True:=trivial
theorem tw4340019096897561165:True:=trivial
theorem tw5900253846723815176:True:=trivial
theorem tw3026272253814082386:True:=trivial
theorem tw11117086811649426176:True:=trivial
theorem tw4287993674920612523:True:=trivial
theorem tw11231320914288956274:True:=trivial
theorem tw13626331166724329621:True:=trivial
theorem tw5064993423588942585:True:=trivial
theorem tw6561869990015988759:True:=trivial
theorem tw3394165617745561335:True:=trivial
theorem tw11363760420998794170:True:=trivial
theorem tw921044527481740881:True:=trivial
theorem tw17494247423329509250:True:=trivial
theorem tw2608876211750391356:True:=trivial
theorem tw10714900317302052718:True:=trivial
theorem tw16866522502127580304:True:=trivial
theorem tw2240825308873941883:True:=trivial
theorem tw6369773444614531831:True:=trivial
theorem tw6495549709626804225:True:=trivial
theorem tw10192946013102671132:True:=trivial
theorem tw12641246296418899315:True:=trivial
theorem tw7468120058020015814:True:=trivial
theorem tw1487405316366219546:True:=trivial
theorem tw2257861842614487194:True:=trivial
theorem tw14445155774852262666:True:=trivial
theorem tw176639309466587431:True:=trivial
theorem tw1524799489835826731:True:=trivial
theorem tw14724988258047361698:True:=trivial
theorem tw17863515466138616973:True:=trivial
theorem tw1952758849218263755:True:=trivial
theorem tw16367667894702739360:True:=trivial
theorem tw10494453324021664497:True:=trivial
theorem tw11597576623092896014:True:=trivial
theorem tw5870432938485465719:True:=trivial
theorem tw9470228592413418303:True:=trivial
theorem tw1291303038226736942:True:=trivial
theorem tw17462098061819111909:True:=trivial
theorem tw3312384298323300400:True:=trivial
theorem tw15614862637662387169:True:=trivial
theorem tw11841187114686363525:True:=trivial
theorem tw17192611752608770256:True:=trivial
theorem tw13945467088184227101:True:=trivial
theorem tw15287693358627219944:True:=trivial
theorem tw545822358612500476:True:=trivial
theorem tw16525002976758318701:True:=trivial
theorem tw11003365536309486850:True:=trivial
theorem tw2894933803935051612:True:=trivial
theorem tw9613579823412423551:True:=trivial
theorem tw3504062372424666364:True:=trivial
theorem tw17893497670953835651:True:=trivial
theorem tw3488538590765667292:True:=trivial
theorem tw10259266055002593131:True:=trivial
theorem tw9342078855800291116:True:=trivial
theorem tw5204124259849289322:True:=trivial
theorem tw12849572401771597532:True:=trivial
theorem tw17223539805513232324:True:=trivial
theorem tw799515374262220240:True:=trivial
theorem tw8239432310512613729:True:=trivial
theorem tw5371546821198153922:True:=trivial
theorem tw15884297370634879341:True:=trivial
theorem tw10202515041267179194:True:=trivial
theorem tw11036993649542793919:True:=trivial
theorem tw6188180532443479499:True:=trivial
theorem tw12541052328879484900:True:=trivial
theorem tw4083132120355264929:True:=trivial
theorem tw4644036371274822099:True:=trivial
theorem tw1345448465108250241:True:=trivial
theorem tw16927354648527747175:True:=trivial
theorem tw10065708135539743505:True:=trivial
theorem tw10543543931441225953:True:=trivial
theorem tw8112887561774910445:True:=trivial
theorem tw4577509924244999817:True:=trivial
theorem tw14273209015472350626:True:=trivial
theorem tw6143390810344672213:True:=trivial
theorem tw12340066204760359641:True:=trivial
theorem tw15178421707071766068:True:=trivial
theorem tw10104412378218906064:True:=trivial
theorem tw5370367340513970661:True:=trivial
theorem tw18096721234967332232:True:=trivial
theorem tw2070569186216887810:True:=trivial
theorem tw7901685321798845560:True:=trivial
theorem tw3787123105340948097:True:=trivial
theorem tw17741461563764058790:True:=trivial
theorem tw16263583601785647471:True:=trivial
theorem tw16181845808865111239:True:=trivial
theorem tw7177798443156057720:True:=trivial
theorem tw2197214689405637297:True:=trivial
theorem tw9628438814339131612:True:=trivial
theorem tw10806010598776798606:True:=trivial
theorem tw17969392294923094619:True:=trivial
theorem tw12967646659763246620:True:=trivial
theorem tw798922639444588221:True:=trivial
theorem tw15563717194906083553:True:=trivial
theorem tw148153797512293763:True:=trivial
theorem tw11745107411242218405:True:=trivial
theorem tw17300141194974453765:True:=trivial
theorem tw14547443689666101243:True:=trivial
theorem tw15604381706753724221:True:=trivial
theorem tw4560344059884624065:True:=trivial
theorem tw1758609340377900815:True:=trivial
theorem tw9996992971380689642:True:=trivial
theorem tw17724560851267572067:True:=trivial
theorem tw4975249709900000610:True:=trivial
theorem tw1915603043732722568:True:=trivial
theorem tw15603282567347919662:True:=trivial
theorem tw1430915498571876241:True:=trivial
theorem tw11761938867947578311:True:=trivial
theorem tw5988676585038327981:True:=trivial
theorem tw4334703708226565080:True:=trivial
theorem tw10711659270010412542:True:=trivial
theorem tw9381906459912112178:True:=trivial
theorem tw15036253824258395074:True:=trivial
theorem tw6072043593069725077:True:=trivial
theorem tw8281162661994987309:True:=trivial
theorem tw8626264926510442387:True:=trivial
theorem tw6008083437658259804:True:=trivial
theorem tw4139723649193749999:True:=trivial
theorem tw12599778392482623109:True:=trivial
theorem tw17677016993571861102:True:=trivial
theorem tw467439968426596585:True:=trivial
theorem tw4580145117584716895:True:=trivial
theorem tw9232833310052173102:True:=trivial
theorem tw668452473881887174:True:=trivial
theorem tw16438593899793062413:True:=trivial
theorem tw1033279688752552803:True:=trivial
theorem tw13170474407581290304:True:=trivial
theorem tw403141795083228370:True:=trivial
theorem tw2006249868451693102:True:=trivial
theorem tw12760828197829652380:True:=trivial
theorem tw15368776368928648589:True:=trivial
theorem tw14306401322591083853:True:=trivial
theorem tw5268602976395284721:True:=trivial
theorem tw15030272509461071019:True:=trivial
theorem tw7595035084517087194:True:=trivial
theorem tw12068993631037517239:True:=trivial
theorem tw15605193321152635011:True:=trivial
theorem tw10791636164345445552:True:=trivial
theorem tw16807137074237158920:True:=trivial
theorem tw11122903592873104425:True:=trivial
theorem tw13614615880678670450:True:=trivial
theorem tw9062685802026512591:True:=trivial
theorem tw7538870872670951350:True:=trivial
theorem tw17986635429411435617:True:=trivial
theorem tw8062847990606653199:True:=trivial
theorem tw10209181887189088065:True:=trivial
theorem tw5947534980500433063:True:=trivial
theorem tw13275790181728230020:True:=trivial
theorem tw8242013784575027983:True:=trivial
theorem tw1449389440180840235:True:=trivial
theorem tw1807100731049488162:True:=trivial
theorem tw8326993927587829810:True:=trivial
theorem tw11229693253850548360:True:=trivial
theorem tw3575057942096365453:True:=trivial
theorem tw2634356031183939881:True:=trivial
theorem tw5090250137020163528:True:=trivial
theorem tw12954907743875452621:True:=trivial
theorem tw2799798278710250163:True:=trivial
theorem tw11452117622179073531:True:=trivial
theorem tw8000920434602915979:True:=trivial
theorem tw4799625399344378016:True:=trivial
theorem tw14879046183162883485:True:=trivial
theorem tw17928921784884223702:True:=trivial
theorem tw7261962178668868290:True:=trivial
theorem tw11988837787053139561:True:=trivial
theorem tw9576930178185401558:True:=trivial
theorem tw18045951475660756429:True:=trivial
theorem tw13292121225519031569:True:=trivial
theorem tw811494117214520671:True:=trivial
theorem tw13912193480317350396:True:=trivial
theorem tw3969814217515260970:True:=trivial
theorem tw4615694883294037194:True:=trivial
theorem tw15201218873778925159:True:=trivial
theorem tw16295658886246228449:True:=trivial
theorem tw7632732731252695713:True:=trivial
theorem tw10981116832946594502:True:=trivial
theorem tw7979783535775828887:True:=trivial
theorem tw6891514629749005300:True:=trivial
theorem tw4806229757506176708:True:=trivial
theorem tw8209363752591355602:True:=trivial
theorem tw4176470337746860370:True:=trivial
theorem tw16013846462321993218:True:=trivial
theorem tw16289415488428952252:True:=trivial
theorem tw8536671614202958642:True:=trivial
theorem tw7295448040447430054:True:=trivial
theorem tw4969963880022072786:True:=trivial
theorem tw14235846542143140075:True:=trivial
theorem tw13188672599291471852:True:=trivial
theorem tw17612398139869114936:True:=trivial
theorem tw14297223872777074671:True:=trivial
theorem tw15027319925480484032:True:=trivial
theorem tw16485663260722234449:True:=trivial
theorem tw9077021973129704138:True:=trivial
theorem tw3968498376391091164:True:=trivial
theorem tw17228877684375785059:True:=trivial
theorem tw1675997646763609751:True:=trivial
theorem tw11483335855975552946:True:=trivial
theorem tw10322578777416945538:True:=trivial
theorem tw3141472485407830525:True:=trivial
theorem tw16999617156510341406:True:=trivial
theorem tw9959028015000663352:True:=trivial
theorem tw7927326331830460597:True:=trivial
theorem tw16312360361683394179:True:=trivial
theorem tw7949738397549386224:True:=trivial
theorem tw8431890510448790557:True:=trivial
theorem tw4606308271690388793:True:=trivial
theorem tw11304670522064697280:True:=trivial
theorem tw9326447316503705379:True:=trivial
theorem tw376369155238572370:True:=trivial
theorem tw17813377139174206601:True:=trivial
theorem tw4429471299627596919:True:=trivial
theorem tw16458883324371957474:True:=trivial
theorem tw13319082293759977452:True:=trivial
theorem tw16151957150017310874:True:=trivial
theorem tw3573647931743722337:True:=trivial
theorem tw18188114501263839421:True:=trivial
theorem tw2426963110895792508:True:=trivial
theorem tw4481938244090951447:True:=trivial
theorem tw1698525791169996985:True:=trivial
theorem tw3996366240201888555:True:=trivial
theorem tw11544457857181996871:True:=trivial
theorem tw8201338037420481235:True:=trivial
theorem tw2637199418337021866:True:=trivial
theorem tw9803209193872084265:True:=trivial
theorem tw1947646630083085522:True:=trivial
theorem tw15011229225113582889:True:=trivial
theorem tw15815797683863440965:True:=trivial
theorem tw10254554778342035244:True:=trivial
theorem tw7292358629302507532:True:=trivial
theorem tw15916823173942159351:True:=trivial
theorem tw7643626774103065320:True:=trivial
theorem tw13809284173980452448:True:=trivial
theorem tw18297563104043805804:True:=trivial
theorem tw12128245353496446630:True:=trivial
theorem tw10049247096550445203:True:=trivial
theorem tw10069558336315620239:True:=trivial
theorem tw14021612171001941679:True:=trivial
theorem tw9022412378514203812:True:=trivial
theorem tw636755422218994886:True:=trivial
theorem tw5586428576876558659:True:=trivial
theorem tw11747367926889845087:True:=trivial
theorem tw8692517035580817289:True:=trivial
theorem tw3210552314379721819:True:=trivial
theorem tw3688791369112500550:True:=trivial
theorem tw1324286174781886378:True:=trivial
theorem tw4158386246473940620:True:=trivial
theorem tw8227968705849266701:True:=trivial
theorem tw10488694123777733499:True:=trivial
theorem tw7642328088571903720:True:=trivial
theorem tw10597912760991976459:True:=trivial
theorem tw9787914542881874871:True:=trivial
theorem tw14339812487967223009:True:=trivial
theorem tw5185741371629570156:True:=trivial
theorem tw4013373514431305615:True:=trivial
theorem tw13721796757810663178:True:=trivial
theorem tw12498767167280357652:True:=trivial
theorem tw13370793602254152334:True:=trivial
theorem tw16163097298799378465:True:=trivial
theorem tw7851602185022292801:True:=trivial
theorem tw1091160845261345179:True:=trivial
theorem tw10786737615783819246:True:=trivial
theorem tw17340564205708083210:True:=trivial
theorem tw3508767171564383324:True:=trivial
theorem tw11240237099357435121:True:=trivial
theorem tw3144746385924634144:True:=trivial
theorem tw16498109832360475136:True:=trivial
theorem tw163677077824852048:True:=trivial
theorem tw8374007294133654800:True:=trivial
theorem tw9573600958891139795:True:=trivial
theorem tw12894831685444519000:True:=trivial
theorem tw7759392751472143759:True:=trivial
theorem tw9131736308786068238:True:=trivial
theorem tw17011943172994065727:True:=trivial
theorem tw419570632346556474:True:=trivial
theorem tw17268445927384339124:True:=trivial
theorem tw8944521514060935681:True:=trivial
theorem tw11641863729826231521:True:=trivial
theorem tw14167788404557182937:True:=trivial
theorem tw17371811429941256434:True:=trivial
theorem tw14794754365080114049:True:=trivial
theorem tw14965409147619668410:True:=trivial
theorem tw8944342123490149086:True:=trivial
theorem tw11184315284157653169:True:=trivial
theorem tw17420547270700820799:True:=trivial
theorem tw9816054796976737122:True:=trivial
theorem tw6971801993679912362:True:=trivial
theorem tw7901562389231026838:True:=trivial
theorem tw14018674323940276657:True:=trivial
theorem tw8546195249411259601:True:=trivial
theorem tw4632008288851999361:True:=trivial
theorem tw14287325820423155662:True:=trivial
theorem tw9790971664147290450:True:=trivial
theorem tw15655506053132382841:True:=trivial
theorem tw3755469380151640852:True:=trivial
theorem tw4659121687087476041:True:=trivial
theorem tw4062020972184143208:True:=trivial
theorem tw4868948105002871129:True:=trivial
theorem tw160658220084411841:True:=trivial
theorem tw18440405756617280131:True:=trivial
theorem tw3052416433098130406:True:=trivial
theorem tw7179316237854280582:True:=trivial
theorem tw7156220997054277321:True:=trivial
theorem tw6905352311981506773:True:=trivial
theorem tw296084931467500908:True:=trivial
theorem tw13580783324501184148:True:=trivial
theorem tw1683355302412491896:True:=trivial
theorem tw9173645127328640014:True:=trivial
theorem tw14173681044160007123:True:=trivial
theorem tw1305863262080651896:True:=trivial
theorem tw8536673913304792981:True:=trivial
theorem tw8624664051037115785:True:=trivial
theorem tw4199259140613243980:True:=trivial
theorem tw10110650532396656778:True:=trivial
theorem tw7707682370153000851:True:=trivial
theorem tw376565601757062266:True:=trivial
theorem tw1891319209274919412:True:=trivial
theorem tw2005615543415981322:True:=trivial
theorem tw15062394153928951681:True:=trivial
theorem tw18071590955278976124:True:=trivial
theorem tw8075004120268521031:True:=trivial
theorem tw236608271648718905:True:=trivial
theorem tw241217300364871876:True:=trivial
theorem tw7116733750669273329:True:=trivial
theorem tw10480715186118967325:True:=trivial
theorem tw1308643018420701502:True:=trivial
theorem tw8027368517608993267:True:=trivial
theorem tw14801898077689104126:True:=trivial
theorem tw9793514747310075269:True:=trivial
theorem tw5299915100955264460:True:=trivial
theorem tw6555807896127332381:True:=trivial
theorem tw17218704112573634733:True:=trivial
theorem tw803046139490121470:True:=trivial
theorem tw5367598567638621616:True:=trivial
theorem tw17319694007930896395:True:=trivial
theorem tw17583700147132868122:True:=trivial
theorem tw2207640410084714310:True:=trivial
theorem tw13570166800207400080:True:=trivial
theorem tw15074747265289655509:True:=trivial
theorem tw16693976299695684779:True:=trivial
theorem tw7756649319985468463:True:=trivial
theorem tw17440059711553221271:True:=trivial
theorem tw5751627784966128322:True:=trivial
theorem tw6967648834382266947:True:=trivial
theorem tw15400095192139096306:True:=trivial
theorem tw3523534607053550562:True:=trivial
theorem tw11260863299765548174:True:=trivial
theorem tw7417443953971331587:True:=trivial
theorem tw15340233946803894339:True:=trivial
theorem tw9383244584851120823:True:=trivial
theorem tw2851750874173369317:True:=trivial
theorem tw242085582080117675:True:=trivial
theorem tw15422367421622197588:True:=trivial
theorem tw15283946189318175375:True:=trivial
theorem tw13079526101728969052:True:=trivial
theorem tw12498991109432500089:True:=trivial
theorem tw17838538559545023412:True:=trivial
theorem tw2695911323552900736:True:=trivial
theorem tw11354446527511725421:True:=trivial
theorem tw14601993720244735957:True:=trivial
theorem tw13112475340551305013:True:=trivial
theorem tw17666602300172157692:True:=trivial
theorem tw15780328264403178899:True:=trivial
theorem tw2663908935062703756:True:=trivial
theorem tw14554607024957909566:True:=trivial
theorem tw3638731934696751851:True:=trivial
theorem tw7426544994158224556:True:=trivial
theorem tw18400119437086439487:True:=trivial
theorem tw8163021124996076692:True:=trivial
theorem tw9124423729152874532:True:=trivial
theorem tw9190302147527941233:True:=trivial
theorem tw9090941151753444437:True:=trivial
theorem tw1013982232788656148:True:=trivial
theorem tw8535363393444204821:True:=trivial
theorem tw15829942552999699789:True:=trivial
theorem tw3198836996246816559:True:=trivial
theorem tw1246955613825597418:True:=trivial
theorem tw10705391204067633078:True:=trivial
theorem tw9822170129714954865:True:=trivial
theorem tw5844889800377060374:True:=trivial
theorem tw15062483998358708068:True:=trivial
theorem tw100068913725054341:True:=trivial
theorem tw4314552274849522185:True:=trivial
theorem tw11787558499861833575:True:=trivial
theorem tw11793145167871808898:True:=trivial
theorem tw9876404089045310371:True:=trivial
theorem tw17896432336433665652:True:=trivial
theorem tw810526623971749730:True:=trivial
theorem tw14181856015839809865:True:=trivial
theorem tw16515238628025721600:True:=trivial
theorem tw18165826192452628308:True:=trivial
theorem tw6443840947748468170:True:=trivial
theorem tw17445043610270093761:True:=trivial
theorem tw16661713099691855057:True:=trivial
theorem tw2859576119040804217:True:=trivial
theorem tw9906116162292473466:True:=trivial
theorem tw10585929989601838563:True:=trivial
theorem tw5857959344518548429:True:=trivial
theorem tw44004649560197708:True:=trivial
theorem tw15305749707414850979:True:=trivial
theorem tw2131080510284023312:True:=trivial
theorem tw18136770632430358139:True:=trivial
theorem tw1020655219158437360:True:=trivial
theorem tw12250293785975914567:True:=trivial
theorem tw9915065332067148286:True:=trivial
theorem tw5484672703772834734:True:=trivial
theorem tw2128282281805604730:True:=trivial
theorem tw12303939110060156963:True:=trivial
theorem tw12285697703743285796:True:=trivial
theorem tw8201309406632150146:True:=trivial
theorem tw11530489194033824314:True:=trivial
theorem tw17190387200342993869:True:=trivial
theorem tw11680396539186015413:True:=trivial
theorem tw9074420548917910730:True:=trivial
theorem tw9803667892058238762:True:=trivial
theorem tw15305858095814963833:True:=trivial
theorem tw16848137716433561763:True:=trivial
theorem tw156576520270208541:True:=trivial
theorem tw581590347516867705:True:=trivial
theorem tw8286209865840827153:True:=trivial
theorem tw16158483704036873623:True:=trivial
theorem tw18290991468218696360:True:=trivial
theorem tw17787473940239641980:True:=trivial
theorem tw16984072233011262573:True:=trivial
theorem tw12460428480862335522:True:=trivial
theorem tw15651675836083096940:True:=trivial
theorem tw8992033624098051064:True:=trivial
theorem tw2253475658320992151:True:=trivial
theorem tw10061665523144501078:True:=trivial
theorem tw14065599405660639758:True:=trivial
theorem tw10734017951086840395:True:=trivial
theorem tw16767542804116832078:True:=trivial
theorem tw546111022332784394:True:=trivial
theorem tw1360939622603770860:True:=trivial
theorem tw2287223942717137731:True:=trivial
theorem tw2306661291860808399:True:=trivial
theorem tw8685368135816297111:True:=trivial
theorem tw11578380355194593361:True:=trivial
theorem tw3944110676479064274:True:=trivial
theorem tw14914373457496244865:True:=trivial
theorem tw6421713975049494012:True:=trivial
theorem tw13598059882707605137:True:=trivial
theorem tw15285191771645881351:True:=trivial
theorem tw6167558853009627880:True:=trivial
theorem tw16420376394752312680:True:=trivial
theorem tw173994439974960257:True:=trivial
theorem tw746196512646659444:True:=trivial
theorem tw9575494849881964964:True:=trivial
theorem tw6778931997332437372:True:=trivial
theorem tw14276245433489479071:True:=trivial
theorem tw14474786135498841600:True:=trivial
theorem tw17385503039613654259:True:=trivial
theorem tw16570460439091443521:True:=trivial
theorem tw7443868135984297438:True:=trivial
theorem tw12304294457472364407:True:=trivial
theorem tw12827374113899261789:True:=trivial
theorem tw1399682013934635420:True:=trivial
theorem tw1714737517440423480:True:=trivial
theorem tw10087543701189741057:True:=trivial
theorem tw14436511832164963036:True:=trivial
theorem tw3915123387666621898:True:=trivial
theorem tw9295839273564218782:True:=trivial
theorem tw5996477708018788373:True:=trivial
theorem tw7947694292646751848:True:=trivial
theorem tw8122517732389821435:True:=trivial
theorem tw7288543713841686890:True:=trivial
theorem tw8091444217131372222:True:=trivial
theorem tw17280374899465109221:True:=trivial
theorem tw6130815518678658997:True:=trivial
theorem tw7901731510916259090:True:=trivial
theorem tw1066712998613482599:True:=trivial
theorem tw13400281327734789244:True:=trivial
theorem tw15822222672354072479:True:=trivial
theorem tw12035406997971886143:True:=trivial
theorem tw13156998272339886370:True:=trivial
theorem tw4824915231567362490:True:=trivial
theorem tw7097190540095814566:True:=trivial
theorem tw18255040486476239114:True:=trivial
theorem tw9309825403862235441:True:=trivial
theorem tw5276619284990215971:True:=trivial
theorem tw17498723871876602500:True:=trivial
theorem tw14037632310572522475:True:=trivial
theorem tw9063639717342692626:True:=trivial
theorem tw10065212308479054696:True:=trivial
theorem tw3439100477644528419:True:=trivial
theorem tw8539195712875212653:True:=trivial
theorem tw12482652592013918023:True:=trivial
theorem tw8900812041817753361:True:=trivial
theorem tw6201315769173732032:True:=trivial
theorem tw10465408838533371040:True:=trivial
theorem tw13799440794498571676:True:=trivial
theorem tw12170342471149100337:True:=trivial
theorem tw7259270970705173864:True:=trivial
theorem tw5430574190317627175:True:=trivial
theorem tw2345833115922091183:True:=trivial
theorem tw6843867337536090708:True:=trivial
theorem tw11596134326513139698:True:=trivial
theorem tw10526642044305617629:True:=trivial
theorem tw7971125031656808262:True:=trivial
theorem tw2593029136428879100:True:=trivial
theorem tw12002954971067705514:True:=trivial
theorem tw15420903508793202966:True:=trivial
theorem tw1483997155643473445:True:=trivial
theorem tw2166613388280422694:True:=trivial
theorem tw17190443842821938460:True:=trivial
theorem tw17942557618014402589:True:=trivial
theorem tw13529090687712961966:True:=trivial
theorem tw13240592558705531400:True:=trivial
theorem tw9563823089240123947:True:=trivial
theorem tw17966153494851650825:True:=trivial
theorem tw13810456883452756879:True:=trivial
theorem tw14823420729977515043:True:=trivial
theorem tw7563493634832380954:True:=trivial
theorem tw15857607362725888454:True:=trivial
theorem tw7628727562021139906:True:=trivial
theorem tw7923742994675708755:True:=trivial
theorem tw14818460572012007347:True:=trivial
theorem tw18373030927109857000:True:=trivial
theorem tw17058012566129406682:True:=trivial
theorem tw14624119192139963115:True:=trivial
theorem tw16530450072336050918:True:=trivial
theorem tw17407958994644408144:True:=trivial
theorem tw17778407530492892251:True:=trivial
theorem tw5700926753858122600:True:=trivial
theorem tw8873561697294033690:True:=trivial
theorem tw16641109833191536250:True:=trivial
theorem tw14317893409969127307:True:=trivial
theorem tw16393820870353281293:True:=trivial
theorem tw6407692894004199316:True:=trivial
theorem tw13128861992115217414:True:=trivial
theorem tw2670853370710920828:True:=trivial
theorem tw11732083885893531298:True:=trivial
theorem tw13438062136953134498:True:=trivial
theorem tw367442066562436947:True:=trivial
theorem tw17519440865966583869:True:=trivial
theorem tw10088794222948074194:True:=trivial
theorem tw3750588353212432918:True:=trivial
theorem tw9532044116742218647:True:=trivial
theorem tw16639198597756590322:True:=trivial
theorem tw3777277249019256403:True:=trivial
theorem tw11072406786262799790:True:=trivial
theorem tw17763919741507105371:True:=trivial
theorem tw12050018762418197323:True:=trivial
theorem tw15281044405278460662:True:=trivial
theorem tw5009130980450387601:True:=trivial
theorem tw9288281596880003597:True:=trivial
theorem tw8191549985909162082:True:=trivial
theorem tw609693086852677892:True:=trivial
theorem tw5770549484377057739:True:=trivial
theorem tw8279572393635260704:True:=trivial
theorem tw16692892384985791136:True:=trivial
theorem tw3764501460425674009:True:=trivial
theorem tw16926305820041293321:True:=trivial
theorem tw13667225581162489955:True:=trivial
theorem tw6567297782966658132:True:=trivial
theorem tw2139101410181432990:True:=trivial
theorem tw2796196127005460898:True:=trivial
theorem tw8018657183633486144:True:=trivial
theorem tw6314410054455067088:True:=trivial
theorem tw14792440421427955848:True:=trivial
theorem tw13816898701791570171:True:=trivial
theorem tw3096897465254141893:True:=trivial
theorem tw7474594784767531300:True:=trivial
theorem tw478386187740365732:True:=trivial
theorem tw3327095670215423633:True:=trivial
theorem tw8665388152759045624:True:=trivial
theorem tw13482793779301075519:True:=trivial
theorem tw7917231102627829644:True:=trivial
theorem tw12085584929809707211:True:=trivial
theorem tw7962709617016778485:True:=trivial
theorem tw7204186576224879673:True:=trivial
theorem tw11727829249063462531:True:=trivial
theorem tw16326108442656702723:True:=trivial
theorem tw9757648242941818935:True:=trivial
theorem tw12894941971134536285:True:=trivial
theorem tw8048266299462975475:True:=trivial
theorem tw5368623527944393263:True:=trivial
theorem tw6904635673452600806:True:=trivial
theorem tw8796848704925410621:True:=trivial
theorem tw1145573898030835681:True:=trivial
theorem tw9746077565283192241:True:=trivial
theorem tw4353462911776207961:True:=trivial
theorem tw4189471195002467114:True:=trivial
theorem tw523839556482638821:True:=trivial
theorem tw17737566392584263833:True:=trivial
theorem tw12764880977353486507:True:=trivial
theorem tw412907935107439091:True:=trivial
theorem tw7032372998350225095:True:=trivial
theorem tw9577316671402350014:True:=trivial
theorem tw5385839818831332628:True:=trivial
theorem tw13540558675925022783:True:=trivial
theorem tw8373117713709752715:True:=trivial
theorem tw7383501768020651697:True:=trivial
theorem tw11311687621141817012:True:=trivial
theorem tw6552059750889029462:True:=trivial
theorem tw2154142003697123173:True:=trivial
theorem tw16796126136118558797:True:=trivial
theorem tw15004154689361327152:True:=trivial
theorem tw15853808974569713152:True:=trivial
theorem tw18264938843503447119:True:=trivial
theorem tw8623367722134285027:True:=trivial
theorem tw11276158669235310190:True:=trivial
theorem tw17802899263452990878:True:=trivial
theorem tw15241529018144885328:True:=trivial
theorem tw16874503165533576286:True:=trivial
theorem tw11926622733618469184:True:=trivial
theorem tw263578567763030387:True:=trivial
theorem tw10256639320416357898:True:=trivial
theorem tw16981508261581580802:True:=trivial
theorem tw13074309436949161971:True:=trivial
theorem tw5403977204270075080:True:=trivial
theorem tw11394559062635376802:True:=trivial
theorem tw16252235057434296558:True:=trivial
theorem tw10127146678032648815:True:=trivial
theorem tw8129302992162894727:True:=trivial
theorem tw13085677192361646353:True:=trivial
theorem tw11584256825909924823:True:=trivial
theorem tw14719680523127354334:True:=trivial
theorem tw14898670218276571267:True:=trivial
theorem tw17494571545035543117:True:=trivial
theorem tw1028846609635783036:True:=trivial
theorem tw10161408346581613308:True:=trivial
theorem tw3242958251262940218:True:=trivial
theorem tw17669515362358445360:True:=trivial
theorem tw3301853954488131921:True:=trivial
theorem tw6125925434710322507:True:=trivial
theorem tw11041297312289204081:True:=trivial
theorem tw11211492905343225115:True:=trivial
theorem tw18425224731175313475:True:=trivial
theorem tw1548711411630712213:True:=trivial
theorem tw6537647863808381188:True:=trivial
theorem tw13651269738123751665:True:=trivial
theorem tw16464348874098193825:True:=trivial
theorem tw5499871354579270732:True:=trivial
theorem tw10331069175340524581:True:=trivial
theorem tw2443368763922122636:True:=trivial
theorem tw4676827053270495640:True:=trivial
theorem tw17199690184787844829:True:=trivial
theorem tw2710779789611643760:True:=trivial
end PySem.W.Fast
open PySem PySem.W PyProof.Rows
set_option maxRecDepth 100000 in
set_option maxHeartbeats 0 in
theorem PySem.Challenge.cw_talkhall_k16_whole_rights_holds : PySem.Challenge.rw_talkhall_k16_whole_rights.Holds := by
 w_on;o_law;k_head;(case hw=>w_witness2)
 k_fill
 refine XH.walk (l:=PySem.Challenge.rw_talkhall_k16_whole_rights) rfl rfl (λw h ρ=>PySem.W.kIn_of ρ) ?F
 case F=>
  intro w mg fa h KX G RP
  refine' XH.all_mk KX G RP ?_ ?_ ?_ ?_ ?_ ?_ ?_ ?_ ?_ ?_ ?_
  all_goals first|k_is|kernel_rfl|skip
