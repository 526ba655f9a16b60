import PyProof.Rows.All
import Wide.All
import OpenK.AllK
import Wide.FinOn
import Lean
import PyProof.EqAt
import PyProof.EqKinds
import PyProof.TupleCall
import PyProof.ExcArgsOwn
import PyProof.AttrMissSeq
import KE.KMinKey
import KE.KBoundM
import KE.KSortTup
import KE.KItemsList
import PyProof.ListRange
import PyProof.SeqI3
import PySem.Challenge.RW_talkhall_k20_whole_all_see_alike
set_option Elab.async false
set_option linter.all false
set_option maxRecDepth 100000
set_option bootstrap.genMatcherCode false
set_option genSizeOf false
set_option genInjectivity false
set_option compiler.extract_closed false
noncomputable section
set_option maxHeartbeats 4000000
def aT:=@List.set_cons_succ
def aU:=@List.set_cons_zero
def aP:=@List.length_map
def bG:=@List.mem_cons_of_mem
def aH:=@PySem.wpAny_bind
def cj:=@List.getElem?_eq_getElem
def bY:=@PySem.Heap.get?_push_of_some
def bD:=@beq_self_eq_true
def aZ:=@List.mem_cons
def a_:=@List.map_cons
def aK:=@Nat.le_refl
def av:=@if_pos
def bg:=@Bool.and_eq_true
def bF:=@List.mem_cons_self
def aV:=@Nat.le_trans
def bR:=@Bool.false_eq_true
def bW:=@List.getElem?_map
def bP:=@List.mem_filter
def bT:=@List.lookup_cons
def aR:=@PySem.wpAny_pure
def aA:=@if_neg
def cn:=@List.mem_singleton
def cA:=@PySem.Heap.get?_push_size
def bC:=@PySem.Heap.lt_size
def cX:=@List.mem_append_right
def cx:=@List.size_toArray
def dz:=@List.contains_iff_mem
def bQ:=@List.mem_map
def di:=@List.length_append
def cE:=@List.mem_append
def dA:=@Nat.lt_of_lt_of_le
def cY:=@List.length_cons
def cg:=@List.map_map
def cZ:=@Option.map_some
def eK:=@List.mem_of_getElem?
def gE:=@List.getElem?_eq_some_iff
def dF:=@List.not_mem_nil
def bo:=@if_true
def bO:=@if_false
def fE:=@List.mem_map_of_mem
def cP:=@Nat.le_of_lt
def c_:=@Nat.ne_of_lt
def fg:=@of_decide_eq_true
def gF:=@List.length_filter_le
def dG:=@Bool.not_true
def fh:=@List.all_eq_true
def i_:=@List.filter_cons_of_neg
def gG:=@beq_eq_false_iff_ne
def eM:=@PySem.W.kia_one
def fi:=@Bool.not_false
def jW:=@List.filter_cons_of_pos
def eN:=@Nat.lt_irrefl
def hX:=@Bool.false_ne_true
def fV:=@decide_eq_false
def fY:=@List.foldl_cons
def lu:=@Option.isSome_iff_exists
def hZ:=@decide_eq_true_eq
def lx:=@PySem.F.slot_list_append
def ly:=@decide_eq_false_iff_not
def jX:=@List.mem_append_left
def cF:=@congrArg
def ja:=@Option.isSome_some
def jY:=@Bool.or_eq_false_iff
def jZ:=@PySem.mem_of_lookup
def nB:=@PySem.F.type_list_append
def dX:=@PySem.wpAny_mono
def eO:=@PySem.sizeLine_eq
def lA:=@PySem.W.hideAll_none
def lC:=@List.mem_iff_getElem
def nC:=@List.getElem?_set_self
def qA:=@List.getD_eq_getElem?_getD
def nD:=@PySem.F.plain_min_loop
def lD:=@List.map_congr_left
def lE:=@List.filter_eq_self
def qB:=@List.drop_eq_getElem_cons
def lF:=@Nat.lt_of_le_of_lt
def jb:=@decide_eq_true
def dH:=@or_false
def fF:=@beq_iff_eq
def j6:=@List.append_nil
def j7:=@List.find?_cons
def j8:=@beq_false_of_ne
def h8:=@PySem.wpAny_holding
def j9:=@List.map_append
def nE:=@List.replicate_succ
def nF:=@PySem.Around.under_plainId
def gH:=@Nat.zero_le
def jc:=@List.any_cons
def jd:=@List.all_cons
def nG:=@List.mem_filterMap
def sG:=@List.getElem?_append_left
def lG:=@List.nodup_cons
def qC:=@List.getElem?_set_ne
def nH:=@Option.isSome_map
def nJ:=@List.filter_congr
def j_:=@Bool.false_or
def kc:=@Bool.true_and
def qD:=@PySem.W.hideAll_get
def qE:=@Array.length_toList
def lH:=@PySem.codeAny_builtin
def mI:=@Int.toNat_of_nonneg
def kz:=@PySem.wpAny_truthy_bool
def mJ:=@PySem.Calls.evalArgs_plain
def o9:=@PySem.Str.length_append
def kA:=@List.getElem_mem
def mK:=@PySem.W.of_hideAll
def h_:=@Nat.ne_of_gt
def o_:=@PySem.W.funFrames_hide
def jr:=@PySem.Heap.size_push
def kB:=@List.length_set
def kC:=@Bool.eq_iff_iff
def mL:=@List.flatten_cons
def mM:=@List.getElem?_set
def mO:=@PySem.Calls.spliced_cons
def mP:=@PySem.wpAny_Call_Name_kw
def pb:=@PySem.Calls.callWith_builtin
def mQ:=@PySem.wpAny_pyIter_list
def pd:=@List.filterMap_cons
def pf:=@PySem.W.plainGet_of
def kD:=@PySem.wpAny_tryCatch
def ph:=@List.filter_filter
def sH:=@List.getElem?_replicate
def sI:=@PySem.F.plainAttrs_dict
def mT:=@List.mem_range
def mU:=@Bool.false_and
def pj:=@Bool.not_eq_true'
def kE:=@PySem.plainId_quiet
def pq:=@List.length_range
noncomputable def pv:=@PySem.tupleKind_room_in1
def sJ:=@PySem.F.slot_dict_pop
def sL:=@Array.getElem?_toList
def sM:=@Bool.and_eq_false_iff
def pw:=@List.drop_length
def pA:=@List.any_eq_true
def pB:=@Nat.succ_ne_self
def mV:=@Bool.beq_comm
def sN:=@Array.toArray_toList
def pC:=@List.filter_map
def sO:=@List.length_pos_iff
def wB:=@List.getElem?_append_right
def sP:=@List.lookup_append
def sQ:=@Option.isSome_none
def pD:=@PySem.wpAny_passesOwn
def sR:=@PySem.W.kitx_dict
def wC:=@PyProof.Rows.slot_tuple_getitem
def pE:=@Bool.or_false
def pF:=@Bool.and_true
def wD:=@PySem.F.slot_tuple_index
def wF:=@PySem.Calls.Name_function_global
def sS:=@Nat.lt_succ_self
def kF:=@PySem.call_meets
def pG:=@Nat.lt_trans
def wG:=@PySem.F.entry_min_loop
def sT:=@PySem.Calls.spliced_nil
def sU:=@Option.map_none
def wH:=@List.length_replicate
def wI:=@PySem.F.slot_dict_get
def wJ:=@PySem.F.slot_list_getattribute
def sV:=@Bool.and_false
def pH:=@List.map_id
def pI:=@PySem.codeAny_mono
def wK:=@PySem.Heap.get?_update_other
def pJ:=@PySem.call_meetsIn
def wL:=@List.getElem_of_mem
def wM:=@List.filter_sublist
def sW:=@PySem.wpAny_execs_nil
def wN:=@PySem.W.callWith_K
def wO:=@PySem.F.typeOf_object_class
def wQ:=@List.find?_eq_none
def wR:=@List.contains_cons
def wU:=@Option.isNone_some
def wV:=@List.any_eq_false
def sX:=@PySem.W.looks_findIn
def wW:=@PySem.W.kitx_list
def wX:=@List.append_assoc
def sY:=@Bool.true_or
def sZ:=@List.map_nil
def wY:=@bne_self_eq_false
def wZ:=@Nat.lt_succ_of_lt
def mW:=@PySem.W.Looks.ld
def s_:=@PySem.wpAny_seqItems
def w4:=@Nat.le_of_lt_succ
def w6:=@List.foldl_append
def w_:=@List.length_take
def xa:=@Option.getD_some
def xf:=@decide_eq_decide
def xg:=@List.of_mem_zip
def xh:=@List.length_nil
def xi:=@List.forIn_cons
def xj:=@PySem.slot_dict_contains
def xk:=@Int.emod_nonneg
def Bu:=@PyProof.Rows.callWith_type1
def xl:=@PySem.wpAny_Call_method
def xm:=@List.forIn_nil
def Bv:=@PySem.F.excBase_ValueError
set_option compiler.extract_closed false
local macro_rules|`(tactic|decide)=>`(tactic|decide+kernel)
local macro_rules|`(tactic|omega)=>`(tactic|lia)
set_option hygiene false
local macro_rules|`(∅)=>`(by decide)
local macro_rules|`(∎)=>`(by omega)
local macro_rules|`(⋯)=>`(by lk)
local macro_rules|`(*...*)=>`(by simp)
local macro_rules|`(tactic|simp![$x,*])=>`(tactic|simp only[ev,bw,cI,cO,$x,*])
local macro_rules|`(command|#print $s:str)=>do
 let l:=s.getString.splitOn
 return Lean.mkNullNode ((<-((l.filter (·.contains '_')).toArray++((Array.range 1301).filter λi=>!l.contains s!"{i}").map (s!"o_{·}")).mapM λn=>`(theorem $(Lean.mkIdent (.str `PySem.W.Fast s!"tw{(Lean.Name.str `PySem.Challenge.cw_talkhall_k20_whole_all_see_alike_holds n).hash}")):ident :True:=trivial)).map (·.raw))
#print "env_41 heap_1301 heap_39 heap_46 sts_101 sts_116 sts_1168 sts_1253 sts_131 sts_146 sts_161 sts_176 sts_191 sts_206 sts_221 sts_270 sts_319 sts_49 sts_71 sts_733 sts_735 sts_86 tree_100 tree_1078 tree_115 tree_1164 tree_1252 tree_130 tree_1300 tree_145 tree_160 tree_175 tree_190 tree_205 tree_220 tree_267 tree_318 tree_47 tree_559 tree_640 tree_70 tree_729 tree_733 tree_85 tree_993 view_39 0 1 2 3 4 5 6 7 8 9 10 11 12 13 14 15 16 17 18 19 20 21 22 23 24 25 26 27 28 29 30 31 32 33 34 35 36 37 38 39 40 41 42 44 47 48 50 52 62 72 78 87 93 102 108 117 123 132 138 147 153 162 168 177 183 192 198 207 213 222 227 231 238 245 250 268 269 271 273 280 287 294 301 308 313 320 325 329 334 341 348 355 362 367 374 381 388 395 402 407 414 421 428 435 442 449 456 463 470 477 484 491 498 505 512 519 526 533 540 547 560 565 569 574 581 588 595 602 607 614 621 628 635 642 644 649 656 663 670 677 684 691 698 705 712 719 726 730 731 732 734 736 741 745 752 759 766 773 780 787 794 801 808 815 822 829 836 843 850 857 864 871 878 885 892 899 906 913 920 927 934 941 948 955 962 969 974 981 994 999 1003 1010 1017 1024 1031 1038 1045 1052 1059 1066 1073 1080 1082 1089 1096 1103 1110 1117 1124 1131 1138 1145 1152 1159 1165 1166 1167 1169 1171 1178 1185 1190 1195 1202 1209 1216 1223 1230 1237 1244 1249 1254 1256 1261 1268 1273 1278 1285 1290 1297"
theorem PySem.W.Fast.tw17428231921416403080:True:=trivial
theorem PySem.W.Fast.tw1281566791846401910:True:=trivial
section
local macro_rules
|`(`a)=>`(s.heap.objs.size)
|`(`b)=>`(fy.of (N:=["_law_hall_here","_law_room","_law_one","_law_other","_law_rows","_law_mine","_law_yours","_law_seen_here","_law_there","_law_both","_law_entry","_law_late","_law_knows","_law_words_here"]) (sc:=aL cu.st) rfl rfl ∅)
|`(`c)=>`(model X.prog X.w)
|`(`d)=>`(rows.length)
|`(`e)=>`(dC (au (aj 0)))
|`(`f)=>`(az (aQ (ay L) (aj 1) aD))
theorem Rfz0(a:True:=by rfl):True:=trivial
def Rfz:=Rfz0._auto_1
theorem Dcz0(a:True:=by decide):True:=trivial
def Dcz:=Dcz0._auto_1
theorem Ilz0(a:True:=by first|exact .inl rfl|exact .inr rfl|assumption):True:=trivial
def Ilz:=Ilz0._auto_1
theorem Do0(a:True:=by first|decide|omega):True:=trivial
def Do:=Do0._auto_1
theorem Olz0(a:True:=by first|exact Or.inl rfl|exact Or.inr rfl):True:=trivial
def Olz:=Olz0._auto_1
theorem Asz0(a:True:=by assumption):True:=trivial
def Asz:=Asz0._auto_1
namespace HT
open PySem PyProof.Rows
section
open PySem.SeqAt
open PySem.AutoSeq1 (wpAny_loadPart')
open PySem.MeetsSeq PySem.MeetsSeq2 PySem.MeetsSeq3
end
def Ld{s:Shared}{vs ws:List Value}{Q:Value->Shared->Prop}(ht:IsTup s.heap t vs.toArray)(hb:IsTup s.heap b ws.toArray)(r:vs≠[])
  (h1:ws=[]->Q (.ref t) s) (h2:ws≠[]->Q (.ref `a) {s with heap:=s.heap.push {cls:=.type "tuple",data:=.seq (vs++ws).toArray}})
  (hsz:vs.length+ws.length<=sizeLine):wpAny (model prog w) A (binaryOp .Add (.ref t) (.ref b)) Q E s:=by
 obtain⟨⟨cls,dd,data,sl⟩,L,I,n,hd⟩:=id ht;obtain⟨⟨aad,M,data2,S⟩,q,Y0,n2,hd2⟩:=id hb;simp only at I hd Y0 hd2;subst I hd Y0 hd2;have e:vs.toArray++ws.toArray=(vs++ws).toArray:=by simp
 by_cases hw:ws=[]
 .exact concat_meets ⟨_,L,rfl⟩ ⟨_,q,rfl⟩ noFill_tuple_add seq_tuple_add PySem.F.slot_tuple_add PySem.F.entry_tuple_add (PySem.F.args_tuple_add_2 _ _)
   (tuple_addW1 t b vs.toArray ws.toArray n n2 dd M sl S (by simpa using r) (by simp[hw])) ⟨L,q,h1 hw⟩
 .refine concat_meets ⟨_,L,rfl⟩ ⟨_,q,rfl⟩ noFill_tuple_add seq_tuple_add PySem.F.slot_tuple_add PySem.F.entry_tuple_add (PySem.F.args_tuple_add_2 _ _)
   (tuple_addW2 t b vs.toArray ws.toArray n n2 dd M sl S (by simpa using r) (by simpa using hw) (by rwa[List.size_toArray,List.size_toArray])) ⟨L,q,?_⟩
  rw[e];exact h2 hw
noncomputable def hJ(n d:Nat):Option Int->Nat
 |none=>d
 |some v=>if v<0 then(v+(n:Int)).toNat else min v.toNat n
def ON(n d:Nat)(hd:d<=n)(o:Option Int):hJ n d o<=n:=by
 cases o with
 |none=>exact hd
 |some v=>
  show(if v<0 then(v+(n:Int)).toNat else min v.toNat n)<=n;by_cases L:v<0
  .rw[if_pos L];omega
  .rw[if_neg L];exact Nat.min_le_right _ _
def z4(v:Int)(n d:Nat):(if v<0 then max (v+(n:Int)) 0 else min v (n:Int))=((hJ n d (some v):Nat):Int):=by
 show(if v<0 then max (v+(n:Int)) 0 else min v (n:Int))=(((if v<0 then(v+(n:Int)).toNat else min v.toNat n):Nat):Int);by_cases L:v<0
 .simp only[if_pos L];omega
 .simp only[if_neg L];omega
def DN(lo hi:Option Int)(n:Nat):Builtin.Slice.sliceAdjust lo hi 1 (n:Int)=(((hJ n 0 lo:Nat):Int),((hJ n n hi:Nat):Int)):=by
 have h1:¬((1:Int)<0):=∎
 unfold Builtin.Slice.sliceAdjust;simp only[h1,if_false];refine Prod.ext ?_ ?_
 .cases lo with
  |none=>rfl
  |some v=>exact z4 v n 0
 .cases hi with
  |none=>rfl
  |some v=>exact z4 v n n
def DO(i j:Nat):Builtin.Slice.slicePlaces (i:Int) (j:Int) 1=j - i:=by
 unfold Builtin.Slice.slicePlaces;have h1:(1:Int)>0:=∎
 simp only[h1,if_true,Int.ediv_one];split<;>omega
def xn{Q:Option Int->Shared->Prop}(p:IsPart v o)(h:Q o s):wpAny (model prog w) A (Builtin.Slice.slicePartIndex v) Q E s:=by
 cases p with
 |none=>exact slicePart_none h
 |int i t=>exact slicePart_int h
def mX{s:Shared}{lo:Option Int}{n:Nat}{Q:Int×Int×Nat->Shared->Prop}(hs:s.heap.IsSliceOf I q r .none)(pl:IsPart q lo)(pu:IsPart r hi)
  (h:Q (((hJ n 0 lo:Nat):Int),1,hJ n n hi - hJ n 0 lo) s):wpAny (model prog w) A (Builtin.Slice.sliceApplied (.ref I) (pure (n:Int))) Q E s:=by
 obtain⟨os,L,M,b⟩:=id hs;unfold Builtin.Slice.sliceApplied Builtin.Slice.sliceFields;refine wpAny_bind (wpAny_bind (wpAny_field L b (x:=q) rfl (wpAny_bind (wpAny_field L b (x:=r) rfl (wpAny_bind (wpAny_field L b (x:=.none) rfl (wpAny_pure ?_)))))));refine wpAny_bind (slicePart_none ?_);show wpAny _ _ (if((1:Int)==0)=true then _ else _) _ _ s;rw[if_neg ∅];refine wpAny_bind (xn pl (wpAny_bind (xn pu (wpAny_bind (wpAny_pure ?_)))));show wpAny _ _ (match Builtin.Slice.sliceAdjust lo hi 1 (n:Int)with|(lo,hi)=>pure (lo,(1:Int),Builtin.Slice.slicePlaces lo hi 1)) _ _ s;rw[DN lo hi n];show wpAny _ _ (pure (((hJ n 0 lo:Nat):Int),(1:Int),Builtin.Slice.slicePlaces ((hJ n 0 lo:Nat):Int) ((hJ n n hi:Nat):Int) 1)) _ _ s;rw[DO];exact wpAny_pure h
def HW(xs:Array Value)(i k:Nat):((List.range k).filterMap λ(m:Nat)=>xs[((i:Int)+(m:Int)*1).toNat]?).toArray=((xs.toList.drop i).take k).toArray:=by
 have e:(λ(m:Nat)=>xs[((i:Int)+(m:Int)*1).toNat]?)=λm=>xs[i+m]? :=by
  funext m;have:((i:Int)+(m:Int)*1).toNat=i+m:=∎
  rw[this]
 rw[e];have:=pick_run xs i k;rw[List.filterMap_map]at this;have L:((λx=>xs[x]?)∘λx=>i+x)=λm=>xs[i+m]? :=rfl
 rw[L]at this;rw[this]
theorem tm{s:Shared}{lo:Option Int}{Q:Value->Shared->Prop}(r:IsTup s.heap t b)(hs:s.heap.IsSliceOf I M S .none)(pl:IsPart M lo)(pu:IsPart S hi)
  (hw:¬(hJ b.size 0 lo=0/\hJ b.size b.size hi=b.size))
  (h:Q (.ref `a) {s with heap:=s.heap.push {cls:=.type "tuple",data:=.seq ((b.toList.drop (hJ b.size 0 lo)).take (hJ b.size b.size hi - hJ b.size 0 lo)).toArray}})
  (hsz:b.size<=sizeLine):wpAny (model prog w) A (getItem (.ref t) (.ref I)) Q E s:=by
 have L:sizeOk (.seq ((b.toList.drop (hJ b.size 0 lo)).take (hJ b.size b.size hi - hJ b.size 0 lo)).toArray):=by
  show((b.toList.drop (hJ b.size 0 lo)).take (hJ b.size b.size hi - hJ b.size 0 lo)).toArray.size<=sizeLine;rw[List.size_toArray,List.length_take,List.length_drop,Array.length_toList];omega
 have hj:hJ b.size b.size hi<=b.size:=ON _ _ (Nat.le_refl _) hi;obtain⟨os,OO,VS,SS⟩:=id hs;have Ws:s.TypeIs (.ref I) "slice":=⟨os,OO,VS⟩;unfold getItem
 try with_reducible refine wpAny_holding ?_
 first|refine wpAny_bind (wpAny_pure ?_)|skip
 refine wpAny_bind (wpAny_sequenceKey r.typeIs ∅ ?_);refine wpAny_bind (wpAny_callSpecial?_slot (name:=Str.ofString "__getitem__") r.typeIs PyProof.Rows.slot_tuple_getitem
  (wpAny_call_entry PyProof.Rows.slot_tuple_getitem r.typeIs entry_tuple_getitem ?_ (args_tuple_getitem _ _)))
 show wpAny _ _ (Builtin.Tuple.tupleItemsOf (.ref t)>>=_) _ _ s;refine wpAny_bind (tupleItemsOf_ r ?_);refine wpAny_bind (wpAny_typeOf Ws ?_);rw[if_pos ∅];refine wpAny_bind (mX hs pl pu ?_);have HX:¬((((hJ b.size 0 lo:Nat):Int)==0&&(1:Int)==1&&(hJ b.size b.size hi - hJ b.size 0 lo)==b.size)=true):=by
  intro q;rw[Bool.and_eq_true,Bool.and_eq_true]at q;have q1:((hJ b.size 0 lo:Nat):Int)=0:=eq_of_beq q.1.1;have q2:hJ b.size b.size hi - hJ b.size 0 lo=b.size:=eq_of_beq q.2;exact hw ⟨∎,∎⟩
 show wpAny _ _ (if(((hJ b.size 0 lo:Nat):Int)==0&&(1:Int)==1&&(hJ b.size b.size hi - hJ b.size 0 lo)==b.size)=true then _ else _) _ _ s;rw[if_neg HX,HW]
 first
  |exact wpAny_bind (m:=Builtin.Tuple.tupleExact _) (wpAny_newObj_type (wpAny_pure ⟨_,rfl,wpAny_pure h⟩) L)
  |exact wpAny_bind (m:=Builtin.Tuple.tupleExact _) (wpAny_newObj_type (wpAny_bind (wpAny_pure (wpAny_pure ⟨_,rfl,wpAny_pure h⟩))) L)
  |exact wpAny_bind (wpAny_bind (m:=Builtin.Tuple.tupleExact _) (wpAny_newObj_type (wpAny_pure (wpAny_pure ⟨_,rfl,wpAny_pure h⟩)) L))
  |exact wpAny_bind (wpAny_bind (m:=Builtin.Tuple.tupleExact _) (wpAny_newObj_type (wpAny_pure ⟨_,rfl,wpAny_pure h⟩) L))
end HT
namespace Y1
open PySem PySem.W PySem.Calls PyProof.Rows
def vL:∀(ns:List Int) (vs:List Value),WellAll P h vs (ns.map WData.int)->IntsAre vs ns:=by
 intro ns
 induction ns with
 |nil=>
  intro vs w;rw[List.map_nil]at w;cases w;exact .nil
 |cons n ns L=>
  intro vs w;rw[List.map_cons]at w;cases w with
  |cons a b=>
   cases a;exact .cons _ _ (L _ b)
theorem GF{l:OpenLaw}(S:l.most=some n)
  (I:l.row.toRowW.claim.pre args=true) (Wt:WellAll P h vals args):
  ∃a vs ns,vals=[Value.ref a]/\args=[WData.list (ns.map WData.int)]/\h.get? a=some {cls:=.type "list",data:=.seq vs.toArray}/\IntsAre vs ns/\ns.length<=n:=by
 have b:WShape.hasAll [] args [.list .int]=true:=(pre_splitW I).1;have M:l.pre.holds [] {args:=args}=true:=(pre_splitW I).2;obtain⟨d,r,rfl,h1,h2⟩:=hasAllW_cons b;obtain rfl:=hasAllW_nil h2;obtain⟨xs,rfl,h3⟩:=hasW_list h1;obtain⟨ns,rfl⟩:=items_int h3;have c4:ns.length<=n:=by
  unfold OpenLaw.pre at M;have h4:(WTm.not (.lt (.lit (.int (n:Int))) (.len (.arg 0)))).holds [] {args:=[.list (ns.map .int)]}=true:=by
   have h4:=(holds_andW M).1;rw[S]at h4;exact h4
  have L:=condW_of h4 (w_not (w_lt w_lit (w_len_list (w_arg rfl))));rw[List.length_map]at L;refine Nat.le_of_not_lt λq=>?_
  have q':(n:Int)<((ns.length:Nat):Int):=∎
  first
   |(rw[decide_eq_true q']at L;exact absurd L ∅)
   |(simp at L;omega)
 cases Wt with
 |cons w1 w2=>
  cases w2;cases w1 with
  |list ho z5=>exact⟨_,_,ns,rfl,rfl,ho,vL ns _ z5,c4⟩
theorem GG(l:OpenLaw)(args:List WData):l.row.toRowW.claim.post args (.bool true) args=true:=
 postW_of (r:=l.row.toRowW) (X:=(true==true))
  (show WShape.has [] (.bool true) .bool=true by first|rfl|decide|simp[WShape.has,WShape.arms,WShape.armsAll])
  (show(WTm.eq .res (.lit (.bool true))).value [] {args:=args,res:=some (.bool true),after:=args}=some (.bool (true==true))from w_eq_bool (w_res rfl) w_lit) rfl
def Bw{l:OpenLaw}{YP:World->Heap->Prop}{d:DefRec}
  (hn:l.most=some n) (SU:d.params.defaults=[])
  (call:∀(w:World) (M b:Shared) (mg S:Str->Option Value) (fa:Addr) (o:Obj) (pm cd doc:Value) (a:Addr) (vs:List Value) (ns:List Int),
   Ground q loose [] XP w M mg S b.heap->YP w b.heap->
   b.heap.get? fa=some o->o.data=.func (docDef d.name d.params d.body d.scope pm cd doc)->b.heap.CodeRec cd d.name->mg d.name=some (.ref fa)->
   b.heap.get? a=some {cls:=.type "list",data:=.seq vs.toArray}->IntsAre vs ns->ns.length<=n->b.gens=#[]->
   codeAny (model l.prog w) callerA (.call (.ref fa) ⟨[.ref a],[]⟩) (λr I=>r=.ok (.ret (.bool true))/\OldK b.heap I.heap/\I.os=b.os/\AllBare I.gens) b):
  WalkO q loose XP YP l.row.toRowW d [] (λf vs=>PySem.call f vs):=by
 intro w M b mg S G ρ fa o pm cd doc dV kV ho hd GH L SV hg args vals as Le aae hrd Wt hlo;obtain rfl:dV=.none:=Dflts.none L SU;obtain rfl:kV=.none:=Dflts.noKw L;obtain⟨a,vs,ns,rfl,rfl,OP,hints,c4⟩:=GF hn Le Wt;refine enter_call (codeAny_mono (call w M b mg S fa o pm cd doc a vs ns G ρ ho (fd_plain hd) GH SV OP hints c4 hg) λr I hq=>?_);obtain⟨rfl,h2,h3,h4⟩:=hq;exact⟨.inl ⟨.bool true,.bool true,[],rfl,λ_=>rfl,.bool true,GG l _,λ_=>⟨List.Pairwise.nil,λ_ hm=>(nomatch hm)⟩⟩,h2,h3,h4⟩
end Y1
namespace PySem.SeqAt
open PySem PySem.Spec PySem.Calls PyProof.Rows PySem.MeetsSeq
def GI{s:Shared}{β:Type}(f:Nat->β->Sem (ForInStep β))(I:List Nat->β->Shared->Prop)(Q:β->Shared->Prop)
  (turn:∀x S b s,I (x::S) b s->wpAny M A (f x b) (λr s'=>match r with|.yield q=>I S q s'|.done q=>Q q s') E s)
  (fin:∀b s,I [] b s->Q b s) (n:Nat) (b:β) (h:I (List.range' 0 n) b s):wpAny M A (forIn [:n] b f) Q E s:=by
 rw[Std.Legacy.Range.forIn_eq_forIn_range'];simp only[Std.Legacy.Range.size,Nat.sub_zero,Nat.add_sub_cancel,Nat.div_one];exact wpAny_forIn_list f I Q turn fin _ b h
theorem yJ(l:Addr)(q:Array Value)(n:Nat)(dd:Option Addr)(S:Array (Option Value))(x:Value)(e:Value->Bool)(j:Nat)(hj:j<q.size)(hit:e q[j]=true)(HX:∀m (hm:m<q.size),m<j->e q[m]=false):
  Meets (Builtin.«tuple.index» ⟨[.ref l,x],[]⟩)
   (λA R s=>s.heap.get? l=some {cls:=.type "tuple",dict:=dd,data:=.seq q n,slots:=S}/\(∀y,y∈q->EqAt A.in1 s y x (e y))/\R (.ok (.ret (.int j s.toks))) {s with toks:=s.toks+1}):=
 .of_wp λprog w A R s h=>by
  obtain⟨hp,g,d,tk,os⟩:=s;obtain⟨hl,he,h⟩:=h
  wp_walk using wpAny_loadPart' hl,GI _ (λr (b:Option _×Unit) I=>b.1=none/\I=⟨hp,g,d,tk,os⟩/\∃i,r=List.range' i (q.size - i)/\i<=j) _
  case turn=>
   rintro y r b I ⟨hb,rfl,i,L,hi⟩
   have M:i<q.size:=Nat.lt_of_le_of_lt hi hj;obtain⟨rfl,SW⟩:y=i/\r=List.range' (i+1) (q.size - (i+1)):=by
    have e:q.size - i=(q.size - (i+1))+1:=∎
    rw[e,List.range'_succ]at L;injection L with h1 h2
    exact⟨h1,h2⟩
   rw[Array.getElem?_eq_getElem M];refine wpAny_bind (he _ (Array.getElem_mem M) prog w _ _ ?_);by_cases z:y=j
   .subst z;rw[hit]
    wp_walk
    exact⟨_,rfl,h⟩
   .rw[HX y M ∎]
    wp_walk
    exact⟨rfl,rfl,y+1,SW,∎⟩
  case fin=>
   rintro b I ⟨hb,rfl,i,L,hi⟩
   have e:q.size - i=(q.size - (i+1))+1:=∎
   rw[e,List.range'_succ]at L;exact nomatch L
  case h=>exact⟨rfl,rfl,0,by rw[Nat.min_self,Nat.sub_zero],Nat.zero_le _⟩
end PySem.SeqAt
namespace HT
open PySem PyProof.Rows
theorem qX{s:Shared}{lo:Option Int}{Q:Value->Shared->Prop}(q:IsTup s.heap t b)(hs:s.heap.IsSliceOf r I M .none)(pl:IsPart I lo)(pu:IsPart M hi)
  (hw:hJ b.size 0 lo=0/\hJ b.size b.size hi=b.size) (h:Q (.ref t) s):wpAny (model prog w) A (getItem (.ref t) (.ref r)) Q E s:=by
 obtain⟨os,L,S,SS⟩:=id hs;have Ws:s.TypeIs (.ref r) "slice":=⟨os,L,S⟩;unfold getItem
 try with_reducible refine wpAny_holding ?_
 first|refine wpAny_bind (wpAny_pure ?_)|skip
 refine wpAny_bind (wpAny_sequenceKey q.typeIs ∅ ?_);refine wpAny_bind (wpAny_callSpecial?_slot (name:=Str.ofString "__getitem__") q.typeIs PyProof.Rows.slot_tuple_getitem
  (wpAny_call_entry PyProof.Rows.slot_tuple_getitem q.typeIs entry_tuple_getitem ?_ (args_tuple_getitem _ _)))
 show wpAny _ _ (Builtin.Tuple.tupleItemsOf (.ref t)>>=_) _ _ s;refine wpAny_bind (tupleItemsOf_ q ?_);refine wpAny_bind (wpAny_typeOf Ws ?_);rw[if_pos ∅];refine wpAny_bind (mX hs pl pu ?_);have Wu:((((hJ b.size 0 lo:Nat):Int)==0&&(1:Int)==1&&(hJ b.size b.size hi - hJ b.size 0 lo)==b.size)=true):=by
  rw[hw.1,hw.2];simp
 show wpAny _ _ (if(((hJ b.size 0 lo:Nat):Int)==0&&(1:Int)==1&&(hJ b.size b.size hi - hJ b.size 0 lo)==b.size)=true then _ else _) _ _ s;rw[if_pos Wu];refine wpAny_bind (m:=Builtin.Tuple.tupleIsExact (.ref t)) ?_
 show wpAny _ _ (typeOf (.ref t)>>=_) _ _ s;refine wpAny_bind (wpAny_typeOf q.typeIs (wpAny_pure ?_));rw[if_pos ∅];exact wpAny_bind (wpAny_rule (wpAny_pure ⟨_,rfl,wpAny_pure h⟩))
end HT
namespace L2
open PySem.W (Frag)
open PySem PySem.Spec PyProof.Rows
variable {aa:Nat}{ac:Unit->Shared->Prop}{ae:Value->Shared->Prop}{af:List Expr}{ag:Expr}{ah:List Value}{ai:FuncData}
variable {K:Frag}{α:Type}{U:List (Addr×Obj)}{st:Stmt}{tq:Addr->Option Nat}{c5:Expr}{base h':Heap}{b9:Pos}
def fe{p:Prop}(h:False):p:=h.elim
abbrev Db(x:Str):Prop:=(x==("__debug__":Str))=false
abbrev yK(pos b9:Pos)(o:Expr)(m:Str)(es:List Expr)(env:Env)(pl:Sem Bool):Sem Value:=do
 let ov<-eval o env
 standAt b9.atName
 let(f,first)<-holding [ov] (getMethod ov m pl)
 callWith pos f first (backTo pos (starEach es env)) (backToKw pos (keywordEach [] env))
abbrev Key:=Sum Int Str
noncomputable def mY:Key->Value->Bool
 |.inl k,v=>Value.isInt k v
 |.inr x,v=>Value.isStrOf x v
def Wv(w:World):Key->Int
 |.inl k=>hashInt k
 |.inr x=>hashStr w x
theorem dt:∀{k:Key} {v:Value},mY k v=true->(∃i t,k=Sum.inl i/\v=Value.int i t)\/(∃x t,k=Sum.inr x/\v=Value.str x t)
 |.inl i,v,h=>by
  obtain⟨t,e⟩:=Value.isInt_shape (k:=i) (v:=v) h;exact .inl ⟨i,t,rfl,e⟩
 |.inr x,v,h=>by
  obtain⟨t,e⟩:=Value.isStrOf_shape (x:=x) (v:=v) h;exact .inr ⟨x,t,rfl,e⟩
theorem GJ(i:Int)(t:Tok):mY (.inl i) (.int i t)=true:=by simp[mY,Value.isInt]
theorem GK(x:Str)(t:Tok):mY (.inr x) (.str x t)=true:=by simp[mY,Value.isStrOf]
def OQ(a b:Int):decide ((Sum.inl a:Key)=Sum.inl b)=(a==b):=by
 by_cases e:a=b
 .subst e;simp
 .have h:¬(Sum.inl a:Key)=Sum.inl b:=λq=>e (Sum.inl.inj q);rw[fV h];exact(gG.mpr e).symm
def OR(a b:Str):decide ((Sum.inr a:Key)=Sum.inr b)=decide (a=b):=by
 by_cases e:a=b
 .subst e;simp
 .have h:¬(Sum.inr a:Key)=Sum.inr b:=λq=>e (Sum.inr.inj q);rw[fV h,fV e]
def OS(a:Int)(b:Str):decide ((Sum.inl a:Key)=Sum.inr b)=false:=fV (λq=>nomatch q)
def OT(a:Str)(b:Int):decide ((Sum.inr a:Key)=Sum.inl b)=false:=fV (λq=>nomatch q)
def bI(prog:Program)(w:World):PySem.KeyKind prog w Key where
 is:=mY
 hash:=Wv w
 inj:=λv a b r hb=>by
  rcases dt r with⟨i,t,rfl,rfl⟩|⟨x,t,rfl,rfl⟩
  .rcases dt hb with⟨j,u,rfl,e⟩|⟨y,u,rfl,e⟩
   .injection e with L _;rw[L]
   .exact nomatch e
  .rcases dt hb with⟨j,u,rfl,e⟩|⟨y,u,rfl,e⟩
   .exact nomatch e
   .injection e with L _;rw[L]
 byValue:=λk v h=>by
  rcases dt h with⟨i,t,rfl,rfl⟩|⟨x,t,rfl,rfl⟩<;>rfl
 pyHash:=λq h=>by
  rcases dt q with⟨i,t,rfl,rfl⟩|⟨x,t,rfl,rfl⟩
  .exact wpAny_pyHash_int h
  .exact wpAny_pyHash_str h
 eqBool:=λI q h=>by
  rcases dt I with⟨i,t,rfl,rfl⟩|⟨x,t,rfl,rfl⟩
  .rcases dt q with⟨j,u,rfl,rfl⟩|⟨y,u,rfl,rfl⟩
   .rw[OQ]at h;exact wpAny_eqBool_int h
   .rw[OS]at h;exact SeqAt.EqAt.int_str i t y u _ _ _ _ h
  .rcases dt q with⟨j,u,rfl,rfl⟩|⟨y,u,rfl,rfl⟩
   .rw[OT]at h;exact SeqAt.EqAt.str_int x t j u _ _ _ _ h
   .rw[OR]at h;exact wpAny_eqBool_str h
 «strs»:=λk x t v h=>by
  rcases dt h with⟨i,u,rfl,e⟩|⟨y,u,rfl,e⟩
  .exact nomatch e
  .injection e with L _
   subst L;cases v<;>rfl
def Bx(prog:Program)(w:World)(i:Int)(t:Tok):(bI prog w).is (.inl i) (.int i t)=true:=GJ i t
def By(prog:Program)(w:World)(x:Str)(t:Tok):(bI prog w).is (.inr x) (.str x t)=true:=GK x t
set_option genInjectivity true in
inductive V where
 |bM|bl (b:Bool)|int (i:Int)|str (x:Str)|NK (b:Array UInt8)|vM (b:UInt64)|ref (a:Addr)|ty (n:String)
 deriving DecidableEq
def RelV:V->Value->Prop
 |.bM,u=>u=Value.none
 |.bl b,u=>u=Value.bool b
 |.int i,u=>∃t,u=Value.int i t
 |.str x,u=>∃t,u=Value.str x t
 |.NK b,u=>∃t,u=Value.bytes b t
 |.vM b,u=>∃t,u=Value.float b t
 |.ref a,u=>u=Value.ref a
 |.ty n,u=>u=Value.type n
abbrev Vals:List V->List Value->Prop:=Paired RelV
theorem Vals.length (r:Vals xs us):xs.length=us.length:=Paired.length r
theorem Vals.get:∀{xs:List V} {us:List Value} {i:Nat} {x:V},Vals xs us->xs[i]?=some x->∃u,us[i]?=some u/\RelV x u
 |_,_,_,_,.nil,e=>by simp at e
 |_,_,0,_,.cons r _,e=>by simp at e;subst e;exact⟨_,rfl,r⟩
 |_,_,i+1,x,.cons _ t,e=>by
  obtain⟨u,h1,h2⟩:=Vals.get (i:=i) (x:=x) t (by simpa using e);exact⟨u,by simpa using h1,h2⟩
theorem Vals.append:∀{xs ys:List V} {us ws:List Value},Vals xs us->Vals ys ws->Vals (xs++ys) (us++ws)
 |_,_,_,_,.nil,s=>s
 |_,_,_,_,.cons r t,s=>.cons r (Vals.append t s)
theorem Vals.take:∀{xs:List V} {us:List Value} (n:Nat),Vals xs us->Vals (xs.take n) (us.take n)
 |_,_,0,_=>.nil
 |_,_,_+1,.nil=>.nil
 |_,_,n+1,.cons r t=>.cons r (Vals.take n t)
theorem Vals.drop:∀{xs:List V} {us:List Value} (n:Nat),Vals xs us->Vals (xs.drop n) (us.drop n)
 |_,_,0,r=>r
 |_,_,_+1,.nil=>.nil
 |_,_,n+1,.cons _ t=>Vals.drop n t
def mi:Option V->Option Value->Prop
 |some v,some u=>RelV v u
 |none,none=>True
 |_,_=>False
def KV{b:Type}:List (b×V)->List (b×Value)->Prop:=Paired λ(p:b×V) (q:b×Value)=>p.1=q.1/\RelV p.2 q.2
noncomputable def kV:Key->V
 |.inl i=>.int i
 |.inr x=>.str x
inductive HO where
 |lst (xs:List V)
 |tup (xs:List V)
 |dK (kvs:List (Key×V))|dT (kvs:List (List Key×V))
 |set (S:Int->Bool) (n:Nat)
 |ins (C dx:Addr) (fs:List (Str×V))
 |own (x:Addr)
 |xd (fs:List (Str×V))
 |met (f x:Addr)
 |Lf (lo hi:Int)
 |ll (o:Obj) (u:HO)
 |NL (ps:Array Value)
 |ext (φ:Heap->Prop)
abbrev Hp:=Addr->Option HO
def upd(H:Hp)(a:Addr)(o:HO):Hp:=λb=>if b=a then some o else H b
def bp:upd H a o a=some o:=by unfold upd;rw[av rfl]
def aM{a b:Addr}(h:b≠a):upd H a o b=H b:=by unfold upd;rw[aA h]
theorem SX{H:Hp}(h:H a=some o)(h':H b=some u)(d:o≠u):a≠b:=by
 intro e;subst e;rw[h]at h';exact d (Option.some.inj h')
def cp{H:Hp}(h:H a=some o)(h':H b=none):a≠b:=by
 intro e;subst e;rw[h]at h';cases h'
section
variable (P:Program)(w:World)
def pK(h:Heap)(a:Addr)(b:Array Value):Prop:=∃o,h.get? a=some o/\o.cls=.type "tuple"/\∃n,o.data=.seq b n/\o.dict=none
def pK.tup (x:pK h a a9):IsTup h a a9:=let⟨o,h1,h2,n,h3,_⟩:=x;⟨o,h1,h2,n,h3⟩
def pK.new (h:Heap)(a9:Array Value):pK (h.push {cls:=.type "tuple",data:=.seq a9}) h.objs.size a9:=⟨_,cA _ rfl,rfl,_,rfl,rfl⟩
def cB(H:Hp)(h:Heap)(a:Addr):HO->Prop
 |.lst xs=>xs.length<=sizeLine/\∃(bJ:List Value) (n:Nat),Vals xs bJ/\h.get? a=some {cls:=.type "list",data:=.seq bJ.toArray n}
 |.tup xs=>xs.length<=sizeLine/\∃bJ:List Value,Vals xs bJ/\pK h a bJ.toArray
 |.dK kvs=>kvs.length<=sizeLine/\(a==sysModules)=false/\∃vs,KV kvs vs/\h.DictOf (bI P w) a vs
 |.dT kvs=>kvs.length<=sizeLine/\(a==sysModules)=false/\∃xs:List (List Key×Addr×Value),
   Paired (λ(p:List Key×V) (q:List Key×Addr×Value)=>p.1=q.1/\H q.2.1=some (.tup (p.1.map kV))/\RelV p.2 q.2.2) kvs xs/\
   ∃o es ep,h.get? a=some o/\o.ExactDict/\o.data=.dict es ep/\es.toList=xs.map (entryOfKey (tupleKind (bI P w)))/\(xs.map (·.1)).Nodup
 |.set S n=>h.SetOf (intKind P w) a S n
 |.ins C dx fs=>H dx=some (.own a)/\fs.length<=1000/\dx≠a/\h.get? a=some (PySem.W.instObj C dx)/\
   ∃mA,h.Ns1 dx mA/\(∀f,mi (fs.lookup f) (mA f))/\PySem.Within mA (fs.map (·.1))
 |.own _=>∃o,h.get? a=some o
 |.xd fs=>∃mA,h.Ns1 a mA/\∀f,mi (fs.lookup f) (mA f)
 |.Lf lo hi=>∃t u v,h.get? a=some {cls:=.type "range",data:=.fields #[.int lo t,.int hi u,.int 1 v]}
 |.ll o u=>h.get? a=some o/\cB H h a u
 |.NL ps=>h.get? a=some {cls:=.none,data:=.fields ps}
 |.met f x=>h.get? a=some (PySem.W.methodObj (.ref f) (.ref x))
 |.ext φ=>φ h/\(∃o,h.get? a=some o)/\∀h1 h2:Heap,φ h1->(∀o,h1.get? a=some o->h2.get? a=some o)->φ h2
def rP(H:Hp)(h:Heap):Prop:=∀a o,H a=some o->cB P w H h a o
end
theorem cB.lt (x:cB P w H h a o):a<h.objs.size:=by
 cases o with
 |lst xs=>obtain⟨_,_,_,_,e⟩:=x;exact bC e
 |tup xs=>obtain⟨_,_,_,p⟩:=x;exact p.tup.lt
 |dK kvs=>obtain⟨_,_,_,_,o,_,_,e,_⟩:=x;exact bC e
 |dT kvs=>obtain⟨_,_,_,_,o,_,_,e,_⟩:=x;exact bC e
 |set S n=>obtain⟨o,_,_,_,e,_⟩:=x;exact bC e
 |ins C dx fs=>obtain⟨_,_,_,e,_⟩:=x;exact bC e
 |own y=>obtain⟨_,e⟩:=x;exact bC e
 |xd fs=>obtain⟨_,⟨_,_,_,e,_⟩,_⟩:=x;exact bC e
 |Lf lo hi=>obtain⟨_,_,_,e⟩:=x;exact bC e
 |ll L u=>obtain⟨e,_⟩:=x;exact bC e
 |NL ps=>exact bC (show h.get? a=some _ from x)
 |met f y=>exact bC (show h.get? a=some _ from x)
 |ext b=>obtain⟨_,⟨_,e⟩,_⟩:=x;exact bC e
theorem Paired.OU {β:Type}{F G:α->β->Prop}:∀{q:List α} {I:List β},Paired F q I->(∀a b,F a b->G a b)->Paired G q I
 |_,_,.nil,_=>.nil
 |_,_,.cons r t,f=>.cons (f _ _ r) (Paired.OU t f)
theorem cB.tB {H':Hp}(x:cB P w H h a o)(k:∀b u,(b=a\/H b=some (.own a))->h.get? b=some u->h'.get? b=some u)
  (I:∀b,H b=some (.own a)->H' b=some (.own a)) (M:∀b xs,H b=some (.tup xs)->H' b=some (.tup xs)):cB P w H' h' a o:=by
 induction o with
 |lst xs=>obtain⟨z,bJ,n,r,e⟩:=x;exact⟨z,bJ,n,r,k _ _ (.inl rfl) e⟩
 |tup xs=>obtain⟨z,bJ,r,ob,e,c⟩:=x;exact⟨z,bJ,r,ob,k _ _ (.inl rfl) e,c⟩
 |dK kvs=>obtain⟨z,y,vs,r,ob,es,ep,e,c⟩:=x;exact⟨z,y,vs,r,ob,es,ep,k _ _ (.inl rfl) e,c⟩
 |dT kvs=>
  obtain⟨z,y,xs,r,ob,es,ep,e,c⟩:=x;exact⟨z,y,xs,Paired.OU r λp q z=>⟨z.1,M _ _ z.2.1,z.2.2⟩,ob,es,ep,k _ _ (.inl rfl) e,c⟩
 |set S n=>obtain⟨ob,es,ep,t,e,c⟩:=x;exact⟨ob,es,ep,t,k _ _ (.inl rfl) e,c⟩
 |ins C dx fs=>
  obtain⟨d,z,ne,e,mA,⟨L,es,ep,e2,c⟩,r⟩:=x;exact⟨I _ d,z,ne,k _ _ (.inl rfl) e,mA,⟨L,es,ep,k _ _ (.inr d) e2,c⟩,r⟩
 |own y=>obtain⟨ob,e⟩:=x;exact⟨ob,k _ _ (.inl rfl) e⟩
 |xd fs=>obtain⟨mA,⟨L,es,ep,e,c⟩,r⟩:=x;exact⟨mA,⟨L,es,ep,k _ _ (.inl rfl) e,c⟩,r⟩
 |Lf lo hi=>obtain⟨t,u,v,e⟩:=x;exact⟨t,u,v,k _ _ (.inl rfl) e⟩
 |ll ob u ih=>obtain⟨e,q⟩:=x;exact⟨k _ _ (.inl rfl) e,ih q⟩
 |NL ps=>
  have e:h.get? a=some {cls:=.none,data:=.fields ps}:=x;show h'.get? a=some {cls:=.none,data:=.fields ps};exact k a _ (.inl rfl) e
 |met f y=>
  have e:h.get? a=some (PySem.W.methodObj (.ref f) (.ref y)):=x;show h'.get? a=some (PySem.W.methodObj (.ref f) (.ref y));exact k a _ (.inl rfl) e
 |ext φ=>obtain⟨p,⟨o,e⟩,st⟩:=x;exact⟨st _ _ p λo q=>k _ _ (.inl rfl) q,⟨o,k _ _ (.inl rfl) e⟩,st⟩
theorem rP.lt (x:rP P w H h)(e:H a=some o):a<h.objs.size:=(x a o e).lt
def rP.fresh {a:Addr}(x:rP P w H h)(e:h.objs.size<=a):H a=none:=by
 cases q:H a with
 |none=>rfl
 |some u=>exact absurd (dA (x.lt q) e) (eN _)
def rP.kept (x:rP P w H h)(k:∀b u,h.get? b=some u->h'.get? b=some u):rP P w H h':=λa o e=>
 (x a o e).tB (λb u _ q=>k b u q) (λ_ q=>q) λ_ _ q=>q
def rP.laid {h':Heap}{a:Addr}(x:rP P w H h)(k:∀b u,h.get? b=some u->h'.get? b=some u)(r:h.objs.size<=a)(new:cB P w (upd H a o) h' a o):rP P w (upd H a o) h':=λb u e=>by
 have L:=x.fresh r;by_cases hb:b=a
 .subst hb;rw[bp]at e;cases e;exact new
 .rw[aM hb]at e;exact(x b u e).tB (λc v _ q=>k c v q) (λc q=>by rwa[aM (cp q L)]) λc xs q=>by rwa[aM (cp q L)]
def Rd(H:Hp)(a:Addr)(u:HO):Prop:=H a=some u\/∃o,H a=some (.ll o u)
def Rd.ok (r:Rd H a u)(x:rP P w H h):cB P w H h a u:=by
 rcases r with r|⟨o,r⟩
 .exact x a u r
 .obtain⟨_,q⟩:=x a _ r;exact q
def S1:Option HO->Prop
 |some (.lst _)=>True
 |some (.dK _)=>True
 |some (.dT _)=>True
 |some (.set _ _)=>True
 |some (.ins _ _ _)=>True
 |some (.ext _)=>True
 |_=>False
def rP.write {e:Addr}(ok:rP P w H h)(I:S1 (H x))(he:e=x\/H e=some (.own x))(k:∀b u,b≠e->h.get? b=some u->h'.get? b=some u)(Sg:∃u,h'.get? e=some u)
  (new:cB P w (upd H x S) h' x S):rP P w (upd H x S) h':=λb u q=>by
 have Lg:∀c y,H c=some (.own y)->c≠x:=λc y r z=>by subst z;rw[r]at I;exact I
 have Ww:∀c xs,H c=some (.tup xs)->c≠x:=λc xs r z=>by subst z;rw[r]at I;exact I
 by_cases hb:b=x
 .subst hb;rw[bp]at q;cases q;exact new
 .rw[aM hb]at q;by_cases L:b=e
  .have q':H b=some (.own x):=by
    rcases he with z|z
    .exact absurd (L.trans z) hb
    .rwa[L]
   rw[q]at q';cases q';obtain⟨v,hv⟩:=Sg;exact⟨v,by rwa[L]⟩
  .refine(ok b u q).tB (λc v M r=>k c v ?_ r) (λc r=>by rwa[aM (Lg c b r)]) λc xs r=>by rwa[aM (Ww c xs r)]
   rcases M with rfl|M
   .exact L
   .rintro rfl
    rcases he with z|z
    .exact Lg c b M z
    .rw[M]at z;cases z;exact hb rfl
structure Un(fs ex:List Addr)(H H':Hp)(h h':Heap):Prop where
 keep:∀b o,h.get? b=some o->H b=none->b∉fs->b∉ex->h'.get? b=some o
 slot:∀b o,h.get? b=some o->H b=none->b∈fs->b∉ex->∃sl,h'.get? b=some {o with slots:=sl}
 free:∀b o,h.get? b=some o->H b=none->b∉ex->H' b=none
 there:∀b o,h.get? b=some o->b∉ex->∃o',h'.get? b=some o'
 oW:∀b xs,H b=some (.tup xs)->H' b=some (.tup xs)
 mZ:∀b o u,H b=some (.ll o u)->H' b=some (.ll o u)
 pL:∀b ps,H b=some (.NL ps)->∃more,H' b=some (.NL (ps++more))
def Un.any (u:Un fs ex H H1 h h1){b:Addr}(q:h.get? b=some ob)(n:H b=none)(r:b∉ex):∃I,h1.get? b=some {ob with slots:=I}:=by
 by_cases hb:b∈fs
 .exact u.slot b ob q n hb r
 .exact⟨ob.slots,u.keep b ob q n hb r⟩
def Un.trans (a:Un fs ex H H1 h h1)(b:Un fs ex H1 H2 h1 h2):Un fs ex H H2 h h2 where
 keep:=λc L q n M r=>b.keep c L (a.keep c L q n M r) (a.free c L q n r) M r
 slot:=λc L q n M r=>by
  obtain⟨sl,I⟩:=a.slot c L q n M r;obtain⟨S2,S⟩:=b.slot c _ I (a.free c L q n r) M r;exact⟨S2,S⟩
 free:=λc L q n r=>by
  obtain⟨o',I⟩:=a.there c L q r;exact b.free c o' I (a.free c L q n r) r
 there:=λc L q r=>by
  obtain⟨o',I⟩:=a.there c L q r;exact b.there c o' I r
 oW:=λc xs q=>b.oW c xs (a.oW c xs q)
 mZ:=λc L xs q=>b.mZ c L xs (a.mZ c L xs q)
 pL:=λc ps q=>by
  obtain⟨m1,I⟩:=a.pL c ps q;obtain⟨m2,S⟩:=b.pL c _ I;exact⟨m1++m2,by rw[S,Array.append_assoc]⟩
def Un.kept {h:Heap}(k:∀b u,h.get? b=some u->h'.get? b=some u):Un fs ex H H h h':=
 ⟨λb L q _ _ _=>k b L q,λb L q _ _ _=>⟨L.slots,k b L q⟩,λ_ _ _ n _=>n,λb L q _=>⟨L,k b L q⟩,λ_ _ q=>q,λ_ _ _ q=>q,λ_ ps q=>⟨#[],by rw[q];simp⟩⟩
def Un.refl:Un fs ex H H h h:=Un.kept λ_ _ q=>q
def Un.laid {H:Hp}{h h':Heap}{a:Addr}(k:∀b u,h.get? b=some u->h'.get? b=some u)(I:h.objs.size<=a)(r:H a=none):Un fs ex H (upd H a o) h h' where
 keep:=λb u q _ _ _=>k b u q
 slot:=λb u q _ _ _=>⟨u.slots,k b u q⟩
 free:=λb u q n _=>by rwa[aM (c_ (dA (bC q) I))]
 there:=λb u q _=>⟨u,k b u q⟩
 oW:=λb xs q=>by rwa[aM (cp q r)]
 mZ:=λb u xs q=>by rwa[aM (cp q r)]
 pL:=λb ps q=>⟨#[],by rw[aM (cp q r),q];simp⟩
def Un.write {H:Hp}{h:Heap}{e:Addr}(I:S1 (H x))(he:e=x\/H e=some (.own x))(k:∀b u,b≠e->h.get? b=some u->h'.get? b=some u)(S:∃u,h'.get? e=some u):Un fs ex H (upd H x o) h h':=by
 have L:∀b,H b=none->b≠x:=λb n z=>by subst z;rw[n]at I;exact I
 have hb:∀b,H b=none->b≠e:=λb n z=>by
  subst z;rcases he with r|r
  .exact L b n r
  .rw[n]at r;cases r
 have hm:∀b u,H b=some u->¬S1 (some u)->b≠x:=λb u q nm z=>by subst z;rw[q]at I;exact nm I
 refine⟨λb u q n _ _=>k b u (hb b n) q,λb u q n _ _=>⟨u.slots,k b u (hb b n) q⟩,λb u q n _=>by rwa[aM (L b n)],λb u q _=>?_,
  λb xs q=>by rwa[aM (hm b _ q λz=>z)],λb u xs q=>by rwa[aM (hm b _ q λz=>z)],λb ps q=>⟨#[],by rw[aM (hm b _ q λz=>z),q];simp⟩⟩
 by_cases M:b=e
 .subst M;exact S
 .exact⟨u,k b u M q⟩
noncomputable def VT(h:Heap)(H:Hp):List Addr:=(List.range h.objs.size).filter λa=>(H a).isSome
def z6(h:Heap)(H:Hp):Heap:=PySem.W.hideAll h (VT h H)
def GL(h:Heap)(H:Hp):(z6 h H).objs.size=h.objs.size:=PySem.W.hideAll_size _ _
def HY{H:Hp}{b:Addr}(e:h'.get? b=some o)(n:H b=none):(z6 h' H).get? b=some o:=
 qD _ e λhm=>by
  have q:(H b).isSome=true:=(bP.mp hm).2;rw[n]at q;simp at q
def Lh{b:Addr}(e:(z6 h H).get? b=some o):h.get? b=some o/\H b=none:=by
 have L:h.get? b=some o:=mK (VT h H) e;refine⟨L,?_⟩;cases q:H b with
 |none=>rfl
 |some x=>
  have hm:b∈VT h H:=bP.mpr ⟨mT.mpr (bC L),by simp[q]⟩;have z:(z6 h H).get? b=none:=lA (VT h H) hm;rw[z]at e;cases e
structure Mod(K:Frag)(mg:Str->Option Value)(base:Heap):Prop where
 OW:K.In base
 glob:base.Ns mainGlobals mg
 blt:∃mb,base.Ns builtinsNs mb/\∀x:Str,x≠"__name__"->mb x=bootBuiltins x
 nolimit:base.NoLimit
structure Cx where
 prog:Program
 w:World
 K:Frag
 mg:Str->Option Value
 base:Heap
 A:Around
 N:List Str
 hU:Shared
 Bz:Hp
 env:Env
 outer:List Env
 stack:List Env
 ex:List Addr
 fn:Str->Bool
 calm:Bool
 pn:List (Addr×Obj)
 xe:Value->Shared->Prop
abbrev DH(X:Cx)(x:Str):Prop:=X.fn x=true\/X.env.scope.names.lookup x=some .local
noncomputable def jK(l:List Env):List Addr:=l.filterMap (·.frame)
abbrev Cx.fs (X:Cx):List Addr:=jK X.outer
def Wx(sc:Scope)(x:Str):Prop:=sc.names.lookup x=some .local\/sc.names.lookup x=some .cell\/sc.names.lookup x=some .free
def Loc(sc:Scope)(x:Str):Prop:=sc.names.lookup x=some .local\/sc.names.lookup x=some .cell
def Look(env:Env)(h:Heap)(m:Str->Option Value)(x:Str)(u:Value):Prop:=
 (env.kindOf x=some .local/\m x=some u)\/((env.kindOf x=some .cell\/env.kindOf x=some .free)/\∃c,env.cells.lookup x=some c/\h.IsCell c (some u))
structure Cx.Ok (X:Cx):Prop where
 mod:Mod X.K X.mg X.base
 kind:X.env.scope.kind=.function
 glob:X.env.globals=mainGlobals
 blt:X.env.builtins=builtinsNs
 above:X.hU.heap.objs.size<=X.env.locals
 inj:∀x y c,X.env.cells.lookup x=some c->X.env.cells.lookup y=some c->x=y
 has:∀x,(X.env.kindOf x=some .cell\/X.env.kindOf x=some .free)->∃c,X.env.cells.lookup x=some c
 NM:∀x c,X.fn x=true->X.env.cells.lookup x=some c->X.hU.heap.objs.size<=c
 hd:X.calm=true->X.A.handled=none
 frames:X.A.frames=some X.stack
 K_:X.stack=X.outer\/(X.stack=X.env::X.outer/\X.env.frame=some X.env.locals)
 Si:∀b∈X.ex,b≠X.env.locals/\∀x c,X.env.cells.lookup x=some c->c≠b
 bs:∀b o,X.base.get? b=some o->X.hU.heap.get? b=some o/\X.Bz b=none
 GN:X.base.objs.size<=X.hU.heap.objs.size
 BA:∀b o,X.base.get? b=some o->b∉X.ex
 BB:∀b∈X.ex,b∉X.fs
 qY:X.hU.heap.FunFrames X.base X.outer
 HZ:∀b∈X.fs,X.Bz b=none
structure Inv(X:Cx)(U:List (Addr×Obj))(Z:List (Option V))(H:Hp)(s:Shared):Prop where
 ok:X.Ok
 os:s.os=X.hU.os
 bare:AllBare s.gens
 base:Un X.fs X.ex X.Bz H X.hU.heap s.heap
 loc:∃m,s.heap.Ns X.env.locals m/\∀(i:Nat) (x:Str) (v:V),X.N[i]?=some x->Z[i]?=some (some v)->Wx X.env.scope x->∃u,RelV v u/\Look X.env s.heap m x u
 cell:∀x c,X.env.cells.lookup x=some c->∃v,s.heap.IsCell c v
 free:H X.env.locals=none
 gx:∀x c,X.env.cells.lookup x=some c->H c=none
 pin:∀p∈X.pn++U,s.heap.get? p.1=some p.2/\H p.1=none/\p.1≠X.env.locals/\p.1∉X.fs/\∀v,p.2.data≠ .cell v
 cy:rP X.prog X.w H s.heap
 len:Z.length=X.N.length
def Cx.Ok.Wy {X:Cx}(ok:X.Ok){b:Addr}(e:X.base.get? b=some o):b∉X.fs:=λhb=>by
 have:=(ok.qY.mem hb).1;rw[e]at this;cases this
theorem Inv.bs (I:Inv X U Z H s):∀b o,X.base.get? b=some o->s.heap.get? b=some o/\H b=none:=λb o e=>
 ⟨I.base.keep b o (I.ok.bs b o e).1 (I.ok.bs b o e).2 (I.ok.Wy e) (I.ok.BA b o e),I.base.free b o (I.ok.bs b o e).1 (I.ok.bs b o e).2 (I.ok.BA b o e)⟩
def Inv.bk (I:Inv X U Z H s):∀b o,X.base.get? b=some o->s.heap.get? b=some o:=λb o e=>(I.bs b o e).1
theorem Inv.mod (I:Inv X U Z H s):Mod X.K X.mg X.base:=I.ok.mod
def Inv.nK (I:Inv X U Z H s):X.K.In s.heap:=I.ok.mod.OW.keeps I.bk
def Inv.fr (I:Inv X U Z H s):∃m,Fr X.base X.env.locals s.heap m:=
 let⟨m,hn,_⟩:=I.loc
 ⟨m,hn,I.bk,aV I.ok.GN I.ok.above⟩
theorem Inv.lt (I:Inv X U Z H s):X.env.locals<s.heap.objs.size:=let⟨_,hn,_⟩:=I.loc;hn.lt
def Inv.sz (I:Inv X U Z H s):X.hU.heap.objs.size<=s.heap.objs.size:=aV I.ok.above (cP I.lt)
def Inv.S3 (I:Inv X U Z H s){a:Addr}(h:`a<=a):a∉X.fs:=λhb=>by
 obtain⟨_,o,L,_⟩:=I.ok.qY.mem hb;exact absurd (dA (bC L) (aV I.sz h)) (eN _)
def Inv.Li (I:Inv X U Z H s):∀x c,X.env.cells.lookup x=some c->c≠X.env.locals:=λx c e z=>by
 obtain⟨v,o,L,hd⟩:=I.cell x c e;obtain⟨m,⟨r,es,ep,b,q,_⟩,_⟩:=I.loc;rw[z,b]at L;cases L;rw[q]at hd;cases hd
theorem Inv.qY (I:Inv X U Z H s):s.heap.FunFrames X.base X.outer:=by
 have all:∀(l:List Env),(∀b∈jK l,b∈X.fs)->X.hU.heap.FunFrames X.base l->s.heap.FunFrames X.base l:=by
  intro l
  induction l with
  |nil=>intro _ _;trivial
  |cons env r q=>
   intro hs M;obtain⟨S,⟨L,o,hf,hn,ho,hd⟩,hr⟩:=M;have hL:L∈X.fs:=hs L (by unfold jK;rw[pd,hf];exact bF);obtain⟨sl,e⟩:=I.base.slot L o ho (I.ok.HZ L hL) hL λz=>I.ok.BB L z hL;exact⟨S,⟨L,_,hf,hn,e,hd⟩,q (λb hb=>hs b (by unfold jK;rw[pd,hf];exact bG _ hb)) hr⟩
 exact all X.outer (λ_ hb=>hb) I.ok.qY
theorem Inv.stack (I:Inv X U Z H s):s.heap.FunFrames X.base X.stack:=by
 rcases I.ok.K_ with e|⟨e,hf⟩
 .rw[e];exact I.qY
 .rw[e];obtain⟨m,hn,_⟩:=I.loc;refine .cons (by rw[I.ok.kind];decide) hf hn ?_ I.qY
  exact Heap.get?_none_of_le (aV I.ok.GN I.ok.above)
def Inv.xo {X:Cx}(I:Inv X U Z H s):∀b∈jK X.stack,b∈X.env.locals::X.fs:=λb hb=>by
 rcases I.ok.K_ with e|⟨e,hf⟩
 .rw[e]at hb;exact bG _ hb
 .rw[e]at hb;unfold jK at hb;rw[pd,hf]at hb;exact hb
def Inv.v5 {X:Cx}(I:Inv X U Z H s):∀b∈jK X.stack,H b=none:=λb hb=>by
 rcases aZ.mp (I.xo b hb)with e|hb
 .rw[e];exact I.free
 .obtain⟨_,o,L,_⟩:=I.ok.qY.mem hb;exact I.base.free b o L (I.ok.HZ b hb) λz=>I.ok.BB b z hb
def Inv.step {X:Cx}{H':Hp}{t':Nat}{d':Drawn}{ch:List Addr}(I:Inv X U Z H s)
  (DI:∀b∈ch,(b∈X.ex\/X.hU.heap.objs.size<=b)/\b≠X.env.locals/\(∀x c,X.env.cells.lookup x=some c->c≠b)/\∀p∈X.pn++U,p.1≠b)
  (keep:∀b o,b≠X.env.locals->b∉X.fs->b∉ch->s.heap.get? b=some o->H b=none->h'.get? b=some o)
  (slot:∀b o,b≠X.env.locals->b∈X.fs->b∉ch->s.heap.get? b=some o->H b=none->∃sl,h'.get? b=some {o with slots:=sl}) (free:∀b o,b∉ch->s.heap.get? b=some o->H b=none->H' b=none)
  (there:∀b o,b∉ch->s.heap.get? b=some o->∃o',h'.get? b=some o')
  (oW:∀b xs,H b=some (.tup xs)->H' b=some (.tup xs)) (mZ:∀b o u,H b=some (.ll o u)->H' b=some (.ll o u)) (pL:∀b ps,H b=some (.NL ps)->∃more,H' b=some (.NL (ps++more)))
  (ns:∀m,s.heap.Ns X.env.locals m->h'.Ns X.env.locals m) (cy:rP X.prog X.w H' h') (hg:AllBare g'):
  Inv X U Z H' {s with heap:=h',gens:=g',drawn:=d',toks:=t'}:=by
 have Y2:∀b o,X.hU.heap.get? b=some o->b≠X.env.locals:=λb o e=>c_ (dA (bC e) I.ok.above);have HP:∀b o,X.hU.heap.get? b=some o->b∉X.ex->b∉ch:=λb o e L hb=>by
  rcases(DI b hb).1 with z|z
  .exact L z
  .exact absurd (dA (bC e) z) (eN _)
 have cellK:∀x c,X.env.cells.lookup x=some c->∀v,s.heap.IsCell c v->h'.IsCell c v:=λx c e v ⟨o,S,hd⟩=>by
  have NN:c∉ch:=λz=>(DI c z).2.2.1 x c e rfl;by_cases hc:c∈X.fs
  .obtain⟨sl,q⟩:=slot c o (I.Li x c e) hc NN S (I.gx x c e);exact⟨_,q,hd⟩
  .exact⟨o,keep c o (I.Li x c e) hc NN S (I.gx x c e),hd⟩
 refine⟨I.ok,I.os,hg,⟨λb o e n hb L=>?_,λb o e n hb L=>?_,λb o e n L=>?_,λb o e L=>?_,λb xs e=>oW b xs (I.base.oW b xs e),λb o xs e=>mZ b o xs (I.base.mZ b o xs e),λb ps e=>?_⟩,?_,λx c e=>?_,?_,λx c e=>?_,λp hp=>?_,cy,I.len⟩
 .exact keep b o (Y2 b o e) hb (HP b o e L) (I.base.keep b o e n hb L) (I.base.free b o e n L)
 .obtain⟨sl,M⟩:=I.base.slot b o e n hb L;obtain⟨S2,e2⟩:=slot b _ (Y2 b o e) hb (HP b o e L) M (I.base.free b o e n L);exact⟨S2,e2⟩
 .obtain⟨o',M⟩:=I.base.there b o e L;exact free b o' (HP b o e L) M (I.base.free b o e n L)
 .obtain⟨o',M⟩:=I.base.there b o e L;exact there b o' (HP b o e L) M
 .obtain⟨m1,M⟩:=I.base.pL b ps e;obtain⟨m2,e2⟩:=pL b _ M;exact⟨m1++m2,by rw[e2,Array.append_assoc]⟩
 .obtain⟨m,hn,hl⟩:=I.loc;refine⟨m,ns m hn,λi x v M e2 e3=>?_⟩;obtain⟨u,r,l⟩:=hl i x v M e2 e3;refine⟨u,r,?_⟩;rcases l with l|⟨k,c,e,z⟩
  .exact .inl l
  .exact .inr ⟨k,c,e,cellK x c e _ z⟩
 .obtain⟨v,z⟩:=I.cell x c e;exact⟨v,cellK x c e v z⟩
 .obtain⟨m,⟨o,_,_,S,_⟩,_⟩:=I.loc;exact free _ o (λz=>(DI _ z).2.1 rfl) S I.free
 .obtain⟨v,o,S,hd⟩:=I.cell x c e;exact free c o (λz=>(DI c z).2.2.1 x c e rfl) S (I.gx x c e)
 .obtain⟨e,n,ne,nf,d⟩:=I.pin p hp;have NN:p.1∉ch:=λz=>(DI p.1 z).2.2.2 p hp rfl;exact⟨keep p.1 p.2 ne nf NN e n,free p.1 p.2 NN e n,ne,nf,d⟩
def Inv.un {t':Nat}(I:Inv X U Z H s)(u:Un X.fs [] H H' s.heap h')(M:rP X.prog X.w H' h'):Inv X U Z H' {s with heap:=h',toks:=t'}:=by
 obtain⟨m,⟨o,es,ep,L,r⟩,_⟩:=id I.loc;obtain⟨sl,hL⟩:=u.any L I.free *...*;exact I.step (g':=s.gens) (d':=s.drawn) (ch:=[]) (λ_ z=>nomatch z) (λb o _ hb _ e n=>u.keep b o e n hb *...*) (λb o _ hb _ e n=>u.slot b o e n hb *...*) (λb o _ e n=>u.free b o e n *...*) (λb o _ e=>u.there b o e *...*) u.oW u.mZ u.pL (λm' hm=>by
  obtain⟨o',S,OX,q,r'⟩:=hm;rw[L]at q;cases q;exact⟨_,S,OX,hL,r'⟩) M I.bare
def Inv.call {X:Cx}{t':Nat}{d':Drawn}{ch:List Addr}(I:Inv X U Z H s)(u:Un (jK X.stack) ch H H' s.heap h')(cy:rP X.prog X.w H' h')(hg:AllBare g')
  (q:∀b∈ch,(b∈X.ex\/X.hU.heap.objs.size<=b)/\b≠X.env.locals/\(∀x c,X.env.cells.lookup x=some c->c≠b)/\∀p∈X.pn++U,p.1≠b):
  Inv X U Z H' {s with heap:=h',gens:=g',drawn:=d',toks:=t'}:=by
 obtain⟨m,⟨o,es,ep,M,r⟩,_⟩:=id I.loc;obtain⟨sl,hL⟩:=u.any M I.free λz=>(q _ z).2.1 rfl;exact I.step (ch:=ch) q (λb o hL hb L e n=>u.keep b o e n (λz=>(aZ.mp (I.xo b z)).elim hL hb) L) (λb o _ _ L e n=>u.any e n L) (λb o L e n=>u.free b o e n L) (λb o L e=>u.there b o e L) u.oW u.mZ u.pL (λm' hm=>by
  obtain⟨o',S4,OX,S,r'⟩:=hm;rw[M]at S;cases S;exact⟨_,S4,OX,hL,r'⟩) cy hg
def Inv.turned {X:Cx}{t':Nat}{it:Addr}(I:Inv X U Z H s)(k:∀b o,b≠it->s.heap.get? b=some o->h'.get? b=some o)(hn:H it=none)(hL:it≠X.env.locals)
  (h1:it∈X.ex\/X.hU.heap.objs.size<=it) (h2:∀x c,X.env.cells.lookup x=some c->c≠it) (h3:∀p∈X.pn++U,p.1≠it):Inv X U Z H {s with heap:=h',toks:=t'}:=by
 have M:∀b u,H b=some u->b≠it:=λb u e z=>by rw[z,hn]at e;cases e
 refine I.step (g':=s.gens) (d':=s.drawn) (ch:=[it]) (λb hb=>?_) (λb o _ _ L e _=>k b o (λz=>L (by simp[z])) e) (λb o _ _ L e _=>⟨o.slots,k b o (λz=>L (by simp[z])) e⟩) (λ_ _ _ _ n=>n)
  (λb o L e=>⟨o,k b o (λz=>L (by simp[z])) e⟩) (λ_ _ e=>e) (λ_ _ _ e=>e) (λb ps e=>⟨#[],by rw[e];simp⟩) (λm hm=>?_) (λb u e=>?_) I.bare
 .have e:b=it:=by simpa using hb
  subst e;exact⟨h1,hL,h2,h3⟩
 .obtain⟨o,es,ep,S,r⟩:=hm;exact⟨o,es,ep,k _ o (Ne.symm hL) S,r⟩
 .refine(I.cy b u e).tB (λc v L q=>k c v ?_ q) (λ_ q=>q) λ_ _ q=>q;rcases L with z|z
  .rw[z];exact M b u e
  .exact M c _ z
def Inv.tok (I:Inv X U Z H s)(t:Nat):Inv X U Z H {s with toks:=t}:=I.un (h':=s.heap) (t':=t) Un.refl I.cy
theorem Inv.kept {t':Nat}(I:Inv X U Z H s)(k:∀b u,s.heap.get? b=some u->h'.get? b=some u):Inv X U Z H {s with heap:=h',toks:=t'}:=I.un (Un.kept k) (I.cy.kept k)
theorem Inv.laid {h':Heap}{a:Addr}{t':Nat}(I:Inv X U Z H s)(k:∀b u,s.heap.get? b=some u->h'.get? b=some u)(q:`a<=a)(new:cB X.prog X.w (upd H a o) h' a o):
  Inv X U Z (upd H a o) {s with heap:=h',toks:=t'}:=I.un (Un.laid k q (I.cy.fresh q)) (I.cy.laid k q new)
theorem Inv.write {e:Addr}{t':Nat}(I:Inv X U Z H s)(q:S1 (H x))(he:e=x\/H e=some (.own x))(k:∀b u,b≠e->s.heap.get? b=some u->h'.get? b=some u)(r:∃u,h'.get? e=some u)
  (new:cB X.prog X.w (upd H x o) h' x o):Inv X U Z (upd H x o) {s with heap:=h',toks:=t'}:=I.un (Un.write q he k r) (I.cy.write q he k r new)
def Inv.ke {y0:List (Addr×Obj)}(I:Inv X U Z H s)(h:∀p∈y0,s.heap.get? p.1=some p.2/\H p.1=none/\p.1≠X.env.locals/\p.1∉X.fs/\∀v,p.2.data≠ .cell v):Inv X y0 Z H s:=
 ⟨I.ok,I.os,I.bare,I.base,I.loc,I.cell,I.free,I.gx,λp L=>(cE.mp L).elim (λz=>I.pin p (jX _ z)) (h p),I.cy,I.len⟩
def xp{N:List Str}(hN:N.Nodup){j:Nat}(a:N[aa]?=some x)(b:N[j]?=some x):aa=j:=by
 obtain⟨h1,L⟩:=gE.mp a;obtain⟨h2,q⟩:=gE.mp b;exact(List.getElem_inj hN).mp (L.trans q.symm)
theorem y1{i:Nat}(I:Inv X U Z H s)(hN:X.N.Nodup)(hi:X.N[i]?=some x)(hx:Loc X.env.scope x)(r:RelV v u)
  (h:∀s',Inv X U (Z.set i (some v)) H s'->(∃a,Heap.SameBut a s.heap s'.heap/\(a=X.env.locals\/X.env.cells.lookup x=some a))->ac () s') (hf:autoParam (DH X x) Ilz):wpAny M A (storeName X.env x u) ac E s:=by
 obtain⟨m,hn,hl⟩:=id I.loc;have z7:(X.env.scope.kind== .class||(X.env.scope.kind== .module&&X.env.locals !=X.env.globals))=false:=by rw[I.ok.kind];rfl
 have S5:i<Z.length:=by rw[I.len];exact(gE.mp hi).1
 have Li:=I.Li;have tracked:∀{a:Addr} {h':Heap},(∃o,s.heap.get? a=some o/\H a=none)->Heap.SameBut a s.heap h'->rP X.prog X.w H h':=λ{a h'} ha hs b ob e=>by
  obtain⟨_,_,NO⟩:=ha;refine(I.cy b ob e).tB (λc w' S q=>(hs.2 c ?_).trans q) (λ_ q=>q) λ_ _ q=>q
  rintro rfl
  rcases S with rfl|S
  .rw[NO]at e;cases e
  .rw[NO]at S;cases S
 rcases hx with hk|hk
 .refine wpAny_storeName_local hk hn (λh' Sj hs=>?_) z7;obtain⟨oL,_,_,Sk,_⟩:=id hn;refine h _ ⟨I.ok,I.os,I.bare,⟨λb o e n hb hx=>?_,λb o e n hb hx=>?_,I.base.free,λb o e hx=>?_,I.base.oW,I.base.mZ,I.base.pL⟩,⟨_,Sj,λj y v' L e2 e3=>?_⟩,λy c e=>?_,I.free,I.gx,λp hp=>?_,tracked ⟨oL,Sk,I.free⟩ hs,by simpa using I.len⟩ ⟨_,hs,.inl rfl⟩
  .exact(hs.2 b (c_ (dA (bC e) I.ok.above))).trans (I.base.keep b o e n hb hx)
  .obtain⟨sl,L⟩:=I.base.slot b o e n hb hx;exact⟨sl,(hs.2 b (c_ (dA (bC e) I.ok.above))).trans L⟩
  .obtain⟨o',L⟩:=I.base.there b o e hx;exact⟨o',(hs.2 b (c_ (dA (bC e) I.ok.above))).trans L⟩
  .by_cases hj:j=i
   .subst hj;rw[hi]at L;cases L;rw[nC S5]at e2;cases e2;exact⟨u,r,.inl ⟨hk,by simp⟩⟩
   .rw[qC (Ne.symm hj)]at e2;obtain⟨u',r',q⟩:=hl j y v' L e2 e3;refine⟨u',r',?_⟩;rcases q with⟨k,e⟩|⟨k,c,e,z⟩
    .refine .inl ⟨k,?_⟩;have:y≠x:=λe=>hj (xp hN L (e▸hi));simp[this,e]
    .exact .inr ⟨k,c,e,z.sameBut hs (Li y c e)⟩
  .obtain⟨w',z⟩:=I.cell y c e;exact⟨w',z.sameBut hs (Li y c e)⟩
  .obtain⟨e,n,ne,nf,d⟩:=I.pin p hp;exact⟨(hs.2 p.1 ne).trans e,n,ne,nf,d⟩
 .have Lm:X.fn x=true:=by
   rcases hf with z|z
   .exact z
   .rw[z]at hk;cases hk
  obtain⟨c,S⟩:=I.ok.has x (.inl hk);obtain⟨w',z⟩:=I.cell x c S;refine wpAny_storeName_cell I.ok.kind hk S z (λh' VU hs=>?_);obtain⟨oc,OY,aaf⟩:=id z;refine h {s with heap:=h'} ⟨I.ok,I.os,I.bare,⟨λb o e n hb hx=>?_,λb o e n hb hx=>?_,I.base.free,λb o e hx=>?_,I.base.oW,I.base.mZ,I.base.pL⟩,⟨m,hn.sameBut hs (Ne.symm (Li x c S)),λj y v' L e2 e3=>?_⟩,λy c' e=>?_,I.free,I.gx,λp hp=>?_,tracked ⟨oc,OY,I.gx x c S⟩ hs,by simpa using I.len⟩ ⟨c,hs,.inr S⟩
  .exact(hs.2 b (c_ (dA (bC e) (I.ok.NM x c Lm S)))).trans (I.base.keep b o e n hb hx)
  .obtain⟨sl,L⟩:=I.base.slot b o e n hb hx;exact⟨sl,(hs.2 b (c_ (dA (bC e) (I.ok.NM x c Lm S)))).trans L⟩
  .obtain⟨o',L⟩:=I.base.there b o e hx;exact⟨o',(hs.2 b (c_ (dA (bC e) (I.ok.NM x c Lm S)))).trans L⟩
  .by_cases hj:j=i
   .subst hj;rw[hi]at L;cases L;rw[nC S5]at e2;cases e2;exact⟨u,r,.inr ⟨.inl hk,c,S,VU⟩⟩
   .rw[qC (Ne.symm hj)]at e2;obtain⟨u',r',q⟩:=hl j y v' L e2 e3;refine⟨u',r',?_⟩;rcases q with q|⟨k,c',e,z'⟩
    .exact .inl q
    .refine .inr ⟨k,c',e,z'.sameBut hs ?_⟩
     rintro rfl
     exact hj (xp hN L (I.ok.inj _ _ _ e S▸hi))
  .by_cases Y4:c'=c
   .subst Y4;exact⟨_,VU⟩
   .obtain⟨w2,z2⟩:=I.cell y c' e;exact⟨w2,z2.sameBut hs Y4⟩
  .obtain⟨e,n,ne,nf,d⟩:=I.pin p hp;refine⟨(hs.2 p.1 ?_).trans e,n,ne,nf,d⟩;intro q;rw[q,OY]at e;have q':oc=p.2:=Option.some.inj e;exact d w' (by rwa[<-q'])
def xq(I:Inv X U Z H s)(hN:X.N.Nodup)(hi:X.N[aa]?=some x)(q:Loc X.env.scope x)(r:RelV v u)
  (h:∀b,Inv X U (Z.set aa (some v)) H b->ac () b) (hf:autoParam (DH X x) Ilz):wpAny M A (storeName X.env x u) ac E s:=
 y1 I hN hi q r (λb L _=>h b L) hf
def Inv.S6 {X:Cx}{s':Shared}{ch:List Addr}(I:Inv X U Z H s)(q:s'.os=s.os)(u:Un (jK X.stack) ch H H' s.heap s'.heap)(r:rP X.prog X.w H' s'.heap)(M:AllBare s'.gens)
  (S:∀b∈ch,(b∈X.ex\/X.hU.heap.objs.size<=b)/\b≠X.env.locals/\(∀x c,X.env.cells.lookup x=some c->c≠b)/\∀p∈X.pn++U,p.1≠b):Inv X U Z H' s':=by
 obtain⟨h',g',d',t',o'⟩:=s';have e:o'=s.os:=q;subst e;exact I.call (g':=g') (t':=t') (d':=d') u r M S
abbrev XK:=Value->Option Addr->Hp->Prop
abbrev St:=List (Option V)
abbrev VK:=V->Hp->Prop
abbrev TE:=St->Hp->VK->Prop
abbrev TT:=St->Hp->(Bool->Hp->Prop)->Prop
abbrev TA:=St->Hp->(List V->Hp->Prop)->Prop
structure Ends where
 nx:St->Hp->Prop
 rt:VK
 bk:St->Hp->Prop:=λ_ _=>False
 ct:St->Hp->Prop:=λ_ _=>False
abbrev TS:=Ends->St->Hp->Prop
def EP(X:Cx)(U:List (Addr×Obj))(Z:St)(Q:VK)(u:Value)(b:Shared):Prop:=∃v H',Inv X U Z H' b/\RelV v u/\Q v H'
def TP(X:Cx)(U:List (Addr×Obj))(Z:St)(Q:Bool->Hp->Prop)(b:Bool)(q:Shared):Prop:=∃H',Inv X U Z H' q/\Q b H'
def AP(X:Cx)(U:List (Addr×Obj))(Z:St)(Q:List V->Hp->Prop)(us:List Value)(b:Shared):Prop:=∃vs H',Inv X U Z H' b/\Vals vs us/\Q vs H'
def SP(X:Cx)(U:List (Addr×Obj))(D:Ends)(f:Flow)(b:Shared):Prop:=
 match f with
 |.next=>∃L H',Inv X U L H' b/\D.nx L H'
 |.brk=>∃L H',Inv X U L H' b/\D.bk L H'
 |.cont=>∃L H',Inv X U L H' b/\D.ct L H'
 |.ret u=>∃v L H',Inv X U L H' b/\RelV v u/\D.rt v H'
def PE(X:Cx)(e:Expr)(t:TE):Prop:=
 ∀(U:List (Addr×Obj)) (s:Shared) (Z:St) (H:Hp) (Q:VK),Inv X U Z H s->t Z H Q->wpAny `c X.A (eval e X.env) (EP X U Z Q) X.xe s
def PT(X:Cx)(e:Expr)(t:TT):Prop:=
 ∀(U:List (Addr×Obj)) (s:Shared) (Z:St) (H:Hp) (Q:Bool->Hp->Prop),Inv X U Z H s->t Z H Q->wpAny `c X.A (isTrue e X.env (eval e X.env)) (TP X U Z Q) X.xe s
def PW(X:Cx)(e:Expr)(t:TT):Prop:=
 ∀(whole:Sem Value) (U:List (Addr×Obj)) (s:Shared) (Z:St) (H:Hp) (Q:Bool->Hp->Prop),Inv X U Z H s->t Z H Q->wpAny `c X.A (isTrue e X.env whole) (TP X U Z Q) X.xe s
def PW.pt (h:PW X e t):PT X e t:=h _
def PA(X:Cx)(es:List Expr)(t:TA):Prop:=
 ∀(pos:Pos) (U:List (Addr×Obj)) (s:Shared) (Z:St) (H:Hp) (Q:List V->Hp->Prop),Inv X U Z H s->t Z H Q->wpAny `c X.A (spliced (backTo pos (starEach es X.env))) (AP X U Z Q) X.xe s
def PS(X:Cx)(st:Stmt)(t:TS):Prop:=
 ∀(U:List (Addr×Obj)) (s:Shared) (Z:St) (H:Hp) (D:Ends),Inv X U Z H s->t D Z H->wpAny `c X.A (exec st X.env) (SP X U D) X.xe s
def yF(X:Cx)(st:List Stmt)(t:TS):Prop:=
 ∀(U:List (Addr×Obj)) (s:Shared) (Z:St) (H:Hp) (D:Ends),Inv X U Z H s->t D Z H->wpAny `c X.A (execs st X.env) (SP X U D) X.xe s
def d7{t:Sem α}{Q b:α->Shared->Prop}{s:Shared}(h:wpAny M A t Q E s)(q:∀a s,Q a s->b a s):wpAny M A t b E s:=dX h q λ_ _ x=>x
def Wz(i:Nat):TE:=λZ H Q=>∃v,Z[i]?=some (some v)/\Q v H
def tC(v:V):TE:=λ_ H Q=>Q v H
def OZ{X:Cx}(hN:X.N[aa]?=some x)(M:Wx X.env.scope x)(hd:autoParam (Db x) Dcz) (S:autoParam ((x==("__classdict__":Str))=false) Dcz):PE X (.Name x pos) (Wz aa):=by
 intro U s Z H Q I h;obtain⟨v,e,h⟩:=h;obtain⟨m,hn,hl⟩:=I.loc;obtain⟨u,r,l⟩:=hl aa x v hN e M;have fin:EP X U Z Q u s:=⟨v,H,I,r,h⟩;rcases l with⟨L,hm⟩|⟨L,c,b,q⟩
 .exact wpAny_Name (wpAny_loadName_local I.ok.kind L hn hm fin) hd
 .rcases L with L|L
  .exact wpAny_Name (wpAny_loadName_cell I.ok.kind L b q fin) hd
  .exact wpAny_Name (wpAny_loadName_free I.ok.kind L b q fin S) hd
def O0{i j pos}:PE X (.Constant (.int i) j pos) (tC (.int i)):=λ_ _ _ H _ I h=>wpAny_Constant_int ⟨.int i,H,I.tok _,⟨_,rfl⟩,h⟩
def S7{b j pos}:PE X (.Constant (.bool b) j pos) (tC (.bl b)):=λ_ _ _ H _ I h=>Constant_bool ⟨.bl b,H,I,rfl,h⟩
def O1{j pos}:PE X (.Constant .none j pos) (tC .bM):=λ_ _ _ H _ I h=>Constant_none ⟨.bM,H,I,rfl,h⟩
def O2{x j pos}:PE X (.Constant (.str x) j pos) (tC (.str x)):=λ_ _ _ H _ I h=>Calls.Constant_str ⟨.str x,H,I.tok _,⟨_,rfl⟩,h⟩
def Gl(X:Cx)(x:Str):Prop:=X.env.kindOf x=some .globalImplicit
def qF(I:Inv X U Z H s)(b:Gl X x)(hm:X.mg x=some u)(h:ae u s)
  (hd:autoParam (Db x) Dcz):wpAny `c X.A (eval (.Name x pos) X.env) ae E s:=
 wF I.ok.kind b (Calls.loadGlobal_global (by rw[I.ok.glob];exact I.mod.glob.keeps I.bk) hm h) hd
def xr(I:Inv X U Z H s)(b:Gl X x)(hm:X.mg x=none)(q:bootBuiltins x=some u)(h:ae u s)
  (r:autoParam (x≠"__name__") Dcz) (hd:autoParam (Db x) Dcz):wpAny `c X.A (eval (.Name x pos) X.env) ae E s:=by
 obtain⟨L,h1,h2⟩:=I.mod.blt;exact wF I.ok.kind b (Calls.loadGlobal_builtin (by rw[I.ok.glob];exact I.mod.glob.keeps I.bk) hm (by rw[I.ok.blt];exact h1.keeps I.bk) ((h2 x r).trans q) h) hd
def z8(b:Gl X x)(hm:X.mg x=some u)(r:RelV v u)(hd:autoParam (Db x) Dcz):PE X (.Name x pos) (tC v):=
 λ_ _ _ H _ I h=>qF I b hm ⟨v,H,I,r,h⟩ hd
def Fj(b:Gl X x)(hm:X.mg x=none)(q:bootBuiltins x=some u)(r:RelV v u)(M:autoParam (x≠"__name__") Dcz) (hd:autoParam (Db x) Dcz):PE X (.Name x pos) (tC v):=
 λ_ _ _ H _ I h=>xr I b hm q ⟨v,H,I,r,h⟩ M hd
def WA(t u:TT):TT:=λZ H Q=>t Z H λc H1=>if c=true then u Z H1 Q else Q false H1
def tOr(t u:TT):TT:=λZ H Q=>t Z H λc H1=>if c=true then Q true H1 else u Z H1 Q
def WB(t:TT):TT:=λZ H Q=>t Z H λc H1=>Q (!c) H1
def pw_and1(b:PT X a tA):PW X (.BoolOp .And [a] pos) tA:=by
 intro L U s Z H Q I h;refine isTrue_and (d7 (b U s Z H Q I h) λc s1 e=>?_);cases c with
 |true=>exact isTrue_and_nil e
 |false=>exact e
def pw_or1(b:PT X a tA):PW X (.BoolOp .Or [a] pos) tA:=by
 intro L U s Z H Q I h;refine isTrue_or (d7 (b U s Z H Q I h) λc s1 e=>?_);cases c with
 |false=>exact isTrue_or_nil e
 |true=>exact e
def pw_and(q:PT X c5 r)(hb:PW X (.BoolOp .And (ag::af) pos) M):PW X (.BoolOp .And (c5::ag::af) pos) (WA r M):=by
 intro S U s Z H Q I h;refine isTrue_and (d7 (q U s Z H _ I h) λc s1 ⟨H1,L,b⟩=>?_);cases c with
 |true=>exact hb S U s1 Z H1 Q L b
 |false=>exact⟨H1,L,b⟩
def pw_or(q:PT X c5 r)(hb:PW X (.BoolOp .Or (ag::af) pos) M):PW X (.BoolOp .Or (c5::ag::af) pos) (tOr r M):=by
 intro S U s Z H Q I h;refine isTrue_or (d7 (q U s Z H _ I h) λc s1 ⟨H1,L,b⟩=>?_);cases c with
 |true=>exact⟨H1,L,b⟩
 |false=>exact hb S U s1 Z H1 Q L b
def H_(b:PT X a q):PT X (.UnaryOp .Not a pos) (WB q):=by
 intro U s Z H Q I h;exact isTrue_not (b U s Z H (λc H1=>Q (!c) H1) I h)
def O3{op}(h:PE X a t):PE X (.BoolOp op [a] pos) t:=λU s Z H Q I hw=>BoolOp_one (h U s Z H Q I hw)
def tIf(t:TT)(b q:TE):TE:=λZ H Q=>t Z H λc H1=>if c=true then b Z H1 Q else q Z H1 Q
def Ia(r:PT X c M)(S:PE X a ta)(hb:PE X b tb):PE X (.IfExp c a b pos) (tIf M ta tb):=by
 intro U s Z H Q I h;refine wpAny_IfExp (d7 (r U s Z H _ I h) λd s1 ⟨H1,L,q⟩=>?_);cases d with
 |true=>exact S U s1 Z H1 Q L q
 |false=>exact hb U s1 Z H1 Q L q
def lI(K:Frag)(H:Hp)(a:Addr)(xs:List V):Prop:=
 Rd H a (.lst xs)\/
  ∃(o:Obj) (bJ:Array Value) (n:Nat),K.lookup a=some o/\o.cls=.type "list"/\o.dict=none/\o.data=.seq bJ n/\bJ.size<=sizeLine/\Vals xs bJ.toList
def mj(K:Frag)(H:Hp)(a:Addr)(xs:List V):Prop:=
 Rd H a (.tup xs)\/
  ∃(o:Obj) (bJ:Array Value) (n:Nat),K.lookup a=some o/\o.cls=.type "tuple"/\o.dict=none/\o.data=.seq bJ n/\bJ.size<=sizeLine/\Vals xs bJ.toList
noncomputable def WD:Value->Option V
 |.none=>some .bM
 |.bool b=>some (.bl b)
 |.int i _=>some (.int i)
 |.str x _=>some (.str x)
 |.bytes b _=>some (.NK b)
 |.float b _=>some (.vM b)
 |.ref a=>some (.ref a)
 |.type n=>some (.ty n)
 |_=>none
def RelV.abs (r:RelV x u):WD u=some x:=by
 cases x with
 |bM=>cases r;rfl
 |bl _=>cases r;rfl
 |int _=>obtain⟨t,rfl⟩:=r;rfl
 |str _=>obtain⟨t,rfl⟩:=r;rfl
 |NK _=>obtain⟨t,rfl⟩:=r;rfl
 |vM _=>obtain⟨t,rfl⟩:=r;rfl
 |_=>cases r;rfl
theorem RelV.inj (r:RelV x u)(q:RelV y u):x=y:=Option.some.inj (r.abs.symm.trans q.abs)
theorem Vals.inj:∀{xs ys:List V} {us:List Value},Vals xs us->Vals ys us->xs=ys
 |_,_,_,.nil,.nil=>rfl
 |_,_,_,.cons r t,.cons L t'=>by rw[r.inj L,Vals.inj t t']
def lI.of {H:Hp}(h:H a=some (.lst xs)):lI K H a xs:=.inl (.inl h)
def mj.of {H:Hp}(h:H a=some (.tup xs)):mj K H a xs:=.inl (.inl h)
def Inv.list (I:Inv X U Z H s)(h:lI X.K H a xs):∃bJ:List Value,Vals xs bJ/\PlainL s.heap a bJ.toArray/\xs.length<=sizeLine:=by
 rcases h with h|⟨o,bJ,n,L,b,hd,hs,q,r⟩
 .obtain⟨z,bJ,n,r,e⟩:=h.ok I.cy;exact⟨bJ,r,⟨_,n,e,rfl,rfl,rfl⟩,z⟩
 .refine⟨bJ.toList,r,⟨o,n,I.nK a o L,b,hd,by simpa using hs⟩,?_⟩;have e:=r.length;simp only[qE]at e;omega
def Inv.tuple (I:Inv X U Z H s)(h:mj X.K H a xs):∃bJ:List Value,Vals xs bJ/\IsTup s.heap a bJ.toArray/\xs.length<=sizeLine:=by
 rcases h with h|⟨o,bJ,n,L,b,_,hs,q,r⟩
 .obtain⟨z,bJ,r,p⟩:=h.ok I.cy;exact⟨bJ,r,p.tup,z⟩
 .refine⟨bJ.toList,r,⟨o,I.nK a o L,b,n,by simpa using hs⟩,?_⟩;have e:=r.length;simp only[qE]at e;omega
def Inv.Ib (I:Inv X U Z H s)(h:lI X.K H a xs)(h':lI X.K H a ys):xs=ys:=by
 obtain⟨bJ,r,⟨o,n,e,_,_,d⟩,_⟩:=I.list h;obtain⟨tD,b,⟨M,S,L,_,_,d'⟩,_⟩:=I.list h';rw[e]at L;cases L;rw[d]at d';injection d' with q _
 have:bJ=tD:=by simpa using cF Array.toList q
 subst this;exact r.inj b
def Inv.y2 (I:Inv X U Z H s)(h:mj X.K H a xs)(h':mj X.K H a ys):xs=ys:=by
 obtain⟨bJ,r,⟨o,e,_,n,d⟩,_⟩:=I.tuple h;obtain⟨tD,b,⟨M,L,_,S,d'⟩,_⟩:=I.tuple h';rw[e]at L;cases L;rw[d]at d';injection d' with q _
 have:bJ=tD:=by simpa using cF Array.toList q
 subst this;exact r.inj b
noncomputable abbrev Cx.yL (X:Cx)(E:Value->Shared->Prop):Cx:={X with xe:=E}
abbrev Cx.HQ (X:Cx):Cx:=X.yL λ_ _=>False
theorem Cx.Ok.yL {X:Cx}(ok:X.Ok)(E:Value->Shared->Prop):(X.yL E).Ok:=
 ⟨ok.mod,ok.kind,ok.glob,ok.blt,ok.above,ok.inj,ok.has,ok.NM,ok.hd,ok.frames,ok.K_,ok.Si,ok.bs,ok.GN,ok.BA,ok.BB,ok.qY,ok.HZ⟩
def Cx.Ok.pM {X:Cx}(ok:(X.yL E).Ok):X.Ok:=
 ⟨ok.mod,ok.kind,ok.glob,ok.blt,ok.above,ok.inj,ok.has,ok.NM,ok.hd,ok.frames,ok.K_,ok.Si,ok.bs,ok.GN,ok.BA,ok.BB,ok.qY,ok.HZ⟩
theorem Inv.yL (I:Inv X U Z H s)(E:Value->Shared->Prop):Inv (X.yL E) U Z H s:=⟨I.ok.yL E,I.os,I.bare,I.base,I.loc,I.cell,I.free,I.gx,I.pin,I.cy,I.len⟩
theorem Inv.pM {X:Cx}(I:Inv (X.yL E) U Z H s):Inv X U Z H s:=⟨I.ok.pM,I.os,I.bare,I.base,I.loc,I.cell,I.free,I.gx,I.pin,I.cy,I.len⟩
theorem SP.pM {X:Cx}(h:SP (X.yL E) U D f s'):SP X U D f s':=by
 cases f with
 |next=>obtain⟨cU,H',I,q⟩:=h;exact⟨cU,H',I.pM,q⟩
 |brk=>obtain⟨cU,H',I,q⟩:=h;exact⟨cU,H',I.pM,q⟩
 |cont=>obtain⟨cU,H',I,q⟩:=h;exact⟨cU,H',I.pM,q⟩
 |ret u=>obtain⟨v,cU,H',I,r,q⟩:=h;exact⟨v,cU,H',I.pM,r,q⟩
theorem yF.HQ {X:Cx}{st:List Stmt}(h:yF X.HQ st t):yF X st t:=λU s Z H D I hw=>
 dX (h U s Z H D (I.yL _) hw) (λ_ _ q=>q.pM) λ_ _ z=>False.elim z
def S8:TS:=λD Z H=>D.nx Z H
def WE(t u:TS):TS:=λD Z H=>t {D with nx:=u D} Z H
def Fl:yF X [] S8:=λ_ _ Z H _ I h=>sW ⟨Z,H,I,h⟩
def BC(h1:PS X st t)(h2:yF X b u):yF X (st::b) (WE t u):=by
 intro U s Z H D I h;refine wpAny_execs_cons (d7 (h1 U s Z H {D with nx:=u D} I h) λf s1 q=>?_);cases f with
 |next=>
  obtain⟨L,H',r,q⟩:=q;exact h2 U s1 L H' D r q
 |_=>exact q
def Fm(h1:PS X st t):yF X [st] t:=by
 intro U s Z H D I h;refine wpAny_execs_cons (d7 (h1 U s Z H D I h) λf s1 q=>?_);cases f with
 |next=>exact sW q
 |_=>exact q
def Inv.quiet (I:Inv X U Z H s):interactive X.env=false:=by simp[interactive,I.ok.kind]
def S9(b:TE):TS:=λD Z H=>b Z H λ_ H1=>D.nx Z H1
def Fo(he:PE X e b)(hs:autoParam (swapsWith e none b9.line X.env=pure false) Rfz):PS X (.Expr e b9) (S9 b):=by
 intro U s Z H D I h;exact wpAny_Expr_any (d7 (he U s Z H _ I h) λv s1 ⟨x,H1,L,r1,q⟩=>⟨Z,H1,L,q⟩) I.quiet hs
def WG(b:TE):TS:=λD Z H=>b Z H D.rt
def Ic(he:PE X e b):PS X (.Return (some e) pos) (WG b):=by
 intro U s Z H D I h;exact wpAny_Return_some (d7 (he U s Z H _ I h) λv s1 ⟨x,H1,L,r1,q⟩=>⟨x,Z,H1,L,r1,q⟩)
def S_:TS:=λD _ H=>D.rt .bM H
def Ln:PS X (.Return none pos) S_:=λ_ _ Z H _ I h=>wpAny_Return_none ⟨.bM,Z,H,I,rfl,h⟩
def WH(c:TT)(t u:TS):TS:=λD Z H=>c Z H λb H1=>if b=true then t D Z H1 else u D Z H1
def NQ(r:PT X c M)(S:yF X a t)(hb:yF X b u):PS X (.If c a b pos) (WH M t u):=by
 intro U s Z H D I h;refine wpAny_If (d7 (r U s Z H _ I h) λd s1 ⟨H1,L,q⟩=>?_);cases d with
 |true=>exact S U s1 Z H1 D L q
 |false=>exact hb U s1 Z H1 D L q
abbrev TG:=V->St->Hp->(St->Hp->Prop)->Prop
abbrev Ta:=List V->St->Hp->(St->Hp->Prop)->Prop
def PG(X:Cx)(target:Expr)(t:TG):Prop:=
 ∀(U:List (Addr×Obj)) (s:Shared) (Z:St) (H:Hp) (v:V) (u:Value) (Q:St->Hp->Prop),Inv X U Z H s->RelV v u->t v Z H Q->
  wpAny `c X.A (assign target X.env u) (λ_ b=>∃L H',Inv X U L H' b/\Q L H') X.xe s
def Tb(X:Cx)(ts:List Expr)(t:Ta):Prop:=
 ∀(U:List (Addr×Obj)) (s:Shared) (Z:St) (H:Hp) (vs:List V) (us:List Value) (Q:St->Hp->Prop),Inv X U Z H s->Vals vs us->t vs Z H Q->
  wpAny `c X.A (assignInOrder ((assignEach ts X.env).map (·.2)) us) (λ_ b=>∃L H',Inv X U L H' b/\Q L H') X.xe s
def NR(i:Nat):TG:=λv Z H Q=>Q (Z.set i (some v)) H
def Fp{X:Cx}(hN:X.N.Nodup)(hi:X.N[aa]?=some x)(b:Loc X.env.scope x)(hf:autoParam (DH X x) Ilz):PG X (.Name x pos) (NR aa):=by
 intro U s Z H v u Q I r h;exact wpAny_assign_Name (xq I hN hi b r (λq L=>⟨_,H,L,h⟩) hf)
def WI:Ta:=λvs Z H Q=>vs=[]/\Q Z H
def Td(t:TG)(u:Ta):Ta:=λvs Z H Q=>∃v r,vs=v::r/\t v Z H λL H'=>u r L H' Q
def Lo:Tb X [] WI:=by
 intro U s Z H vs us Q I r h;obtain⟨e,h⟩:=h;subst e;cases r;exact assignInOrder_nil ⟨Z,H,I,h⟩
def Ie(h1:PG X ag t)(h2:Tb X es u)
  (hs:autoParam ((assignEach (ag::es) X.env).map (·.2)=assign ag X.env::(assignEach es X.env).map (·.2)) Rfz):Tb X (ag::es) (Td t u):=by
 intro U s Z H vs us Q I r h;obtain⟨v,vr,L,h⟩:=h;subst L;cases r with
 |cons r b=>
  rw[hs];refine assignInOrder_cons (d7 (h1 U s Z H _ _ _ I r h) λ_ s1 ⟨q,H1,M,S⟩=>?_);exact h2 U s1 q H1 _ _ Q M b S
def WJ(K:Frag)(n:Nat)(t:Ta):TG:=λv Z H Q=>∃a xs,v=.ref a/\mj K H a xs/\xs.length=n/\t xs Z H Q
def O4{X:Cx}{n:Nat}(q:X.calm=true)(h:Tb X es t)
  (M:autoParam ((assignEach es X.env).length=n) Rfz) (cJ:autoParam ((assignEach es X.env).findIdx? (·.1)=none) Rfz):PG X (.Tuple es k pos) (WJ X.K n t):=by
 intro U s Z H v u Q I r hw;obtain⟨a,xs,L,S,hl,hw⟩:=hw;subst L;cases r;obtain⟨bJ,rv,ht,hz⟩:=I.tuple S;refine assign_Tuple_tuple (I.ok.hd q) ht (by simp[M,<-hl,rv.length]) cJ λh' hx=>?_
 have I1:Inv X U Z H {s with heap:=h'}:=I.kept (t':=s.toks) λb o e=>hx b o (c_ (bC e)) e;exact h U _ Z H xs _ Q I1 (by simpa using rv) hw
def Te(b:TE)(g:TG):TS:=λD Z H=>b Z H λx H1=>g x Z H1 D.nx
def O5(he:PE X e b)(r:PG X tg g)(hs:autoParam (swapsWithSole [tg] e b9.line X.env=pure false) Rfz) (hw:autoParam (swappedStores [tg] e X.env=pure none) Rfz)
  (h1:autoParam ((assignEach [tg] X.env).map (·.2)=[assign tg X.env]) Rfz):PS X (.Assign [tg] e b9) (Te b g):=by
 intro U s Z H D I h;refine wpAny_Assign_stores (d7 (he U s Z H _ I h) λv s1 ⟨x,H1,L,r1,M⟩=>?_) hs hw;rw[h1];exact d7 (r U s1 Z H1 x v _ L r1 M) λ_ s2 q=>q
def DP{X:Cx}(hN:X.N.Nodup)(hi:X.N[aa]?=some x)(b:Loc X.env.scope x)(he:PE X e q)(hs:autoParam (swapsWith e (some (.Name x pos')) b9.line X.env=pure false) Rfz) (hf:autoParam (DH X x) Ilz):
  PS X (.Assign [.Name x pos'] e b9) (Te q (NR aa)):=by
 intro U s Z H D I h;refine wpAny_Assign_Name (d7 (he U s Z H _ I h) λv s1 ⟨y,H1,L,r1,r⟩=>?_) hs;exact xq L hN hi b r1 (λs2 M=>⟨_,H1,M,r⟩) hf
structure It where
 go:Nat->Hp->Prop
 GO:Nat->Hp->V->Hp->Prop
 stop:Nat->Hp->Prop
def pN(X:Cx)(U:List (Addr×Obj))(H:Hp)(b:Addr):Prop:=
 H b=none/\b≠X.env.locals/\b∉X.fs/\(b∈X.ex\/X.hU.heap.objs.size<=b)/\(∀x c,X.env.cells.lookup x=some c->c≠b)/\∀p∈X.pn++U,p.1≠b
def Inv.BD {H':Hp}{b:Addr}(I:Inv X U Z H s)(hb:`a<=b)(r:H' b=none):pN X U H' b:=by
 refine⟨r,h_ (dA I.lt hb),I.S3 hb,.inr (aV I.sz hb),λx c e z=>?_,λp L z=>?_⟩
 .obtain⟨v,q⟩:=I.cell x c e;exact absurd (dA q.lt (by rwa[z])) (eN _)
 .exact absurd (dA (bC (I.pin p L).1) (by rwa[z])) (eN _)
structure Turn(P:Program)(w:World)(K:Frag)(tg:Expr)(J:It)(fp:List Addr)(it:Addr)(tn:Nat->Heap->Prop):Prop where
 mem:it∈fp
 obj:∀i h,tn i h->∀b∈fp,∃o,h.get? b=some o/\∀v,o.data≠ .cell v
 keep:∀i h h',tn i h->(∀b∈fp,∀o,h.get? b=some o->h'.get? b=some o)->tn i h'
 item:∀(X:Cx),X.prog=P->X.w=w->X.K=K->X.calm=true->∀(i:Nat) (U:List (Addr×Obj)) (s:Shared) (Z:St) (H:Hp) (E:Value->Shared->Prop),Inv X U Z H s->(∀b∈fp,pN X U H b)->tn i s.heap->J.go i H->
  wpAny (model P w) X.A (pyNext (.ref it)) (λr s1=>∃u,r=some u/\
   wpAny (model P w) X.A (letOwnedTupleGo tg (.ref it) u) (λ_ s2=>∃x H',Inv X U Z H' s2/\RelV x u/\J.GO i H x H'/\tn (i+1) s2.heap/\∀b∈fp,H' b=none) E s1) E s
 done:∀(X:Cx),X.prog=P->X.w=w->X.K=K->X.calm=true->∀(i:Nat) (U:List (Addr×Obj)) (s:Shared) (Z:St) (H:Hp) (E:Value->Shared->Prop),Inv X U Z H s->(∀b∈fp,pN X U H b)->tn i s.heap->J.stop i H->
  wpAny (model P w) X.A (pyNext (.ref it)) (λr s1=>r=none/\Inv X U Z H s1) E s
 self:∀(A:Around) (i:Nat) (s:Shared) (Q:Value->Shared->Prop) (E:Value->Shared->Prop),tn i s.heap->Q (.ref it) s->wpAny (model P w) A (pyIter (.ref it)) Q E s
abbrev TI:=St->Hp->(It->Hp->Prop)->Prop
def VX(X:Cx)(U:List (Addr×Obj))(Z:St)(tg:Expr)(R:It->Hp->Prop)(q:Value)(s2:Shared):Prop:=
 ∃(it:Addr) (fp:List Addr) (tn:Nat->Heap->Prop) (J:It) (H':Hp),q=.ref it/\Inv X U Z H' s2/\Turn X.prog X.w X.K tg J fp it tn/\tn 0 s2.heap/\(∀b∈fp,pN X U H' b)/\R J H'
def PI(X:Cx)(tg c5:Expr)(b:TI):Prop:=
 ∀(U:List (Addr×Obj)) (s:Shared) (Z:St) (H:Hp) (R:It->Hp->Prop),Inv X U Z H s->b Z H R->
  wpAny `c X.A (eval c5 X.env) (λv s1=>wpAny `c X.A (pyIter v) (VX X U Z tg R) X.xe s1) X.xe s
def y3{s:Shared}{it:Addr}(q:s.heap.get? it=some o)(r:o.cls=.type n)(hd:o.data=.fields vs)
  (I:["enumerate","zip","dict_itemiterator","dict_reverseitemiterator","odict_iterator","itertools.zip_longest","itertools.pairwise"].contains n=false) (b:ac () s):wpAny M A (letOwnedTupleGo tg (.ref it) u) ac E s:=by
 unfold letOwnedTupleGo;cases tg<;>first
  |exact aR b
  |(cases u<;>first
    |exact aR b
    |(refine aH (wpAny_load q ?_)
      rw[r,hd];show wpAny M A (if(["enumerate","zip","dict_itemiterator","dict_reverseitemiterator","odict_iterator","itertools.zip_longest","itertools.pairwise"].contains n&&vs[0]?==some (rawInt _))=true then _ else _) ac E s;rw[aA (by intro h;rw[I,mU]at h;cases h)];exact aR b))
def Y5(K:Frag)(a:Addr):It:=
 ⟨λi H=>∃xs x,lI K H a xs/\xs[i]?=some x,λi H x H'=>H'=H/\∀xs,lI K H a xs->xs[i]?=some x,λi H=>∃xs,lI K H a xs/\xs.length<=i⟩
def WK(K:Frag)(a:Addr):It:=
 ⟨λi H=>∃xs x,mj K H a xs/\xs[i]?=some x,λi H x H'=>H'=H/\∀xs,mj K H a xs->xs[i]?=some x,λi H=>∃xs,mj K H a xs/\xs.length<=i⟩
def VZ(lo:Int)(n:Nat):It:=⟨λi _=>i<n,λi H x H'=>H'=H/\x=.int (lo+i),λi _=>n<=i⟩
theorem GP(a it:Addr):Turn P w K tg (Y5 K a) [it] it (λi h=>h.IsListIter it a i) where
 mem:=by simp
 obj:=λi h st b hb=>by
  have e:b=it:=by simpa using hb
  subst e;obtain⟨o,e,c,d⟩:=st;exact⟨o,e,λv z=>by rw[d]at z;cases z⟩
 keep:=λi h h' st k=>st.at λo e=>k it *...* o e
 item:=by
  intro X q hw hK hc i U s Z H E I hf st r;subst q hw hK;obtain⟨xs,x,L,hx⟩:=r;obtain⟨bJ,rv,p,hz⟩:=I.list L;obtain⟨u,hu,ru⟩:=rv.get hx;obtain⟨f0,f1,f2,M,f4,S⟩:=hf it *...*;refine wpAny_pyNext_list_item st p.isList (x:=u) (by simpa using hu) λh' z9 sb=>?_
  have I1:Inv X U Z H {s with heap:=h'}:=I.turned (t':=s.toks) (λb o hb e=>(sb.2 b hb).trans e) f0 f1 M f4 S;obtain⟨o,e,c,d⟩:=id z9;exact⟨u,rfl,y3 (s:={s with heap:=h'}) e c d ∅ ⟨x,H,I1,ru,⟨rfl,λys hy=>by rwa[I.Ib hy L]⟩,z9,λb hb=>(hf b hb).1⟩⟩
 done:=by
  intro X q hw hK hc i U s Z H E I hf st r;subst q hw hK;obtain⟨xs,L,hx⟩:=r;obtain⟨bJ,rv,p,hz⟩:=I.list L;obtain⟨f0,f1,f2,M,f4,S⟩:=hf it *...*;have hl:=rv.length;exact wpAny_pyNext_list_end (I.ok.hd hc) st p.isList (by simp;omega) λh' eb=>⟨rfl,I.turned (t':=s.toks) (λb o hb e=>eb b o hb e) f0 f1 M f4 S⟩
 self:=λ_ _ _ _ _ st h=>wpAny_pyIter_listiter st h
theorem xt(a it:Addr):Turn P w K tg (WK K a) [it] it (λi h=>h.IsTupleIter it a i) where
 mem:=by simp
 obj:=λi h st b hb=>by
  have e:b=it:=by simpa using hb
  subst e;obtain⟨o,e,c,d⟩:=st;exact⟨o,e,λv z=>by rw[d]at z;cases z⟩
 keep:=λi h h' st k=>st.at λo e=>k it *...* o e
 item:=by
  intro X q hw hK hc i U s Z H E I hf st r;subst q hw hK;obtain⟨xs,x,L,hx⟩:=r;obtain⟨bJ,rv,p,hz⟩:=I.tuple L;obtain⟨u,hu,ru⟩:=rv.get hx;obtain⟨f0,f1,f2,M,f4,S⟩:=hf it *...*;refine wpAny_pyNext_tuple_item st (show s.heap.IsTuple a bJ.toArray from p) (x:=u) (by simpa using hu) λh' z9 sb=>?_
  have I1:Inv X U Z H {s with heap:=h'}:=I.turned (t':=s.toks) (λb o hb e=>(sb.2 b hb).trans e) f0 f1 M f4 S;obtain⟨o,e,c,d⟩:=id z9;exact⟨u,rfl,y3 (s:={s with heap:=h'}) e c d ∅ ⟨x,H,I1,ru,⟨rfl,λys hy=>by rwa[I.y2 hy L]⟩,z9,λb hb=>(hf b hb).1⟩⟩
 done:=by
  intro X q hw hK hc i U s Z H E I hf st r;subst q hw hK;obtain⟨xs,L,hx⟩:=r;obtain⟨bJ,rv,p,hz⟩:=I.tuple L;obtain⟨f0,f1,f2,M,f4,S⟩:=hf it *...*;have hl:=rv.length;exact wpAny_pyNext_tuple_end (I.ok.hd hc) st (show s.heap.IsTuple a bJ.toArray from p) (by simp;omega) λh' eb=>⟨rfl,I.turned (t':=s.toks) (λb o hb e=>eb b o hb e) f0 f1 M f4 S⟩
 self:=λ_ _ _ _ _ st h=>wpAny_pyIter_tupleiter st h
theorem DQ(it:Addr)(lo:Int)(n:Nat):Turn P w K tg (VZ lo n) [it] it (λi h=>IsRangeIter h it (lo+(i:Nat)*1) ((n:Int) - (i:Nat)) 1) where
 mem:=by simp
 obj:=λi h st b hb=>by
  have e:b=it:=by simpa using hb
  subst e;exact⟨_,st,λv z=>by
   have z':Data.fields _=Data.cell v:=z;cases z'⟩
 keep:=λi h h' st k=>k it *...* _ st
 item:=by
  intro X L hw hK q i U s Z H E I hf st r;subst L hw hK;obtain⟨f0,f1,f2,M,f4,S⟩:=hf it *...*;have W:=Walks.range (prog:=X.prog) (w:=X.w) (I.ok.hd q) it lo 1 n;refine W.item i s _ _ r st λv h' tk hv z9 kk=>?_
  obtain⟨t,rfl⟩:=hv;have I1:Inv X U Z H {s with heap:=h',toks:=tk}:=I.turned (λb o hb e=>kk b o (by simpa using hb) e) f0 f1 M f4 S;refine⟨_,rfl,y3 (s:={s with heap:=h',toks:=tk}) (n:="range_iterator") z9 rfl rfl ∅ ⟨.int (lo+i),H,I1,⟨t,?_⟩,⟨rfl,rfl⟩,z9,λb hb=>(hf b hb).1⟩⟩;rw[Int.mul_one]
 done:=by
  intro X L hw hK q i U s Z H E I hf st r;subst L hw hK;obtain⟨f0,f1,f2,M,f4,S⟩:=hf it *...*;exact wpAny_pyNext_range_end (I.ok.hd q) st (by have:n<=i:=r;omega) λh' eb=>⟨rfl,I.turned (t':=s.toks) (λb o hb e=>eb b o hb e) f0 f1 M f4 S⟩
 self:=λ_ _ _ _ _ st h=>wpAny_pyIter_rangeiter st h
theorem Ig{R:It->Hp->Prop}{lo hi:Int}(I:Inv X U Z H s)(h1:-(2 ^62)<=lo)(h2:lo<2 ^62)(h3:-(2 ^62)<=hi)(h4:hi<2 ^62)
  (q:R (VZ lo (hi - lo).toNat) H):wpAny `c X.A (pyIter (.ref `a)) (VX X U Z tg R) E {s with heap:=s.heap.push {cls:=.type "range",data:=.fields #[.int lo t,.int hi u,.int 1 v]},toks:=aa}:=by
 refine wpAny_pyIter_range (IsRange.new ..) (small_one h1 h2 h3 h4) ?_
 have L:Inv X U Z H {s with heap:=s.heap.push {cls:=.type "range",data:=.fields #[.int lo t,.int hi u,.int 1 v]},toks:=aa}:=I.kept λb o e=>bY _ e;refine⟨(s.heap.push {cls:=.type "range",data:=.fields #[.int lo t,.int hi u,.int 1 v]}).objs.size,[(s.heap.push {cls:=.type "range",data:=.fields #[.int lo t,.int hi u,.int 1 v]}).objs.size],_,_,H,rfl,
  L.kept (t':=aa) λb o e=>bY _ e,DQ _ lo (hi - lo).toNat,?_,λb hb=>?_,q⟩
 .have r:lo+((0:Nat):Int)*1=lo:=by simp
  have M:(((hi - lo).toNat:Nat):Int) - ((0:Nat):Int)=Builtin.Range.rangeSize lo hi 1:=by rw[rangeSize_one];split<;>omega
  show IsRangeIter _ _ (lo+((0:Nat):Int)*1) ((((hi - lo).toNat:Nat):Int) - ((0:Nat):Int)) 1;rw[r,M];exact cA _ rfl
 .have e:b=(s.heap.push {cls:=.type "range",data:=.fields #[.int lo t,.int hi u,.int 1 v]}).objs.size:=by simpa using hb
  subst e;exact L.BD (aK _) (L.cy.fresh (aK _))
def Tf(b:TA):TI:=λZ H R=>b Z H λvs H1=>∃j:Int,vs=[.int j]/\-(2 ^62)<=j/\j<2 ^62/\R (VZ 0 j.toNat) H1
def GQ(b:Gl X "range")(hm:X.mg "range"=none)(M:PA X [ag] S)(hs:autoParam (starEach [ag] X.env=[(false,eval ag X.env)]) Rfz):PI X tg (.Call (.Name "range" p) [ag] [] pos) (Tf S):=by
 intro U s Z H R I h;refine Call_ (xr I b hm boot_range (Bu (d7 (M pos U s Z H _ I h) λus s1 ⟨vs,H1,I1,r1,L⟩=>?_) hs rfl));obtain⟨j,e,L,q2,q⟩:=L;subst e;cases r1 with
 |cons r rr=>
  cases rr;obtain⟨t,rfl⟩:=r;exact call_range_1 (Ig I1 ∎ ∎ L q2 (by simpa using q))
def WL(q:TI)(g:TG)(r:TS):TS:=λD Z H=>q Z H λJ H1=>∃W:Nat->Nat->St->Hp->Prop,(∃m,W 0 m Z H1)/\∀i m Z H,W i m Z H->
 (J.stop i H/\D.nx Z H)\/(J.go i H/\∃N:St->Hp->Prop,(∀L H',N L H'->∃b,b<m/\W (i+1) b L H')/\∀x H',J.GO i H x H'->g x Z H' λI H2=>r {D with nx:=N,ct:=N,bk:=D.nx} I H2)
def xu(fp:List Addr)(h:Heap):List (Addr×Obj):=fp.filterMap λb=>(h.get? b).map λo=>(b,o)
def nL{fp:List Addr}{h:Heap}{b:Addr}(hb:b∈fp)(e:h.get? b=some o):(b,o)∈xu fp h:=nG.mpr ⟨b,hb,by rw[e];rfl⟩
theorem GR{p:Addr×Obj}(r:p∈xu fp h):p.1∈fp/\h.get? p.1=some p.2:=by
 obtain⟨b,hb,e⟩:=nG.mp r;cases q:h.get? b with
 |none=>rw[q]at e;cases e
 |some o=>
  rw[q]at e;have L:(b,o)=p:=Option.some.inj e;subst L;exact⟨hb,q⟩
def Inv.pinned {fp:List Addr}(I:Inv X U Z H s)(hf:∀b∈fp,pN X U H b)(q:∀b∈fp,∃o,s.heap.get? b=some o/\∀v,o.data≠ .cell v):Inv X (U++xu fp s.heap) Z H s:=
 I.ke λp r=>(cE.mp r).elim (λz=>I.pin p (cX _ z)) λz=>by
   obtain⟨hb,e⟩:=GR z;obtain⟨f0,f1,f2,_⟩:=hf p.1 hb;obtain⟨o,L,d⟩:=q p.1 hb;rw[e]at L;cases L;exact⟨e,f0,f1,f2,d⟩
def Inv.tH {pl:List (Addr×Obj)}(I:Inv X (U++pl) Z H s):Inv X U Z H s:=I.ke λp L=>I.pin p (cX _ (jX _ L))
def DR{X:Cx}(hp:PassesOwn `c X.A X.env X.xe)(hc:X.calm=true)(hi:PI X tg c5 wi)(hg:PG X tg g)(hb:yF X body tb)
  (hs:∀x,foldedSetIterable c5 X.env x=pure x:=by intro _;rfl):PS X (.For tg c5 body [] pos) (WL wi g tb):=by
 intro U s Z H D I h;refine wpAny_For (d7 (hi U s Z H _ I h) λv s1 h1=>d7 h1 λVY s2 h2=>?_) hs;obtain⟨it,fp,tn,J,H2,e,I2,T,Lp,f2,W,⟨m0,w0⟩,turn⟩:=h2;subst e;have DT:∀{H':Hp},(∀b∈fp,H' b=none)->∀b∈fp,pN X U H' b:=λhn b hb=>⟨hn b hb,(f2 b hb).2⟩;refine codeAny_forLoop_any (λn s'=>∃i cU H',Inv X U cU H' s'/\tn i s'.heap/\(∀b∈fp,H' b=none)/\W i n cU H') ?_ m0 ⟨0,Z,H2,I2,Lp,λb hb=>(f2 b hb).1,w0⟩
 rintro n s3 ⟨i,Lq,H3,I3,Y6,Y7,w3⟩
 rcases turn i n Lq H3 w3 with⟨stop,qn⟩|⟨go,N,hN,step⟩
 .refine pD hp (d7 (T.done X rfl rfl rfl hc i U s3 Lq H3 X.xe I3 (DT Y7) Y6 stop) λr s4 ⟨hr,I4⟩=>?_);subst hr;exact sW ⟨Lq,H3,I4,qn⟩
 .refine pD hp (d7 (T.item X rfl rfl rfl hc i U s3 Lq H3 X.xe I3 (DT Y7) Y6 go) λr s4 ⟨u,hr,h4⟩=>?_);subst hr;refine pD hp (d7 h4 λ_ s5 ⟨x,H5,I5,r5,y5,Sl,V0⟩=>?_);have I5':=I5.pinned (DT V0) (T.obj _ _ Sl);refine pD hp (d7 (hg _ s5 Lq H5 x u _ I5' r5 (step x H5 y5)) λ_ s6 ⟨WM,H6,I6,q6⟩=>?_);refine pD hp (d7 (hb _ s6 WM H6 _ I6 q6) λf s7 S=>?_);have again:∀{L:St} {q:Hp},Inv X (U++xu fp s5.heap) L q s7->N L q->∃m,m<n/\∃i cU H',Inv X U cU H' s7/\tn i s7.heap/\(∀b∈fp,H' b=none)/\W i m cU H':=λ{L q} M n7=>by
   obtain⟨m',hm,w7⟩:=hN L q n7;refine⟨m',hm,i+1,L,q,M.tH,T.keep _ _ _ Sl λb hb o e=>(M.pin (b,o) (cX _ (cX _ (nL hb e)))).1,λb hb=>?_,w7⟩;obtain⟨o,e,d⟩:=T.obj _ _ Sl b hb;exact(M.pin (b,o) (cX _ (cX _ (nL hb e)))).2.1
  cases f with
  |next=>obtain⟨L,q,M,n7⟩:=S;exact again M n7
  |cont=>obtain⟨L,q,M,n7⟩:=S;exact again M n7
  |brk=>obtain⟨L,q,M,S⟩:=S;exact⟨L,q,M.tH,S⟩
  |ret v=>obtain⟨x7,L,q,M,r7,S⟩:=S;exact⟨x7,L,q,M.tH,r7,S⟩
abbrev R2:=V->V->Hp->VK->Prop
def sE(X:Cx)(f:Value->Value->Sem Value)(r:R2):Prop:=
 ∀(U:List (Addr×Obj)) (s:Shared) (Z:St) (H:Hp) (x y:V) (v u:Value) (Q:VK),Inv X U Z H s->RelV x v->RelV y u->r x y H Q->
  wpAny `c X.A (f v u) (EP X U Z Q) X.xe s
def WN(X:Cx)(f:Value->Sem Value)(r:V->Hp->VK->Prop):Prop:=
 ∀(U:List (Addr×Obj)) (s:Shared) (Z:St) (H:Hp) (x:V) (v:Value) (Q:VK),Inv X U Z H s->RelV x v->r x H Q->
  wpAny `c X.A (f v) (EP X U Z Q) X.xe s
def gZ(X:Cx)(f:Value)(r:List V->Hp->VK->Prop):Prop:=
 ∀(U:List (Addr×Obj)) (s:Shared) (Z:St) (H:Hp) (xs:List V) (us:List Value) (Q:VK),Inv X U Z H s->Vals xs us->r xs H Q->
  wpAny `c X.A (call f us) (EP X U Z Q) X.xe s
def WO(X:Cx)(r:V->Hp->(Bool->Hp->Prop)->Prop):Prop:=
 ∀(U:List (Addr×Obj)) (s:Shared) (Z:St) (H:Hp) (x:V) (v:Value) (Q:Bool->Hp->Prop),Inv X U Z H s->RelV x v->r x H Q->
  wpAny `c X.A (truthy v) (TP X U Z Q) X.xe s
def O6(r:R2)(b q:TE):TE:=λZ H Q=>b Z H λx H1=>q Z H1 λy H2=>r x y H2 Q
def tUn(r:V->Hp->VK->Prop)(b:TE):TE:=λZ H Q=>b Z H λx H1=>r x H1 Q
def rI(C:Int->Int->Prop)(g:Int->Int->V):R2:=λx y H Q=>∃i j,x=.int i/\y=.int j/\C i j/\Q (g i j) H
def NS(g:Int->Int->V):R2:=λx y H Q=>∃i j,x=.int i/\y=.int j/\Q (g i j) H
def rU(g:Int->V):V->Hp->VK->Prop:=λx H Q=>∃i,x=.int i/\Q (g i) H
def O7(q:PE X a r)(hb:PE X b M){R:V->V->Hp->Prop}(I:Inv X U Z H s)
  (h:r Z H λx H1=>M Z H1 λy H2=>R x y H2) {f:Value->Value->Sem Value}
  (hf:∀v u s2 x y H2,Inv X U Z H2 s2->RelV x v->RelV y u->R x y H2->wpAny `c X.A (f v u) Q X.xe s2):
  wpAny `c X.A (eval a X.env) (λv S=>wpAny `c X.A (eval b X.env) (λu yM=>wpAny `c X.A (f v u) Q X.xe yM) X.xe S) X.xe s:=by
 refine d7 (q U s Z H _ I h) λv s1 ⟨x,H1,L,r1,q1⟩=>?_
 refine d7 (hb U s1 Z H1 _ L q1) λu s2 ⟨y,H2,I2,r2,q2⟩=>?_
 exact hf v u s2 x y H2 I2 r1 r2 q2
def Tg(M:sE X (binaryOp op) r)(S:PE X a ta)(hb:PE X b tb):PE X (.BinOp a op b pos) (O6 r ta tb):=by
 intro U s Z H Q I h;exact wpAny_BinOp (O7 S hb I h λv u s2 x y H2 L rx ry q=>M U s2 Z H2 x y v u Q L rx ry q)
def Th(b:WN X (unaryOp op) r)(q:PE X a M):PE X (.UnaryOp op a pos) (tUn r M):=by
 intro U s Z H Q I h;exact UnaryOp_ (d7 (q U s Z H _ I h) λv s1 ⟨x,H1,L,r1,S⟩=>b U s1 Z H1 x v Q L r1 S)
def Y8{X:Cx}{f:Value->Value->Sem Value}{C:Int->Int->Prop}{g:Int->Int->Int}
  (rule:∀(i j:Int) (t u:Tok) (s:Shared) (Q:Value->Shared->Prop) (E:Value->Shared->Prop),C i j->Q (.int (g i j) s.toks) {s with toks:=s.toks+1}->wpAny `c X.A (f (.int i t) (.int j u)) Q E s):
  sE X f (rI C λi j=>.int (g i j)):=by
 intro U s Z H x y v u Q I L b h;obtain⟨i,j,rfl,rfl,r,q⟩:=h;obtain⟨t,rfl⟩:=L;obtain⟨t',rfl⟩:=b;exact rule i j t t' s _ _ r ⟨.int (g i j),H,I.tok _,⟨_,rfl⟩,q⟩
def Ti{X:Cx}{f:Value->Value->Sem Value}{g:Int->Int->Int}
  (rule:∀(i j:Int) (t u:Tok) (s:Shared) (Q:Value->Shared->Prop) (E:Value->Shared->Prop),Q (.int (g i j) s.toks) {s with toks:=s.toks+1}->wpAny `c X.A (f (.int i t) (.int j u)) Q E s):
  sE X f (NS λi j=>.int (g i j)):=by
 intro U s Z H x y v u Q I L b h;obtain⟨i,j,rfl,rfl,q⟩:=h;obtain⟨t,rfl⟩:=L;obtain⟨t',rfl⟩:=b;exact rule i j t t' s _ _ ⟨.int (g i j),H,I.tok _,⟨_,rfl⟩,q⟩
def Lr{X:Cx}{f:Value->Value->Sem Value}{g:Int->Int->Bool}
  (rule:∀(i j:Int) (t u:Tok) (s:Shared) (Q:Value->Shared->Prop) (E:Value->Shared->Prop),Q (.bool (g i j)) s->wpAny `c X.A (f (.int i t) (.int j u)) Q E s):
  sE X f (NS λi j=>.bl (g i j)):=by
 intro U s Z H x y v u Q I L b h;obtain⟨i,j,rfl,rfl,q⟩:=h;obtain⟨t,rfl⟩:=L;obtain⟨t',rfl⟩:=b;exact rule i j t t' s _ _ ⟨.bl (g i j),H,I,rfl,q⟩
def Ii(i j:Int):Prop:=(-(2 ^64)<i/\i<2 ^64)\/(-(2 ^64)<j/\j<2 ^64)
def Ii.ok (h:Ii i j):IntMulOk i j:=by
 rcases h with⟨h1,h2⟩|⟨h1,h2⟩
 .exact .of_left (intBits_le_64 h1 h2)
 .exact .of_right (intBits_le_64 h1 h2)
def O8:sE X (binaryOp .Add) (NS λi j=>.int (i+j)):=Ti λ_ _ _ _ _ _ _ q=>add_int q
def O9:sE X (binaryOp .Sub) (NS λi j=>.int (i - j)):=Ti λ_ _ _ _ _ _ _ q=>sub_int q
def O_:sE X (binaryOp .Mult) (rI Ii λi j=>.int (i*j)):=Y8 λ_ _ _ _ _ _ _ L q=>mul_int q L.ok
def Pa:sE X (binaryOp .Mod) (rI (λ_ j=>0<j) λi j=>.int (i % j)):=Y8 λi j _ _ _ _ _ L q=>by
 have h1:(0:Int)<j:=L;exact mod_int' ∎ (by rwa[Int.fmod_eq_emod_of_nonneg i ∎])
def unI{X:Cx}{f:Value->Sem Value}{g:Int->Int}
  (rule:∀(i:Int) (t:Tok) (s:Shared) (Q:Value->Shared->Prop) (E:Value->Shared->Prop),Q (.int (g i) s.toks) {s with toks:=s.toks+1}->wpAny `c X.A (f (.int i t)) Q E s):
  WN X f (rU λi=>.int (g i)):=by
 intro U s Z H x v Q I L h;obtain⟨i,rfl,q⟩:=h;obtain⟨t,rfl⟩:=L;exact rule i t s _ _ ⟨.int (g i),H,I.tok _,⟨_,rfl⟩,q⟩
def Pb:WN X (unaryOp .USub) (rU λi=>.int (-i)):=unI λ_ _ _ _ _ q=>neg_int q
def pO{Q:VK}{b:Bool}(I:Inv X U Z H s)(q:Q (.bl k) H)(e:k=b):EP X U Z Q (.bool b) s:=by
 subst e;exact⟨.bl k,H,I,rfl,q⟩
def Tj:sE X (compareOp .Lt) (NS λi j=>.bl (decide (i<j))):=Lr λ_ _ _ _ _ _ _ q=>lt_int q
def Tn:sE X (compareOp .LtE) (NS λi j=>.bl (decide (i<=j))):=Lr λ_ _ _ _ _ _ _ q=>le_int q
def To:sE X (compareOp .Gt) (NS λi j=>.bl (decide (j<i))):=Lr λ_ _ _ _ _ _ _ q=>gt_int q
def Tp:sE X (compareOp .GtE) (NS λi j=>.bl (decide (j<=i))):=Lr λ_ _ _ _ _ _ _ q=>ge_int q
def GS:sE X (compareOp .Lt) (λx y H Q=>∃i j,x=.str i/\y=.str j/\Q (.bl (decide (i.cps.toList<j.cps.toList))) H):=by
 intro U s Z H x y v u Q I L b h;obtain⟨i,j,rfl,rfl,q⟩:=h;obtain⟨t,rfl⟩:=L;obtain⟨t',rfl⟩:=b;exact lt_str (pO I q rfl)
def GU:sE X (compareOp .In) (λx y H Q=>∃i j,x=.str i/\y=.str j/\Q (.bl (!(Builtin.Str.occurrences j i 0 j.length 1).isEmpty)) H):=by
 intro U s Z H x y v u Q I L b h;obtain⟨i,j,rfl,rfl,q⟩:=h;obtain⟨t,rfl⟩:=L;obtain⟨t',rfl⟩:=b;exact in_str (pO I q rfl)
def Pc:sE X (compareOp .Is) (λx y H Q=>y=.bM/\Q (.bl (decide (x=.bM))) H):=by
 intro U s Z H x y v u Q I L b h;obtain⟨rfl,q⟩:=h;cases b;refine is_none_gen (pO I q ?_);cases x<;>first
  |(cases L;rfl)
  |(obtain⟨t,rfl⟩:=L;rfl)
def Ls:sE X (compareOp .IsNot) (λx y H Q=>y=.bM/\Q (.bl (!decide (x=.bM))) H):=by
 intro U s Z H x y v u Q I L b h;obtain⟨rfl,q⟩:=h;cases b;refine isnot_none_gen (pO I q ?_);cases x<;>first
  |(cases L;rfl)
  |(obtain⟨t,rfl⟩:=L;rfl)
def z_:sE X (compareOp .NotIn) (λx y H Q=>∃i j,x=.str i/\y=.str j/\Q (.bl (!(!(Builtin.Str.occurrences j i 0 j.length 1).isEmpty))) H):=by
 intro U s Z H x y v u Q I L b h;obtain⟨i,j,rfl,rfl,q⟩:=h;obtain⟨t,rfl⟩:=L;obtain⟨t',rfl⟩:=b;exact notIn_str (pO I q rfl)
def Ij(b:Expr){op:CmpOp}(h:autoParam (op≠ .In) Dcz) (h2:autoParam (op≠ .NotIn) Dcz):behindInMarks op b=false:=by
 have L:(op==CmpOp.In)=false:=by cases op<;>first|rfl|exact absurd rfl h
 have q:(op==CmpOp.NotIn)=false:=by cases op<;>first|rfl|exact absurd rfl h2
 cases b<;>simp[behindInMarks,L,q]
def Lu(M:sE X (compareOp op) r)(S:PE X a ta)(hb:PE X b tb)(hm:behindInMarks op b=false):PE X (.Compare a [op] [b] pos) (O6 r ta tb):=by
 intro U s Z H Q I h;exact wpAny_Compare1 (O7 S hb I h λv u s2 x y H2 L rx ry q=>M U s2 Z H2 x y v u Q L rx ry q) hm
def Tq(t:TE):TT:=λZ H Q=>t Z H λx H'=>∃k,x=.bl k/\Q k H'
def Lv(q:sE X (compareOp op) r)(M:PE X a S)(hb:PE X b tb)(hm:behindInMarks op b=false):PT X (.Compare a [op] [b] pos) (Tq (O6 r S tb)):=by
 intro U s Z H Q I h;refine wpAny_isTrue_Compare1 (d7 (M U s Z H _ I h) λv s1 ⟨x,H1,L,r1,q1⟩=>d7 (hb U s1 Z H1 _ L q1) λu s2 ⟨y,H2,I2,r2,q2⟩=>
  d7 (q U s2 Z H2 x y v u _ I2 r1 r2 q2) λc s3 ⟨z,H3,I3,r3,k,e,q3⟩=>?_) hm
 subst e;cases r3;exact kz ⟨H3,I3,q3⟩
def Lw(K:Frag)(x:V)(H:Hp)(k:Bool):Prop:=
 match x with
 |.bM=>k=false
 |.bl b=>k=b
 |.int i=>k=(i !=0)
 |.str y=>y.length<=sizeLine/\k=((y.length:Int) !=0)
 |.NK y=>y.size<=sizeLine/\k=((y.size:Int) !=0)
 |.ref p=>(∃xs,lI K H p xs/\k=!xs.isEmpty)\/(∃xs,mj K H p xs/\k=!xs.isEmpty)\/∃kvs,Rd H p (.dK kvs)/\k=!kvs.isEmpty
 |_=>False
def DU{kvs:List (α×V)}{vs:List (α×Value)}(r:KV kvs vs):(!vs.isEmpty)=!kvs.isEmpty:=by
 cases r<;>rfl
def xw(r:Vals xs bJ):(!bJ.toArray.isEmpty)=!xs.isEmpty:=by
 cases r<;>simp
def xx:(sizeLine:Nat)<2 ^63:=by rw[eO];decide
def Ik:WO X (λx H Q=>∃k,Lw X.K x H k/\Q k H):=by
 intro U s Z H x v Q I M h;obtain⟨k,e,q⟩:=h;have hl:=xx;have hs:sizeLine=16777216:=eO;cases x with
 |bM=>
  cases M;have L:k=false:=e;subst L;exact truthy_none ⟨H,I,q⟩
 |bl b=>
  cases M;have L:k=b:=e;subst L;exact kz ⟨H,I,q⟩
 |int i=>
  obtain⟨t,rfl⟩:=M;have L:k=(i !=0):=e;subst L;exact PySem.P.truthy_int ⟨H,I,q⟩
 |str y=>
  obtain⟨t,rfl⟩:=M;obtain⟨hy,L⟩:y.length<=sizeLine/\k=((y.length:Int) !=0):=e;subst L;exact PySem.P.truthy_str ∎ ⟨H,I.tok _,q⟩
 |NK y=>
  obtain⟨t,rfl⟩:=M;obtain⟨hy,L⟩:y.size<=sizeLine/\k=((y.size:Int) !=0):=e;subst L;exact PySem.W.truthy_bytes ∎ ⟨H,I.tok _,q⟩
 |ref p=>
  cases M;have L:(∃xs,lI X.K H p xs/\k=!xs.isEmpty)\/(∃xs,mj X.K H p xs/\k=!xs.isEmpty)\/∃kvs,Rd H p (.dK kvs)/\k=!kvs.isEmpty:=e;rcases L with⟨xs,S,L⟩|⟨xs,S,L⟩|⟨kvs,S,L⟩
  .subst L;obtain⟨bJ,r,pl,hz⟩:=I.list S;have c4:=r.length;exact wpAny_truthy_list pl.isList (by simp only[cx];omega) ⟨H,I.tok _,by rwa[xw r]⟩
  .subst L;obtain⟨bJ,r,pl,hz⟩:=I.tuple S;have c4:=r.length;exact truthy_tuple pl (by simp only[cx];omega) ⟨H,I.tok _,by rwa[xw r]⟩
  .subst L;obtain⟨hz,hS,vs,r,m⟩:kvs.length<=sizeLine/\(p==sysModules)=false/\∃vs,KV kvs vs/\s.heap.DictOf (bI X.prog X.w) p vs:=S.ok I.cy;have c4:kvs.length=vs.length:=Paired.length r;exact wpAny_truthy_dict hS m ∎ ⟨H,I.tok _,by rwa[DU r]⟩
 |_=>exact fe e
def BE(b:PE X a q)(he:∀whole,isTrue a X.env whole=(do let v<-whole;standAt a.pos;holding [v] (truthy v))):
  PT X a (λZ H Q=>q Z H λx H'=>∃k,Lw X.K x H' k/\Q k H'):=by
 intro U s Z H Q I h;exact isTrue_plain (d7 (b U s Z H _ I h) λv s1 ⟨x,H1,L,r1,r⟩=>Ik U s1 Z H1 x v Q L r1 r) (he _)
def DV:sE X (binaryOp .Add) (λx y H Q=>∃i j,x=.str i/\y=.str j/\i.length+j.length<=sizeLine/\Q (.str (i++j)) H):=by
 intro U s Z H x y v u Q I L b h;obtain⟨i,j,rfl,rfl,r,q⟩:=h;obtain⟨t,rfl⟩:=L;obtain⟨t',rfl⟩:=b;exact add_str (λt' M=>⟨.str (i++j),H,I.tok _,⟨_,rfl⟩,q⟩) r
def vals1{x:V}(r:Vals [x] us):∃u,us=[u]/\RelV x u:=by
 cases r with
 |cons r1 L=>cases L;exact⟨_,rfl,r1⟩
def vals2{x y:V}(r:Vals [x,y] us):∃u w',us=[u,w']/\RelV x u/\RelV y w':=by
 cases r with
 |cons r1 L=>
  cases L with
  |cons b q=>cases q;exact⟨_,_,rfl,r1,b⟩
def GV{X:Cx}(b:X.calm=true):gZ X (.builtin "max") (λxs H Q=>∃i j,xs=[.int i,.int j]/\Q (.int (if j>i then j else i)) H):=by
 intro U s Z H xs us Q I r h;obtain⟨i,j,rfl,q⟩:=h;obtain⟨u,M,rfl,⟨t,rfl⟩,⟨t',rfl⟩⟩:=vals2 r;refine max_two_ints (I.ok.hd b) λh' S k=>⟨_,H,I.kept k,?_,q⟩;by_cases L:j>i
 .rw[av L,av L];exact⟨_,rfl⟩
 .rw[aA L,aA L];exact⟨_,rfl⟩
def y4:gZ X (.type "int") (λxs H Q=>(∃i,xs=[.int i]/\Q (.int i) H)\/∃k,xs=[.bl k]/\Q (.int (if k then 1 else 0)) H):=by
 intro U s Z H xs us Q I r h;rcases h with⟨i,rfl,q⟩|⟨k,rfl,q⟩
 .obtain⟨u,rfl,t,rfl⟩:=vals1 r;exact call_int_int ⟨.int i,H,I,⟨_,rfl⟩,q⟩
 .obtain⟨u,rfl,r1⟩:=vals1 r;cases r1;exact call_int_bool ⟨.int (if k then 1 else 0),H,I.tok _,⟨_,rfl⟩,q⟩
def WQ(K:Frag)(x:V)(H:Hp)(n:Nat):Prop:=
 match x with
 |.str y=>y.length<=sizeLine/\n=y.length
 |.NK y=>y.size<=sizeLine/\n=y.size
 |.ref p=>(∃xs,lI K H p xs/\n=xs.length)\/∃xs,mj K H p xs/\n=xs.length
 |_=>False
def tK:gZ X (.builtin "len") (λxs H Q=>∃x n,xs=[x]/\WQ X.K x H n/\Q (.int n) H):=by
 intro U s Z H xs us Q I r h;obtain⟨x,n,rfl,e,q⟩:=h;obtain⟨u,rfl,b⟩:=vals1 r;have hl:=xx;have hs:sizeLine=16777216:=eO;cases x with
 |str y=>
  obtain⟨t,rfl⟩:=b;obtain⟨hy,L⟩:y.length<=sizeLine/\n=y.length:=e;subst L;exact len_str ∎ ⟨.int _,H,I.tok _,⟨_,rfl⟩,q⟩
 |NK y=>
  obtain⟨t,rfl⟩:=b;obtain⟨hy,L⟩:y.size<=sizeLine/\n=y.size:=e;subst L;exact PySem.W.len_bytes ∎ ⟨.int _,H,I.tok _,⟨_,rfl⟩,q⟩
 |ref p=>
  cases b;have L:(∃xs,lI X.K H p xs/\n=xs.length)\/∃xs,mj X.K H p xs/\n=xs.length:=e;rcases L with⟨xs,M,L⟩|⟨xs,M,L⟩
  .subst L;obtain⟨bJ,S,pl,hz⟩:=I.list M;have c4:=S.length;exact Calls.call_len_list pl.isList (by simp only[cx];omega) ⟨.int xs.length,H,I.tok _,⟨_,by simp only[cx];rw[c4]⟩,q⟩
  .subst L;obtain⟨bJ,S,pl,hz⟩:=I.tuple M;have c4:=S.length;exact len_tuple pl (by simp only[cx];omega) ⟨.int xs.length,H,I.tok _,⟨_,by simp only[cx];rw[c4]⟩,q⟩
 |_=>exact fe e
structure DW(h:Heap)(x dx C:Addr)(mA:Str->Option Value):Prop where
 obj:h.get? x=some (PySem.W.instObj C dx)
 ns:h.Ns1 dx mA
 ne:dx≠x
def GW(n:h'.Ns1 dx mA):∃b,h'.get? dx=some b/\∀name,PySem.W.lookIn name b=some (mA name):=by
 obtain⟨o,es,ep,L,hd,r,_,hm⟩:=n;refine⟨o,L,λname=>?_⟩;have e:=hm name;unfold nsFind findBy at e;rw[<-Array.find?_toList]at e;unfold PySem.W.lookIn;rw[hd];dsimp only;split
 .rename_i y q;rw[q]at e;exact cF some e
 .rename_i q;rw[q]at e;have a:es.toList.any (·.refKey)=false:=by
   rw[wV];intro y I;obtain⟨z,t,M⟩:=r y (Array.mem_toList_iff.mp I);simp[DictEntry.refKey,M]
  have S:¬es.toList.any (·.refKey)=true:=by rw[a];exact hX
  rw[aA S];exact cF some e
def DW.look (I:DW h x dx C mA):∃b,PySem.W.InstAt h x (PySem.W.instObj C dx) C (some b)/\∀name,PySem.W.lookIn name b=some (mA name):=
 let⟨b,L,q⟩:=GW I.ns
 ⟨b,⟨I.obj,rfl,rfl,L⟩,q⟩
def get_map{s:Shared}(X:K.In s.heap)(I:DW s.heap x dx C mA)(b:PySem.W.plainGet K C name=true)(q:PySem.W.hasDictIn K C=true)
  (r:PySem.W.findIn K (.ref C) name=some none) (M:mA name=some v) (S:PySem.W.handedIn v=true) (h:ae v {s with toks:=s.toks+1}):
  wpAny (model prog w) A (getAttr (.ref x) name expr) ae E s:=by
 obtain⟨od,J,L⟩:=I.look;exact PySem.W.get_value X J (pf b).1 (PySem.W.findObj_own q r rfl (by rw[L,M])) S h
def Il{s:Shared}{Q:Value×List Value->Shared->Prop}(X:K.In s.heap)(I:DW s.heap x dx C mA)(b:PySem.W.plainGet K C name=true)
  (hf:PySem.W.findIn K (.ref C) name=some (some (.ref f))) (q:PySem.W.isFn K (.ref f)=true) (r:mA name=none) (h:Q (.ref f,[.ref x]) s):
  wpAny (model prog w) A (getMethod (.ref x) name pl) Q E s:=by
 obtain⟨L,J,M⟩:=I.look;exact PySem.W.method_fn X J (pf b).1 (pf b).2 hf (fF.mp q) (by show(PySem.W.lookIn name L).map (·.isSome)=some false;rw[M,r];rfl) h
def Lx{s:Shared}(X:K.In s.heap)(I:DW s.heap x dx C mA)
  (hs:PySem.W.findIn K (.ref C) "__setattr__"=some (some (.builtin "object.__setattr__"))) (hp:PySem.W.plainOver K C=true) (ht:PySem.W.takerIn K C name=some none) (hh:PySem.W.hasDictIn K C=true)
  (hw:PySem.Within mA ns) (hsz:ns.length<=sizeLine)
  (h:∀h',DW h' x dx C (λy=>if y=name then some v else mA y)->Heap.SameBut dx s.heap h'->ac () {s with heap:=h',toks:=s.toks+2}):
  wpAny (model prog w) A (setAttr (.ref x) name v) ac E s:=by
 obtain⟨od,J,hl⟩:=I.look;refine PySem.W.set_plain X J hs (PySem.W.osa_open (s:={s with toks:=s.toks+1}) (r:=none) X J hp ht λb=>?_);obtain⟨cd,hc,Ll⟩:=PySem.W.any_some hh;have hx:s.heap.get? x=some ⟨.ref C,some dx,.plain,#[]⟩:=I.obj;refine aH (aR (aH (aH (wpAny_loadPart hx (aH (PySem.W.Looks.here (s:={s with toks:=s.toks+1}) (PySem.W.looks_clsIn X hc) ?_))))));rw[Ll];refine aR (a:=some dx) (aH (aR (aH ?_)));refine wpAny_nsSet1 (s:={s with toks:=s.toks+1}) I.ns λh' S Y9=>?_
 obtain⟨oD,esD,epD,L,q,M⟩:=S.count (PySem.Within.cons name v hw);refine aH (wpAny_lookBehind L (by rw[q];exact pastItsLine_dict (aV M (by rw[cY];omega))) ?_);exact aR (h _ ⟨(Y9.2 _ (Ne.symm I.ne)).trans I.obj,S,I.ne⟩ Y9)
def Im{A:Around}{s:Shared}{kw:List (Str×Value)}(X:K.In s.heap)(hm:PySem.W.makesIn K C=true)
  (hi:PySem.W.findIn K (.ref C) "__init__"=some (some (.ref f))) (hf:PySem.W.typeIn K (.ref f)=some (.type "function"))
  (h:codeAny (model prog w) (A.under (.builtin "type.__call__" ⟨.ref C::ah,kw⟩)) (.call (.ref f) ⟨.ref (`a+1)::ah,kw⟩) (PySem.W.InitBack (`a+1) R)
   {s with heap:=(s.heap.push PySem.W.emptyDict).push (PySem.W.instObj C `a)}):
  codeAny (model prog w) A (.call (.ref C) ⟨ah,kw⟩) R s:=by
 obtain⟨L,g,d,t,os⟩:=s;exact PySem.W.make_core (PySem.W.makes_of X hm) (sX X hi) (λself=>PySem.W.bind_fn X self hf) (.inl rfl) h
noncomputable def m5(f:Str)(v:V):List (Str×V)->List (Str×V)
 |[]=>[(f,v)]
 |(g,x)::r=>if g=f then(g,v)::r else(g,x)::m5 f v r
theorem vh(f g:Str)(v:V):∀fs:List (Str×V),(m5 f v fs).lookup g=if g=f then some v else fs.lookup g
 |[]=>by
  show List.lookup g [(f,v)]=_;by_cases h:g=f
  .have hb:(g==f)=true:=fF.mpr h;simp only[List.lookup,hb,av h]
  .have hb:(g==f)=false:=gG.mpr h;simp only[List.lookup,hb,aA h]
 |(k,x)::r=>by
  have b:=vh f g v r;rw[show m5 f v ((k,x)::r)=(if k=f then(k,v)::r else(k,x)::m5 f v r)from rfl];by_cases L:k=f
  .rw[av L];by_cases h:g=k
   .have hb:(g==k)=true:=fF.mpr h;simp only[List.lookup,hb,av (h.trans L)]
   .have hb:(g==k)=false:=gG.mpr h;simp only[List.lookup,hb,aA (λe:g=f=>h (e.trans L.symm))]
  .rw[aA L];by_cases h:g=k
   .have hb:(g==k)=true:=fF.mpr h;simp only[List.lookup,hb,aA (λe:g=f=>L (h.symm.trans e))]
   .have hb:(g==k)=false:=gG.mpr h;simp only[List.lookup,hb];exact b
theorem uJ(f:Str)(v:V):∀fs:List (Str×V),f∈(m5 f v fs).map (·.1)/\∀g,g∈fs.map (·.1)->g∈(m5 f v fs).map (·.1)
 |[]=>⟨by simp[m5],λg h=>by simp at h⟩
 |(k,x)::r=>by
  obtain⟨b,q⟩:=uJ f v r;rw[show m5 f v ((k,x)::r)=(if k=f then(k,v)::r else(k,x)::m5 f v r)from rfl];by_cases L:k=f
  .rw[av L];subst L;exact⟨by simp,λg h=>by simpa using h⟩
  .rw[aA L];refine⟨?_,λg h=>?_⟩
   .rw[a_];exact bG _ b
   .rw[a_]at h⊢;rcases aZ.mp h with e|e
    .exact aZ.mpr (.inl e)
    .exact bG _ (q g e)
theorem vi(f:Str)(v:V):∀fs:List (Str×V),(m5 f v fs).length<=fs.length+1
 |[]=>by simp[m5]
 |(k,x)::r=>by
  have b:=vi f v r;rw[show m5 f v ((k,x)::r)=(if k=f then(k,v)::r else(k,x)::m5 f v r)from rfl];by_cases L:k=f
  .rw[av L,cY,cY];omega
  .rw[aA L,cY,cY];omega
def mi.some_of (r:mi (some v) o):∃u,o=some u/\RelV v u:=by
 cases o with
 |none=>exact fe r
 |some u=>exact⟨u,rfl,r⟩
def mi.none_of (r:mi none o):o=none:=by
 cases o with
 |none=>rfl
 |some u=>exact fe r
theorem GX(r:RelV v u):PySem.W.handedIn u=true:=by
 cases v with
 |bM=>cases(show u=Value.none from r);rfl
 |bl b=>cases(show u=Value.bool b from r);rfl
 |int i=>obtain⟨t,e⟩:=(show∃t,u=Value.int i t from r);cases e;rfl
 |str x=>obtain⟨t,e⟩:=(show∃t,u=Value.str x t from r);cases e;rfl
 |NK b=>obtain⟨t,e⟩:=(show∃t,u=Value.bytes b t from r);cases e;rfl
 |vM b=>obtain⟨t,e⟩:=(show∃t,u=Value.float b t from r);cases e;rfl
 |ref a=>cases(show u=Value.ref a from r);rfl
 |ty n=>cases(show u=Value.type n from r);rfl
def tL(b:rP P w H h)(e:H a=some (.ins C dx fs)):∃mA,DW h a dx C mA/\(∀f,mi (fs.lookup f) (mA f))/\PySem.Within mA (fs.map (·.1))/\fs.length<=1000/\H dx=some (.own a):=by
 obtain⟨d,z,ne,ob,mA,n,r,q⟩:=(show cB P w H h a (.ins C dx fs)from b a _ e);exact⟨mA,⟨ob,n,ne⟩,r,q,z,d⟩
structure DX(K:Frag)(C:Addr):Prop where
 pg:PySem.W.plainGet K C Str.empty=true
 hd:PySem.W.hasDictIn K C=true
 po:PySem.W.plainOver K C=true
 sa:PySem.W.findIn K (.ref C) "__setattr__"=some (some (.builtin "object.__setattr__"))
def DX.get (c:DX K C)(f:Str):PySem.W.plainGet K C f=true:=c.pg
def rQ(K:Frag)(C:Addr)(f:Str):Prop:=PySem.W.findIn K (.ref C) f=some none
def rQ.Ts (n:rQ K C f):PySem.W.takerIn K C f=some none:=by
 unfold PySem.W.takerIn;rw[show PySem.W.findIn K (.ref C) f=some none from n]
 rfl
structure Meth(K:Frag)(C:Addr)(m:Str)(f:Addr):Prop where
 at_:PySem.W.findIn K (.ref C) m=some (some (.ref f))
 fn:PySem.W.isFn K (.ref f)=true
 kp:PySem.W.keepIn K (.ref f)=true
def DY(I:Inv X U Z H s)(e:H a=some (.ins C dx fs))(c:DX X.K C)(n:rQ X.K C f)(l:fs.lookup f=some v)
  (h:∀u q,Inv X U Z H q->RelV v u->ae u q):wpAny `c A (getAttr (.ref a) f b) ae E s:=by
 obtain⟨mA,O,r,_,_,_⟩:=tL I.cy e;obtain⟨u,M,L⟩:=mi.some_of (v:=v) (o:=mA f) (by rw[<-l];exact r f);exact get_map I.nK O (c.get f) c.hd n M (GX L) (h u _ (I.tok _) L)
def xy{Q:Value×List Value->Shared->Prop}(I:Inv X U Z H s)(e:H a=some (.ins C dx fs))(c:DX X.K C)(k:Meth X.K C m g)(l:fs.lookup m=none)
  (h:Q (.ref g,[.ref a]) s):wpAny `c A (getMethod (.ref a) m pl) Q E s:=by
 obtain⟨mA,O,r,_,_,_⟩:=tL I.cy e;have L:mA m=none:=mi.none_of (by rw[<-l];exact r m);exact Il I.nK O (c.get m) k.at_ k.fn L h
def DZ(I:Inv X U Z H s)(e:H a=some (.ins C dx fs))(c:DX X.K C)(n:rQ X.K C f)(hl:fs.length<1000)(ry:RelV y u)
  (h:∀M,Inv X U Z (upd H a (.ins C dx (m5 f y fs))) M->ac () M):wpAny `c A (setAttr (.ref a) f u) ac E s:=by
 obtain⟨mA,O,r,S,_,ho⟩:=tL I.cy e;have hz:(fs.map (·.1)).length<=sizeLine:=by rw[aP,eO];omega
 refine Lx I.nK O c.sa c.po n.Ts c.hd S hz λh' L sb=>h _ ?_
 have hd:∃o,h'.get? dx=some o:=let⟨o,_,_,e',_⟩:=L.ns;⟨o,e'⟩
 refine I.write (x:=a) (e:=dx) (by rw[e];exact True.intro) (.inr ho) (λb q hb z=>(sb.2 b hb).trans z) hd ?_
 refine⟨by rwa[aM O.ne],?_,O.ne,L.obj,_,L.ns,λg=>?_,λg hg=>?_⟩
 .have:=vi f y fs;omega
 .show mi ((m5 f y fs).lookup g) (if g=f then some u else mA g);rw[vh];by_cases q:g=f
  .rwa[av q,av q]
  .rw[aA q,aA q];exact r g
 .by_cases q:g=f
  .rw[q];exact(uJ f y fs).1
  .refine(uJ f y fs).2 g (S g λz=>hg ?_);show(if g=f then some u else mA g)=none;rwa[aA q]
theorem Inv.made (I:Inv X U Z H s):Inv X U Z (upd (upd H `a (.own (`a+1))) (`a+1) (.ins C `a []))
  {s with heap:=(s.heap.push PySem.W.emptyDict).push (PySem.W.instObj C `a)}:=by
 have L:(s.heap.push PySem.W.emptyDict).get? `a=some PySem.W.emptyDict:=cA s.heap rfl;have r:((s.heap.push PySem.W.emptyDict).push (PySem.W.instObj C `a)).get? (`a+1)=some (PySem.W.instObj C `a):=by
  have:=cA (s.heap.push PySem.W.emptyDict) (o:=PySem.W.instObj C `a) rfl;rwa[jr]at this
 have M:(s.heap.push PySem.W.emptyDict).Ns `a (λ_=>none):=⟨PySem.W.emptyDict,#[],_,L,rfl,(λe he=>absurd he *...*),λ_=>rfl⟩;have S:=I.laid (a:=`a) (o:=.own (`a+1)) (h':=s.heap.push PySem.W.emptyDict) (t':=s.toks) (λb u q=>bY _ q) (aK _) ⟨_,L⟩;refine S.laid (a:=`a+1) (o:=.ins C `a []) (t':=s.toks) (λb u q=>bY _ q) (Nat.le_of_eq (jr _ _)) ?_
 have ne:`a≠`a+1:=c_ (sS _);refine⟨by rw[aM ne,bp],gH _,ne,r,λ_=>none,(Heap.Ns1.of_empty M).at λo q=>bY _ q,λ_=>True.intro,λy hy=>absurd rfl hy⟩
def Fq(hb:attributeBase e f env (eval e env)=eval e env)
  (h:wpAny (model prog w) A (eval e env) (λo b=>wpAny (model prog w) A (getAttr o f true) Q E b) E s):wpAny (model prog w) A (eval (.Attribute e f pos) env) Q E s:=
 Attribute_any_ h (by rw[arm_eval_Attribute,hb])
def WR(K:Frag)(b:TE)(f:Str):TE:=λZ H Q=>b Z H λx H1=>∃a C dx fs v,x=.ref a/\H1 a=some (.ins C dx fs)/\DX K C/\rQ K C f/\fs.lookup f=some v/\Q v H1
def WS(K:Frag)(b q:TE)(f:Str):TS:=λD Z H=>q Z H λy H1=>b Z H1 λx H2=>∃a C dx fs,x=.ref a/\H2 a=some (.ins C dx fs)/\DX K C/\rQ K C f/\fs.length<1000/\
 D.nx Z (upd H2 a (.ins C dx (m5 f y fs)))
theorem Io(he:PE X e b)(hb:attributeBase e f X.env (eval e X.env)=eval e X.env):PE X (.Attribute e f pos) (WR X.K b f):=by
 intro U s Z H Q I h;refine Fq hb (d7 (he U s Z H _ I h) λu s1 ⟨x,H1,L,r,a,C,dx,fs,v,ex,M,c,n,l,q⟩=>?_);subst ex;obtain rfl:u=Value.ref a:=r;exact DY L M c n l λu' s2 S ru=>⟨v,H1,S,ru,q⟩
theorem Pe(b:PE X o r)(M:PE X value S)(hs:swapsWith value (some (.Attribute o f pos')) b9.line X.env=pure false):PS X (.Assign [.Attribute o f pos'] value b9) (WS X.K r S f):=by
 intro U s Z H D I h;refine plainObj_wpAny_Assign_Attribute (d7 (M U s Z H _ I h) λu s1 ⟨y,H1,L,ry,q⟩=>d7 (b U s1 Z H1 _ L q) λov s2 ⟨x,H2,I2,rx,a,C,dx,fs,ex,ea,c,n,l,q2⟩=>?_) hs;subst ex;obtain rfl:ov=Value.ref a:=rx;exact DZ I2 ea c n l ry λs3 I3=>⟨Z,_,I3,q2⟩
inductive vN(K:Frag)(H:Hp):V->Value->Prop where
 |bM:vN K H .bM (.type "NoneType")
 |bl (x:Bool):vN K H (.bl x) (.type "bool")
 |int (i:Int):vN K H (.int i) (.type "int")
 |str (x:Str):vN K H (.str x) (.type "str")
 |vM (x:UInt64):vN K H (.vM x) (.type "float")
 |lst {a:Addr} {xs:List V} (e:H a=some (.lst xs)):vN K H (.ref a) (.type "list")
 |ll {a:Addr} {o:Obj} {xs:List V} (e:H a=some (.ll o (.lst xs))):vN K H (.ref a) (.type "list")
 |tup {a:Addr} {xs:List V} (e:H a=some (.tup xs)):vN K H (.ref a) (.type "tuple")
 |dK {a:Addr} {kvs:List (Key×V)} (e:H a=some (.dK kvs)):vN K H (.ref a) (.type "dict")
 |dT {a:Addr} {kvs:List (List Key×V)} (e:H a=some (.dT kvs)):vN K H (.ref a) (.type "dict")
 |ins {a C dx:Addr} {fs:List (Str×V)} (e:H a=some (.ins C dx fs)) (cl:DX K C) (ha:PySem.W.findIn K (.ref C) "__class__"=some (some (.builtin "object.__class__")))
   (hn:PySem.W.specialIn K (.builtin "object.__class__") "__get__"=some (some (.builtin "getset_descriptor.__get__"))) (Y_:PySem.W.takesIn K (.builtin "object.__class__")=some true)
   (hm:PySem.W.mroIn K C (.type "object")=some true):vN K H (.ref a) (.ref C)
theorem m6(I:Inv X U Z H s)(r:RelV x u)(ty:vN X.K H x t)(e:PySem.W.kitOne X.K t c=some b)(h:∀M,ae (.bool b) {s with toks:=M}):
  wpAny `c A (call (.builtin "isinstance") [u,c]) ae E s:=by
 cases ty with
 |bM=>cases(show u=Value.none from r);exact eM PySem.W.kitx_none I.nK True.intro e (λz=>nomatch z) h
 |bl y=>cases(show u=Value.bool y from r);exact eM PySem.W.kitx_bool I.nK True.intro e (λz=>nomatch z) h
 |int i=>obtain⟨t,q⟩:=(show∃t,u=Value.int i t from r);cases q;exact eM PySem.W.kitx_int I.nK True.intro e (λz=>nomatch z) h
 |str y=>obtain⟨t,q⟩:=(show∃t,u=Value.str y t from r);cases q;exact eM PySem.W.kitx_str I.nK True.intro e (λz=>nomatch z) h
 |vM y=>obtain⟨t,q⟩:=(show∃t,u=Value.float y t from r);cases q;exact eM PySem.W.kitx_float I.nK True.intro e (λz=>nomatch z) h
 |@lst a xs L=>
  cases(show u=Value.ref a from r);obtain⟨_,_,n,_,h1⟩:=(show cB X.prog X.w H s.heap a (.lst xs)from I.cy a _ L);exact eM wW I.nK ⟨_,h1,rfl⟩ e (λz=>nomatch z) h
 |@ll a S xs L=>
  cases(show u=Value.ref a from r);obtain⟨_,_,_,n,_,h1⟩:=(show cB X.prog X.w H s.heap a (.ll S (.lst xs))from I.cy a _ L);exact eM wW I.nK ⟨_,h1,rfl⟩ e (λz=>nomatch z) h
 |@tup a xs L=>
  cases(show u=Value.ref a from r);obtain⟨_,_,_,p⟩:=(show cB X.prog X.w H s.heap a (.tup xs)from I.cy a _ L);obtain⟨o,h1,h2,_⟩:=p;exact eM PySem.W.kitx_tuple I.nK ⟨o,h1,h2⟩ e (λz=>nomatch z) h
 |@dK a kvs L=>
  cases(show u=Value.ref a from r);obtain⟨_,_,vs,_,p⟩:=(show cB X.prog X.w H s.heap a (.dK kvs)from I.cy a _ L);obtain⟨o,es,ep,h1,h2,_⟩:=p;exact eM sR I.nK ⟨o,h1,h2.1⟩ e (λz=>nomatch z) h
 |@dT a kvs L=>
  cases(show u=Value.ref a from r);obtain⟨_,_,xs,_,o,es,ep,h1,h2,_⟩:=(show cB X.prog X.w H s.heap a (.dT kvs)from I.cy a _ L);exact eM sR I.nK ⟨o,h1,h2.1⟩ e (λz=>nomatch z) h
 |@ins a C dx fs L cl ha hn Y_ hm=>
  cases(show u=Value.ref a from r);obtain⟨mA,O,_⟩:=tL I.cy L;obtain⟨od,J,_⟩:=O.look;exact eM (PySem.W.kitx_own (cl.get _) cl.hd ha hn Y_ hm) I.nK J e (λz=>nomatch z) h
structure cQ(k:Nat)(A:Around):Prop where
 hd:A.handled=none
 dp:A.depth+3*k+5<recursionLimit
 un:A.units+16*k+200<cLine
def cQ.mono {j:Nat}(r:cQ k A)(h:j<=k):cQ j A:=⟨r.hd,by have:=r.dp;omega,by have:=r.un;omega⟩
theorem cQ.deeper {k:Nat}(r:cQ (k+1) A)(env:Env):cQ k (A.deeper env):=
 ⟨r.hd,by have:=r.dp;show A.depth+1+3*k+5<_;omega,by have:=r.un;show A.units+3+16*k+200<_;omega⟩
theorem cQ.in1 {k:Nat}(r:cQ (k+1) A):cQ k A.in1:=
 ⟨r.hd,by have:=r.dp;show A.depth+3*k+5<_;omega,by have:=r.un;show A.units+1+16*k+200<_;omega⟩
def D0{A:Around}{kw:List (Str×Value)}:(A.under (.builtin "type.__call__" ⟨.ref C::ah,kw⟩)).depth=A.depth+1:=by
 first|rfl|simp[Around.under,Code.weight,Code.isCreation,Code.isGuard,Code.isCaller,Code.frames,Code.isFrame,guardIds]
def D3{A:Around}{kw:List (Str×Value)}:(A.under (.builtin "type.__call__" ⟨.ref C::ah,kw⟩)).units=A.units+1:=by
 first|rfl|simp[Around.under,Code.cUnits,Code.frames,Code.isFrame]
def cQ.make {k:Nat}(r:cQ (k+1) A)(C:Addr)(us:List Value)(kw:List (Str×Value)):cQ k (A.under (.builtin "type.__call__" ⟨.ref C::us,kw⟩)):=
 ⟨r.hd,by have:=r.dp;rw[D0];omega,by have:=r.un;rw[D3];omega⟩
theorem cQ.depth (r:cQ k A):A.depth<recursionLimit:=by have:=r.dp;omega
theorem cQ.units (r:cQ k A):A.units+64<cLine:=by have:=r.un;omega
def Pf:TA:=λ_ H Q=>Q [] H
def Tt(b:TE)(q:TA):TA:=λZ H Q=>b Z H λx H1=>q Z H1 λxs H2=>Q (x::xs) H2
def xA:PA X [] Pf:=λ_ _ _ _ H Q I h=>sT ⟨[],H,I,.nil,h⟩
def qG(b:PE X ag q)(r:PA X es t)(hs:autoParam (starEach (ag::es) X.env=(false,eval ag X.env)::starEach es X.env) Rfz):PA X (ag::es) (Tt q t):=by
 intro pos U s Z H Q I h;rw[hs];show wpAny _ _ (spliced ((false,eval ag X.env)::backTo pos (starEach es X.env))) _ _ s;refine mO (d7 (b U s Z H _ I h) λu s1 ⟨x,H1,L,r1,M⟩=>?_);exact d7 (r pos U s1 Z H1 _ L M) λus s2 ⟨xs,H2,S,r2,q2⟩=>⟨x::xs,H2,S,.cons r1 r2,q2⟩
def WT(t:TA):TE:=λZ H Q=>t Z H λxs H1=>xs.length<=sizeLine/\∀p,H1 p=none->Q (.ref p) (upd H1 p (.tup xs))
def WU(t:TA):TE:=λZ H Q=>t Z H λxs H1=>xs.length<=sizeLine/\∀p,H1 p=none->Q (.ref p) (upd H1 p (.lst xs))
def Pg{M}(h:PA X es t):PE X (.Tuple es M pos) (WT t):=by
 intro U s Z H Q I S;refine wpAny_Tuple_spliced (d7 (h pos U s Z H _ I S) λus s1 ⟨xs,H1,L,r,z,q⟩=>⟨by rwa[<-r.length],?_⟩);have hf:H1 s1.heap.objs.size=none:=L.cy.fresh (aK _);refine⟨.ref s1.heap.objs.size,upd H1 s1.heap.objs.size (.tup xs),L.laid (t':=s1.toks) (λb u e=>bY _ e) (aK _) ?_,rfl,q _ hf⟩;exact⟨z,us,r,⟨_,cA _ rfl,rfl,_,rfl,rfl⟩⟩
def Ip(h:PA X es t):PE X (.List es pos) (WU t):=by
 intro U s Z H Q I M;refine wpAny_List_spliced (d7 (h pos U s Z H _ I M) λus s1 ⟨xs,H1,L,r,z,q⟩=>⟨by rwa[<-r.length],?_⟩);have hf:H1 s1.heap.objs.size=none:=L.cy.fresh (aK _);refine⟨.ref s1.heap.objs.size,upd H1 s1.heap.objs.size (.lst xs),L.laid (t':=s1.toks) (λb u e=>bY _ e) (aK _) ?_,rfl,q _ hf⟩;exact⟨z,us,0,r,cA _ rfl⟩
abbrev Sp:=List V->Hp->VK->XK->Prop
abbrev Ly:=List Env->Hp->Shared->XK->Value->Shared->Prop
structure yN(P:Program)(w:World)(K:Frag)(mg:Str->Option Value)(base:Heap)(A:Around)(outer:List Env)(s:Shared)(H:Hp):Prop where
 frames:A.frames=some outer
 mod:Mod K mg base
 bs:∀b o,base.get? b=some o->s.heap.get? b=some o/\H b=none
 GN:base.objs.size<=`a
 qY:s.heap.FunFrames base outer
 HZ:∀b∈jK outer,H b=none
 cy:rP P w H s.heap
 bare:AllBare s.gens
def CE(outer:List Env)(P:Program)(w:World)(H:Hp)(s:Shared)(Q:VK)(u:Value)(b:Shared):Prop:=
 ∃v H',b.os=s.os/\AllBare b.gens/\Un (jK outer) [] H H' s.heap b.heap/\rP P w H' b.heap/\RelV v u/\Q v H'
def CR(CX:Ly)(outer:List Env)(P:Program)(w:World)(H:Hp)(s:Shared)(Q:VK)(E:XK)(r:Result)(b:Shared):Prop:=
 match r with
 |.ok (.ret u)=>CE outer P w H s Q u b
 |.ok _=>False
 |.error e=>CX outer H s E e b
structure fK(P:Program)(w:World)(K:Frag)(mg:Str->Option Value)(base:Heap)(CX:Ly)(k:Nat)(f:Addr)(fd:FuncData)(ps:List Str)(sp:Sp):Prop where
 len:∀vs H Q E,sp vs H Q E->vs.length=ps.length
 run:∀(A:Around) (outer:List Env) (s:Shared) (H:Hp) (args:Args) (us:List Value) (vs:List V) (Q:VK) (E:XK),cQ k A->yN P w K mg base A outer s H->BindsTo s fd args (ps.zip us)->Vals vs us->sp vs H Q E->
  codeAny (model P w) A (.call (.ref f) args) (CR CX outer P w H s Q E) s
theorem fK.mono {k:Nat}{fd:FuncData}(F:fK P w K mg base CX j f fd ps sp)(h:j<=k):
  fK P w K mg base CX k f fd ps sp:=⟨F.len,λA outer s H args us vs Q E L=>F.run A outer s H args us vs Q E (L.mono h)⟩
def yN.make (e:yN P w K mg base A outer s H)(C:Addr)(us:List Value)(kw:List (Str×Value)):
  yN P w K mg base (A.under (.builtin "type.__call__" ⟨.ref C::us,kw⟩)) outer s H:=⟨by first|exact e.frames|(simpa[Around.under,Code.envs,Code.isFrame,pushEnvs]using e.frames),e.mod,e.bs,e.GN,e.qY,e.HZ,e.cy,e.bare⟩
theorem yN.in1 (e:yN P w K mg base A outer s H):
  yN P w K mg base A.in1 outer s H:=⟨e.frames,e.mod,e.bs,e.GN,e.qY,e.HZ,e.cy,e.bare⟩
def Inv.Ph (I:Inv X U Z H s):yN X.prog X.w X.K X.mg X.base X.A X.stack s H:=
 ⟨I.ok.frames,I.ok.mod,I.bs,aV I.ok.GN I.sz,I.stack,I.v5,I.cy,I.bare⟩
def Inv.after (I:Inv X U Z H s)(h:CE X.stack X.prog X.w H s Q u s'):EP X U Z Q u s':=by
 obtain⟨v,H',os,bare,un,cy,r,q⟩:=h;obtain⟨M,g,d,t,L⟩:=s';obtain rfl:L=s.os:=os;exact⟨v,H',I.call (h':=M) (g':=g) (d':=d) (t':=t) (ch:=[]) un cy bare (λb z=>absurd z *...*),r,q⟩
def NU(sp:Sp)(b:List V)(E:XK)(t:TA):TE:=λZ H Q=>t Z H λvs H1=>sp (vs++b) H1 Q E
def NV(C:Addr)(m:Str)(sp:Sp)(b:List V)(E:XK)(q:TE)(t:TA):TE:=λZ H Q=>q Z H λx H1=>∃a dx fs,x=.ref a/\H1 a=some (.ins C dx fs)/\fs.lookup m=none/\
 t Z H1 λvs H2=>sp (x::(vs++b)) H2 Q E
def NW(C:Addr)(sp:Sp)(b:List V)(E:XK)(t:TA):TE:=λZ H Q=>t Z H λvs H1=>∀x dx,H1 x=none->H1 dx=none->dx≠x->
 sp (.ref x::(vs++b)) (upd (upd H1 dx (.own x)) x (.ins C dx [])) (λv H2=>v=.bM/\Q (.ref x) H2) E
def Binds(K:Frag)(fd:FuncData)(ps:List Str)(ds:List Value):Prop:=
 ∀(s:Shared) (us:List Value),K.In s.heap->(us++ds).length=ps.length->BindsTo s fd ⟨us,[]⟩ (ps.zip (us++ds))
def Binds.all {fd:FuncData}{ps:List Str}(h:∀us:List Value,us.length=ps.length->bindArgs fd ⟨us,[]⟩=pure (ps.zip us)):Binds K fd ps []:=λs us _ L=>by
 rw[j6]at L⊢;exact .of_eq (h us L)
def Passes(CX:Ly)(X:Cx)(E:XK):Prop:=∀(U:List (Addr×Obj)) (Z:St) (H:Hp) (s:Shared) (e:Value) (L:Shared),Inv X U Z H s->CX X.stack H s E e L->X.xe e L
def D4{X:Cx}(F:fK X.prog X.w X.K X.mg X.base CX k f ai ps sp)(M:cQ k X.A)(hb:Binds X.K ai ps ds)(hd:Vals b ds)(S:Passes CX X E)
  (I:Inv X U Z H s) (r:Vals vs us) (h:sp (vs++b) H Q E):wpAny `c X.A (call (.ref f) us) (EP X U Z Q) X.xe s:=by
 have q:Vals (vs++b) (us++ds):=r.append hd;have hl:(us++ds).length=ps.length:=by rw[<-q.length];exact F.len _ _ _ _ h
 refine wpAny_call (pI (F.run X.A X.stack s H ⟨us,[]⟩ (us++ds) (vs++b) Q E M I.Ph (hb s us I.nK hl) q h) λr s' L=>?_);cases r with
 |error e=>exact S U Z H s e s' I L
 |ok fl=>
  cases fl with
  |ret u=>exact I.after L
  |_=>exact False.elim L
def Fs{X:Cx}(F:fK X.prog X.w X.K X.mg X.base CX k f ai ps sp)(b:cQ k X.A)(M:Gl X x)(hm:X.mg x=some (.ref f))(S:PySem.W.keepIn X.K (.ref f)=true)(hb:Binds X.K ai ps ds)(hd:Vals yG ds)(hx:Passes CX X E)
  (ha:PA X (ag::af) t) (iJ:autoParam (Db x) Dcz) (he:autoParam (starEach (ag::af) X.env=(false,eval ag X.env)::starEach af X.env) Rfz) (Aa:autoParam ((backTo pos (starEach af X.env)).any (·.1)=false) Rfz):
  PE X (.Call (.Name x p) (ag::af) [] pos) (NU sp yG E t):=by
 intro U s Z H Q I h;refine mP (qF I M hm ?_ iJ);refine wN (h₀:=X.base) I.ok.mod.OW S (d7 (ha pos U s Z H _ I h) λus s1 ⟨vs,H1,L,r,q⟩=>⟨L.nK,?_⟩) he Aa;exact D4 F b hb hd hx L r q
theorem Ft{e:Expr}(he:PE X o M)(c:DX X.K C)(hm:Meth X.K C m f)(F:fK X.prog X.w X.K X.mg X.base CX k f ai ps sp)(S:cQ k X.A)(hb:Binds X.K ai ps ds)(hd:Vals yG ds)(hx:Passes CX X E)(ha:PA X (e::af) t)
  (cJ:autoParam (starEach (e::af) X.env=(false,eval e X.env)::starEach af X.env) Rfz) (Aa:autoParam ((backTo pos (starEach af X.env)).any (·.1)=false) Rfz)
  (ht:autoParam (eval (.Call (.Attribute o m b9) (e::af) [] pos) X.env=yK pos b9 o m (e::af) X.env pl) Rfz):
  PE X (.Call (.Attribute o m b9) (e::af) [] pos) (NV C m sp yG E M t):=by
 intro U s Z H Q I h;refine PySem.W.methodCall_KW (pl:=pl) (d7 (he U s Z H _ I h) λu s1 ⟨x,H1,L,rx,a,dx,fs,ex,ea,l,q⟩=>?_) ht;subst ex;obtain rfl:u=Value.ref a:=rx;refine xy L ea c hm l ?_
 refine wN (first:=[.ref a]) (h₀:=X.base) I.ok.mod.OW hm.kp (d7 (ha pos U s1 Z H1 _ L q) λus s2 ⟨vs,H2,b,r,q2⟩=>⟨b.nK,?_⟩) cJ Aa;exact D4 (us:=.ref a::us) (vs:=.ref a::vs) F S hb hd hx b (.cons rfl r) q2
theorem BF(he:PE X o b)(c:DX X.K C)(hm:Meth X.K C m f)(F:fK X.prog X.w X.K X.mg X.base CX k f ai ps sp)(r:cQ k X.A)(hb:Binds X.K ai ps ds)(hd:Vals M ds)(S:Passes CX X E)
  (ht:autoParam (eval (.Call (.Attribute o m b9) [] [] pos) X.env=yK pos b9 o m [] X.env pl) Rfz):
  PE X (.Call (.Attribute o m b9) [] [] pos) (NV C m sp M E b Pf):=by
 intro U s Z H Q I h;refine PySem.W.methodCall_KW (pl:=pl) (d7 (he U s Z H _ I h) λu s1 ⟨x,H1,L,rx,a,dx,fs,ex,ea,l,q⟩=>?_) ht;subst ex;obtain rfl:u=Value.ref a:=rx;refine xy L ea c hm l ?_
 exact PySem.W.callWith_K0 (first:=[.ref a]) L.nK hm.kp (D4 (us:=[.ref a]) (vs:=[.ref a]) F r hb hd S L (.cons rfl .nil) q)
structure Mk(K:Frag)(C f:Addr):Prop where
 makes:PySem.W.makesIn K C=true
 init:PySem.W.findIn K (.ref C) "__init__"=some (some (.ref f))
 fn:PySem.W.isFn K (.ref f)=true
 kp:PySem.W.keepIn K (.ref C)=true
theorem BG{X:Cx}{Q:VK}(M:Mk X.K C f)(F:fK X.prog X.w X.K X.mg X.base CX k f ai ps sp)(hr:cQ (k+1) X.A)(hb:Binds X.K ai ps ds)(hd:Vals q ds)
  (hx:Passes CX X E) (I:Inv X U Z H s) (r:Vals vs us)
  (h:∀x dx,H x=none->H dx=none->dx≠x->sp (.ref x::(vs++q)) (upd (upd H dx (.own x)) x (.ins C dx [])) (λv H2=>v=.bM/\Q (.ref x) H2) E):
  wpAny `c X.A (call (.ref C) us) (EP X U Z Q) X.xe s:=by
 have S:=h (`a+1) `a (I.cy.fresh (Nat.le_succ _)) (I.cy.fresh (aK _)) (c_ (sS _));have L:=Inv.made (C:=C) I;have r2:Vals (V.ref (`a+1)::(vs++q)) (Value.ref (`a+1)::(us++ds)):=.cons rfl (r.append hd);have hl:(Value.ref (`a+1)::us++ds).length=ps.length:=by
  have e:=r2.length;rw[F.len _ _ _ _ S]at e;exact e.symm
 refine wpAny_call (Im (f:=f) I.nK M.makes M.init (fF.mp M.fn) (pI (F.run _ X.stack _ _ ⟨Value.ref (`a+1)::us,[]⟩ (Value.ref (`a+1)::(us++ds)) _ _ E (hr.make C us [])
  (L.Ph.make C us []) (hb _ (Value.ref (`a+1)::us) L.nK hl) r2 S) λr s' b=>?_))
 cases r with
 |error e=>exact hx U Z _ _ e s' L b
 |ok fl=>
  cases fl with
  |ret u=>
   obtain⟨v,H',I3,rv,ev,q3⟩:=L.after b;subst ev;exact⟨rv,⟨V.ref (`a+1),H',I3,rfl,q3⟩⟩
  |_=>exact False.elim b
def Lz{X:Cx}(M:Mk X.K C f)(F:fK X.prog X.w X.K X.mg X.base CX k f ai ps sp)(b:cQ (k+1) X.A)(S:Gl X x)(hm:X.mg x=some (.ref C))(hb:Binds X.K ai ps ds)(hd:Vals yG ds)(hx:Passes CX X E)
  (ha:PA X (ag::af) t) (iJ:autoParam (Db x) Dcz) (he:autoParam (starEach (ag::af) X.env=(false,eval ag X.env)::starEach af X.env) Rfz) (Aa:autoParam ((backTo pos (starEach af X.env)).any (·.1)=false) Rfz):
  PE X (.Call (.Name x p) (ag::af) [] pos) (NW C sp yG E t):=by
 intro U s Z H Q I h;refine mP (qF I S hm ?_ iJ);refine wN (h₀:=X.base) I.ok.mod.OW M.kp (d7 (ha pos U s Z H _ I h) λus s1 ⟨vs,H1,L,r,q⟩=>⟨L.nK,?_⟩) he Aa;exact BG M F b hb hd hx L r q
def Iq{X:Cx}(M:Mk X.K C f)(F:fK X.prog X.w X.K X.mg X.base CX k f ai ps sp)(b:cQ (k+1) X.A)(q:Gl X x)(hm:X.mg x=some (.ref C))(hb:Binds X.K ai ps ds)(hd:Vals r ds)(S:Passes CX X E)
  (iJ:autoParam (Db x) Dcz):PE X (.Call (.Name x p) [] [] pos) (NW C sp r E Pf):=by
 intro U s Z H Q I h;refine mP (qF I q hm ?_ iJ);exact PySem.W.callWith_K0 I.nK M.kp (BG (us:=[]) M F b hb hd S I .nil h)
structure gJ(N P:List Str)(sc:Scope):Prop where
 kind:sc.kind=.function
 co:sc.isCoroutine=false
 gen:sc.isGenerator=false
 nd:N.Nodup
 pre:N.take P.length=P
 par:∀x∈P,sc.names.lookup x=some .local\/sc.names.lookup x=some .cell
 Pj:∀y∈sc.names,y.2≠ .free
theorem y6{kindOf:Str->Option NameKind}{x:Str}:∀{binds:List (Str×Value)} {m:Str->Option Value},(∀v,(x,v)∉binds)->bindL kindOf binds m x=m x
 |[],_,_=>rfl
 |(n,v)::r,m,h=>by
  unfold bindL;rw[y6 λw hw=>h w (bG _ hw)];split
  .have:x≠n:=by rintro rfl;exact h v bF
   simp[this]
  .rfl
theorem y8{kindOf:Str->Option NameKind}{x:Str}:∀{binds:List (Str×Value)} {m:Str->Option Value},(∀v,(x,v)∉binds)->bindC kindOf binds m x=m x
 |[],_,_=>rfl
 |(n,v)::r,m,h=>by
  unfold bindC;rw[y8 λw hw=>h w (bG _ hw)];split
  .rfl
  .have:x≠n:=by rintro rfl;exact h v bF
   simp[this]
theorem y9{kindOf:Str->Option NameKind}:∀{P:List Str} {vs:List Value} {i:Nat} {m:Str->Option Value},P.Nodup->P[i]?=some x->vs[i]?=some v->kindOf x=some .local->
  bindL kindOf (P.zip vs) m x=some v
 |[],_,_,_,_,h,_,_=>by simp at h
 |_::_,[],_,_,_,_,h,_=>by simp at h
 |p::P,w::vs,0,m,nd,h1,h2,L=>by
  simp at h1 h2;subst h1;subst h2;show bindL kindOf ((p,w)::P.zip vs) m p=_;unfold bindL;rw[y6 λv b=>(lG.mp nd).1 (xg b).1,av L];simp
 |p::P,w::vs,i+1,m,nd,h1,h2,L=>by
  show bindL kindOf ((p,w)::P.zip vs) m x=_;unfold bindL;exact y9 (i:=i) (lG.mp nd).2 (by simpa using h1) (by simpa using h2) L
theorem y_{kindOf:Str->Option NameKind}:∀{P:List Str} {vs:List Value} {i:Nat} {m:Str->Option Value},P.Nodup->P[i]?=some x->vs[i]?=some v->kindOf x≠some .local->
  bindC kindOf (P.zip vs) m x=some v
 |[],_,_,_,_,h,_,_=>by simp at h
 |_::_,[],_,_,_,_,h,_=>by simp at h
 |p::P,w::vs,0,m,nd,h1,h2,L=>by
  simp at h1 h2;subst h1;subst h2;show bindC kindOf ((p,w)::P.zip vs) m p=_;unfold bindC;rw[y8 λv b=>(lG.mp nd).1 (xg b).1,aA L];simp
 |p::P,w::vs,i+1,m,nd,h1,h2,L=>by
  show bindC kindOf ((p,w)::P.zip vs) m x=_;unfold bindC;exact y_ (i:=i) (lG.mp nd).2 (by simpa using h1) (by simpa using h2) L
noncomputable def start(N:List Str)(vs:List V):St:=vs.map some++List.replicate (N.length - vs.length) none
noncomputable def oX(CX:Ly)(P:Program)(w:World)(K:Frag)(mg:Str->Option Value)(base:Heap)(N:List Str)(qual:Str)(scope:Scope)(f:Addr)(cd:Value)(A:Around)(outer:List Env)(s:Shared)(H:Hp)(E:XK):Cx where
 prog:=P
 w:=w
 K:=K
 mg:=mg
 base:=base
 A:=A.deeper (envOfC qual scope `a f cd)
 N:=N
 hU:=s
 Bz:=H
 env:=envOfC qual scope `a f cd
 outer:=outer
 stack:=envOfC qual scope `a f cd::outer
 ex:=[]
 calm:=true
 fn:=λ_=>true
 pn:=[]
 xe:=λe b=>wpAny (model P w) (A.deeper (envOfC qual scope `a f cd)) (leaving (envOfC qual scope `a f cd) e) (λ_ L=>CX outer H s E e L) (λq L=>CX outer H s E q L) b
def BH{sc:Scope}(h:sc.names.lookup x=some .cell):∃c,(cellsFrom n sc.names []).lookup x=some c:=by
 have q:=PySem.W.cellsFrom_some sc.names n [] (.inl h);exact lu.mp q
theorem GY{A:Around}{vs:List V}
  (S:gJ N ps scope) (hd:A.handled=none) (I:yN P w K mg base A outer s H) (hl:vs.length=ps.length) (r:Vals vs us)
  (x:InCallC s `a (bindL (envOfC qual scope `a f cd).kindOf (ps.zip us) λ_=>none) (cellsFrom (`a+1) scope.names []) (bindC (envOfC qual scope `a f cd).kindOf (ps.zip us) λ_=>none) s1):
  Inv (oX CX P w K mg base N qual scope f cd A outer s H E) [] (start N vs) H s1:=by
 have Aa:ps.length<=N.length:=by have:=cF List.length S.pre;rw[w_]at this;omega
 obtain⟨h1,tk,rfl,hk⟩:=x.done;have Tv:∀b:Addr,b∉(oX CX P w K mg base N qual scope f cd A outer s H E).ex:=λb z=>absurd (show b∈([]:List Addr)from z) *...*;refine⟨⟨I.mod,S.kind,rfl,rfl,aK _,λy z c h1 h2=>?_,λy L=>?_,λy c _ h=>?_,λ_=>hd,Around.frames_deeper I.frames,.inr ⟨rfl,rfl⟩,λb z=>absurd z (Tv b),I.bs,I.GN,λb _ _=>Tv b,λb z=>absurd z (Tv b),I.qY,I.HZ⟩,
  rfl,I.bare,Un.kept hk,⟨_,x.toInCall.ns,λi y v h1 h2 h3=>?_⟩,λy c h=>⟨_,x.cell y c h⟩,I.cy.fresh (aK _),λy c h=>?_,λp M=>absurd (show p∈([]:List (Addr×Obj))from M) *...*,I.cy.kept hk,?_⟩
 .exact name_of_addr x.apart (jZ h1) (jZ h2)
 .have L:scope.names.lookup y=some .cell\/scope.names.lookup y=some .free:=L;rcases L with L|L
  .exact BH L
  .exact absurd rfl (S.Pj _ (jZ L))
 .exact cP (x.above y c (jZ h))
 .have hi:i<vs.length:=by
   unfold start at h2;by_cases hi:i<vs.length
   .exact hi
   .rw[wB (by simpa using hi)]at h2;rw[sH]at h2;split at h2<;>cases h2
  have ha:vs[i]?=some v:=by
   unfold start at h2;rw[sG (by simpa using hi),bW]at h2;cases e:vs[i]? with
   |none=>rw[e]at h2;cases h2
   |some a=>rw[e]at h2;cases h2;rfl
  obtain⟨u,hu,rv⟩:=r.get ha;have M:ps[i]?=some y:=by
   rwa[<-S.pre,List.getElem?_take_of_lt ∎]
  have Y':ps.Nodup:=by rw[<-S.pre];exact S.nd.sublist (List.take_sublist _ _)
  refine⟨u,rv,?_⟩;rcases S.par y (eK M)with k|k
  .exact .inl ⟨k,y9 Y' M hu k⟩
  .obtain⟨c,e⟩:=BH (n:=`a+1) k;refine .inr ⟨.inl k,c,e,?_⟩;have q:=x.cell y c e;rw[y_ Y' M hu (by show scope.names.lookup y≠_;rw[k];decide)]at q;exact q
 .exact I.cy.fresh (cP (x.above y c (jZ h)))
 .unfold start;show _=N.length;rw[di,aP,wH];omega
def NX{kV oc:Value}{od:Option Addr}
  {Ir:Array (Option Value)} {sp:Sp} (lk:K.lookup f=some ⟨oc,od,.func (PySem.W.fnOf name qual params body scope dV kV doc pm an M ct),Ir⟩) (GH:PySem.W.codeIn K M qual=true) (S:gJ N ps scope)
  (len:∀vs H Q E,sp vs H Q E->vs.length=ps.length)
  (kG:∀(A:Around) (outer:List Env) (s:Shared) (H:Hp) (vs:List V) (Q:VK) (E:XK),cQ k (A.deeper (envOfC qual scope `a f M))->sp vs H Q E->
   ∃t,yF (oX CX P w K mg base N qual scope f M A outer s H E) body t/\t {nx:=λ_ H'=>Q .bM H',rt:=Q} (start N vs) H):
  fK P w K mg base CX (k+1) f (PySem.W.fnOf name qual params body scope dV kV doc pm an M ct) ps sp:=by
 refine⟨len,λA outer s H args us vs Q E hr L hb r Iu=>?_⟩;have hl:=len _ _ _ _ Iu;have KX:K.In s.heap:=L.mod.OW.keeps λb o e=>(L.bs b o e).1;have lim:s.heap.NoLimit:=L.mod.nolimit.keeps λb o e=>(L.bs b o e).1;have Tw:∀y∈ps.zip us,scope.names.lookup y.1=some .local\/(scope.names.lookup y.1=some .cell/\((cellsFrom (`a+1) scope.names []).lookup y.1).isSome=true):=λ⟨n,v⟩ hy=>by
  rcases S.par n (xg hy).1 with q|q
  .exact .inl q
  .exact .inr ⟨q,PySem.W.cellsFrom_some _ _ _ (.inl q)⟩
 refine codeAny_call_function hr.depth (KX _ _ lk) rfl S.co S.gen rfl (PySem.W.codeRec_of KX GH) (hb _ _ _ _ ?_);refine wpAny_newFunctionEnv_cells S.kind Tw λenv he s1 x=>?_
 subst he;refine⟨lim.keeps x.toInCall.keep,codeAny_func ?_⟩;obtain⟨t,ht,hq⟩:=kG A outer s H vs Q E (hr.deeper _) Iu;have I:Inv (oX CX P w K mg base N qual scope f M A outer s H E) [] (start N vs) H s1:=GY S hr.hd L hl r x;refine dX (ht [] s1 (start N vs) H _ I hq) (λfl s' hs=>?_) λe s' hs=>hs;have fin:∀{cU:St} {H':Hp} {v:V} {u:Value},Inv (oX CX P w K mg base N qual scope f M A outer s H E) [] cU H' s'->RelV v u->Q v H'->CE outer P w H s Q u s':=
  λ{cU H' v u} J rv q=>⟨v,H',J.os,J.bare,J.base,J.cy,rv,q⟩
 cases fl with
 |ret u=>
  obtain⟨v,cU,H',J,rv,q⟩:=hs;exact fin J rv q
 |next=>
  obtain⟨cU,H',J,q⟩:=hs;exact fin (v:=V.bM) (u:=Value.none) J rfl q
 |brk=>
  obtain⟨_,_,_,q⟩:=hs;exact False.elim q
 |cont=>
  obtain⟨_,_,_,q⟩:=hs;exact False.elim q
def V4(r:List V->Hp->VK->Prop)(t:TA):TE:=λZ H Q=>t Z H λvs H1=>r vs H1 Q
def tM{id:String}(b:gZ X (.builtin id) r)(q:Gl X x)(hm:X.mg x=none)(M:bootBuiltins x=some (.builtin id))(S:PA X (ag::af) t)(hn:autoParam (x≠"__name__") Dcz) (iJ:autoParam (Db x) Dcz)
  (he:autoParam (starEach (ag::af) X.env=(false,eval ag X.env)::starEach af X.env) Rfz) (Aa:autoParam ((backTo pos (starEach af X.env)).any (·.1)=false) Rfz):PE X (.Call (.Name x p) (ag::af) [] pos) (V4 r t):=by
 intro U s Z H Q I h;refine mP (xr I q hm M ?_ hn iJ);exact PyProof.Rows.callWith_builtin1 (d7 (S pos U s Z H _ I h) λus s1 ⟨vs,H1,L,r1,q1⟩=>b U s1 Z H1 vs us Q L r1 q1) he Aa
def qH(b:gZ X (.type T) r)(q:Gl X x)(hm:X.mg x=none)(M:bootBuiltins x=some (.type T))(S:PA X (ag::af) t)(hn:autoParam (x≠"__name__") Dcz) (iJ:autoParam (Db x) Dcz)
  (he:autoParam (starEach (ag::af) X.env=(false,eval ag X.env)::starEach af X.env) Rfz) (Aa:autoParam ((backTo pos (starEach af X.env)).any (·.1)=false) Rfz):PE X (.Call (.Name x p) (ag::af) [] pos) (V4 r t):=by
 intro U s Z H Q I h;refine mP (xr I q hm M ?_ hn iJ);exact Bu (d7 (S pos U s Z H _ I h) λus s1 ⟨vs,H1,L,r1,q1⟩=>b U s1 Z H1 vs us Q L r1 q1) he Aa
abbrev TO:=St->Hp->(Option Int->Hp->Prop)->Prop
def PO(X:Cx)(e:Option Expr)(t:TO):Prop:=
 ∀(U:List (Addr×Obj)) (s:Shared) (Z:St) (H:Hp) (Q:Option Int->Hp->Prop),Inv X U Z H s->t Z H Q->
  wpAny `c X.A (evalPart e X.env) (λu L=>∃o H',Inv X U Z H' L/\IsPart u o/\Q o H') X.xe s
def LA:TO:=λ_ H Q=>Q none H
def Tx(t:TE):TO:=λZ H Q=>t Z H λx H1=>∃i,x=.int i/\Q (some i) H1
def LB:PO X none LA:=by
 intro U s Z H Q I h;rw[evalPart_none];exact aR ⟨none,H,I,.none,h⟩
def LC(h:PE X e b):PO X (some e) (Tx b):=by
 intro U s Z H Q I hw;rw[evalPart_some];refine d7 (h U s Z H _ I hw) λu s1 ⟨x,H1,L,r1,r⟩=>?_
 obtain⟨i,rfl,q⟩:=r;obtain⟨t,rfl⟩:=r1;exact⟨some i,H1,L,.int i t,q⟩
def Sm(X:Cx)(r:V->Option Int->Option Int->Hp->VK->Prop):Prop:=
 ∀(U:List (Addr×Obj)) (s:Shared) (Z:St) (H:Hp) (x:V) (v L b:Value) (lo hi:Option Int) (q:Addr) (Q:VK),Inv X U Z H s->RelV x v->s.heap.IsSliceOf q L b .none->IsPart L lo->IsPart b hi->r x lo hi H Q->
  ∃T id,typeLookup (.type T) "__getitem__"=pure (some (.builtin id))/\s.TypeIs v T/\wpAny `c X.A (getItem v (.ref q)) (EP X U Z Q) X.xe s
def tSl(r:V->Option Int->Option Int->Hp->VK->Prop)(b:TE)(q I:TO):TE:=λZ H Q=>b Z H λx H1=>q Z H1 λl H2=>I Z H2 λu L=>r x l u L Q
theorem Iw{lo:Option Expr}(hr:Sm X r)(he:PE X e te)(hl:PO X lo tl)(hu:PO X hi th):PE X (.Subscript e (.Slice lo hi none p2) pos) (tSl r te tl th):=by
 intro U s Z H Q I h;refine Subscript_ (d7 (he U s Z H _ I h) λv s1 ⟨x,H1,I1,r1,q1⟩=>?_);refine wpAny_Slice (d7 (hl U s1 Z H1 _ I1 q1) λL s2 ⟨l,H2,I2,pl,q2⟩=>d7 (hu U s2 Z H2 _ I2 q2) λM s3 ⟨u,S,I3,pu,q3⟩=>?_);rw[evalPart_none];refine aR ?_
 have I4:Inv X U Z S {s3 with heap:=s3.heap.push {cls:=.type "slice",data:=.fields #[L,M,.none]}}:=I3.kept (t':=s3.toks) λb ob q=>bY _ q;obtain⟨T,id,hT,ht,hg⟩:=hr U {s3 with heap:=s3.heap.push {cls:=.type "slice",data:=.fields #[L,M,.none]}} Z S x v L M l u s3.heap.objs.size Q I4 r1 (Heap.IsSliceOf.new ..) pl pu q3;show wpAny `c X.A (subscriptTail e (.Slice lo hi none p2) v (.ref s3.heap.objs.size)) (EP X U Z Q) X.xe {s3 with heap:=s3.heap.push {cls:=.type "slice",data:=.fields #[L,M,.none]}};exact tail_any (ops:=[.ref s3.heap.objs.size,v]) ht hT hg (by with_unfolding_all rfl)
def BI(xs:List V)(lo hi:Option Int):List V:=(xs.drop (HT.hJ xs.length 0 lo)).take (HT.hJ xs.length xs.length hi - HT.hJ xs.length 0 lo)
def vj(xs:List V)(lo hi:Option Int):(BI xs lo hi).length<=xs.length:=by
 unfold BI;rw[w_,List.length_drop];omega
def WV(K:Frag):V->Option Int->Option Int->Hp->VK->Prop:=λx lo hi H Q=>∃a xs,x=.ref a/\mj K H a xs/\
 ¬(HT.hJ xs.length 0 lo=0/\HT.hJ xs.length xs.length hi=xs.length)/\∀p,H p=none->Q (.ref p) (upd H p (.tup (BI xs lo hi)))
def Pl:Sm X (WV X.K):=by
 intro U s Z H x v vl vu lo hi sl Q I S hs pl pu h;obtain⟨a,xs,rfl,hx,hw,q⟩:=h;cases S;obtain⟨bJ,r,M,hz⟩:=I.tuple hx;have L:bJ.toArray.size=xs.length:=by rw[cx];exact r.length.symm
 refine⟨"tuple",_,wC.lookup,M.typeIs,?_⟩;refine HT.tm M hs pl pu (by rwa[L]) ?_ (by rwa[L])
 rw[L];refine⟨.ref `a,_,I.laid (t':=s.toks) (o:=.tup (BI xs lo hi)) (λb ob q=>bY _ q) (aK _) ?_,rfl,q _ (I.cy.fresh (aK _))⟩;exact⟨aV (vj xs lo hi) hz,_,(r.drop (HT.hJ xs.length 0 lo)).take (HT.hJ xs.length xs.length hi - HT.hJ xs.length 0 lo),pK.new _ _⟩
def Tz(K:Frag):R2:=λx y H Q=>∃a b xs ys,x=.ref a/\y=.ref b/\mj K H a xs/\mj K H b ys/\xs≠[]/\xs.length+ys.length<=sizeLine/\
 (ys=[]->Q (.ref a) H)/\(ys≠[]->∀p,H p=none->Q (.ref p) (upd H p (.tup (xs++ys))))
def Vals.Ac (r:Vals xs us):us=[]↔xs=[]:=by
 cases r with
 |_=>simp
def LD:sE X (binaryOp .Add) (Tz X.K):=by
 intro U s Z H x y v u Q I L r h;obtain⟨a,b,xs,ys,rfl,rfl,ha,hb,M,hz,S,q2⟩:=h;cases L;cases r;obtain⟨bJ,r1,p1,_⟩:=I.tuple ha;obtain⟨D5,r2,p2,_⟩:=I.tuple hb;refine HT.Ld p1 p2 (λz=>M (r1.Ac.mp z)) (λz=>⟨.ref a,H,I,rfl,S (r2.Ac.mp z)⟩) (λz=>?_) (by rwa[<-r1.length,<-r2.length]);refine⟨.ref `a,_,I.laid (t':=s.toks) (o:=.tup (xs++ys)) (λb ob q=>bY _ q) (aK _) ?_,rfl,q2 (λw=>z (r2.Ac.mpr w)) _ (I.cy.fresh (aK _))⟩;exact⟨by rwa[di],_,r1.append r2,pK.new _ _⟩
noncomputable def K'(n:Nat)(i:Int):Option Nat:=if 0<=i then(if i<n then some i.toNat else none)else if-(n:Int)<=i then some (i+n).toNat else none
def qZ{α:Type}(xs:List α)(i:Int):Option α:=(K' xs.length i).bind λj=>xs[j]?
theorem LF{n:Nat}(h:K' n i=some j):seqIndex? i n=some j/\j<n/\-(n:Int)<=i/\i<n:=by
 unfold K' at h;by_cases h0:0<=i
 .rw[av h0]at h;by_cases h1:i<n
  .rw[av h1]at h;have e:i.toNat=j:=Option.some.inj h;exact⟨by rw[seqIndex_of h0 h1,e],∎,∎,h1⟩
  .rw[aA h1]at h;cases h
 .rw[aA h0]at h;by_cases h1:-(n:Int)<=i
  .rw[av h1]at h;have e:(i+n).toNat=j:=Option.some.inj h;exact⟨by rw[seqIndex_neg ∎ h1,e],∎,h1,∎⟩
  .rw[aA h1]at h;cases h
def Ad{xs:List α}{v:α}(h:qZ xs i=some v):∃j,seqIndex? i xs.length=some j/\xs[j]?=some v/\j<xs.length/\-(xs.length:Int)<=i/\i<xs.length:=by
 unfold qZ at h;cases e:K' xs.length i with
 |none=>rw[e]at h;cases h
 |some j=>
  rw[e]at h;obtain⟨h1,h2,h3,h4⟩:=LF e;exact⟨j,h1,h,h2,h3,h4⟩
def lJ{xs:List α}{j:Nat}{v:α}(h:xs[j]?=some v):qZ xs (j:Int)=some v:=by
 have L:j<xs.length:=(gE.mp h).1;have e:K' xs.length (j:Int)=some j:=by
  unfold K';rw[av ∎,av ∎];simp
 unfold qZ;rwa[e]
def Ae(b:Expr):Prop:=∀o i,subscripted b false o i=operate [o,i] (getItem o i)
def TB(X:Cx)(r:R2):Prop:=
 ∀(value slice:Expr) (U:List (Addr×Obj)) (s:Shared) (Z:St) (H:Hp) (x y:V) (v u:Value) (Q:VK),Inv X U Z H s->RelV x v->RelV y u->r x y H Q->
  subscripted slice false v u=operate [v,u] (getItem v u)->wpAny `c X.A (subscriptTail value slice v u) (EP X U Z Q) X.xe s
def NY(X:Cx)(id:String)(r:V->List V->Hp->VK->Prop):Prop:=
 ∀(U:List (Addr×Obj)) (s:Shared) (Z:St) (H:Hp) (x:V) (xs:List V) (v:Value) (us:List Value) (Q:VK),Inv X U Z H s->RelV x v->Vals xs us->r x xs H Q->
  wpAny `c X.A (call (.builtin id) (v::us)) (EP X U Z Q) X.xe s
def NZ(M:TB X r)(S:PE X a ta)(hb:PE X b tb)(hs:Ae b):PE X (.Subscript a b pos) (O6 r ta tb):=by
 intro U s Z H Q I h;exact Subscript_ (O7 S hb I h λv u s2 x y H2 L rx ry q=>M a b U s2 Z H2 x y v u Q L rx ry q (hs _ _))
def WW(K:Frag):R2:=λx y H Q=>∃p xs i v,x=.ref p/\y=.int i/\lI K H p xs/\qZ xs i=some v/\Q v H
def WX(K:Frag):R2:=λx y H Q=>∃p xs i v,x=.ref p/\y=.int i/\mj K H p xs/\qZ xs i=some v/\Q v H
def WY:R2:=λx y H Q=>∃z i c,x=.str z/\y=.int i/\z.length<=sizeLine/\qZ z.cps.toList i=some c/\Q (.str ⟨#[c]⟩) H
theorem Fu:TB X (WW X.K):=by
 intro value slice U s Z H x y v u Q I M S h hs;obtain⟨p,xs,i,z,rfl,rfl,hq,he,q⟩:=h;cases M;obtain⟨t,rfl⟩:=S;obtain⟨bJ,r,pl,hz⟩:=I.list hq;obtain⟨j,h1,h2,h3,h4,h5⟩:=Ad he;obtain⟨w,b,q_⟩:=r.get h2;have hl:=r.length;have hn:=xx;have fin:EP X U Z Q w s:=⟨z,H,I,q_,q⟩;by_cases h0:0<=i
 .have L:i.toNat=j:=by
   rw[seqIndex_of h0 h5]at h1;exact Option.some.inj h1
  exact item_listR pl.isList h0 ∎ (by rw[L];simpa using b) fin hs
 .have L:(i+(bJ.toArray.size:Int)).toNat=j:=by
   rw[seqIndex_neg ∎ h4]at h1;rw[cx,<-hl];exact Option.some.inj h1
  exact subscriptTail_builtinR (x:=w) pl.isList.typeIs slot_list_getitem.lookup
   (wpAny_getItem_list_neg (Q:=λr s'=>r=w/\EP X U Z Q r s') pl.isList ∎ (by rw[cx]<;>omega) ∎ (by rw[L];simpa using b) ⟨rfl,fin⟩) hs
def Pm:TB X (WX X.K):=by
 intro value slice U s Z H x y v u Q I L b h hs;obtain⟨p,xs,i,z,rfl,rfl,M,he,q⟩:=h;cases L;obtain⟨t,rfl⟩:=b;obtain⟨bJ,r,pl,hz⟩:=I.tuple M;obtain⟨j,h1,h2,h3,h4,h5⟩:=Ad he;obtain⟨w,S,q_⟩:=r.get h2;have hl:=r.length;have hn:=xx;have fin:EP X U Z Q w s:=⟨z,H,I,q_,q⟩;exact subscriptTail_builtinR (x:=w) pl.typeIs wC.lookup
  (getItem_tuple (j:=j) (Q:=λr s'=>r=w/\EP X U Z Q r s') pl ∎ ∎ (by rwa[cx,<-hl]) (by simpa using S) ⟨rfl,fin⟩) hs
theorem Pn:TB X WY:=by
 intro value slice U s Z H x y v u Q I L b h hs;obtain⟨z,i,c,rfl,rfl,hz,he,q⟩:=h;obtain⟨t,rfl⟩:=L;obtain⟨t',rfl⟩:=b;obtain⟨j,h1,h2,h3,h4,r⟩:=Ad he;have M:z.cps.toList.length=z.length:=by simp[Str.length]
 rw[M]at h1 h4 r;have hn:=xx;exact tail_any (typeIs_str s z t) slot_str_getitem.lookup (getItem_str (c:=c) (by
  have S:decide (i< -(2 ^63:Int))=false:=fV ∎;have e2:decide (i>=2 ^63)=false:=fV ∎;rw[S,e2,pE]) (by rw[h1];simpa using h2) ⟨.str ⟨#[c]⟩,H,I.tok _,⟨_,rfl⟩,q⟩) hs
theorem Inv.lst (I:Inv X U Z H s)(h:H p=some (.lst xs)):
  ∃(bJ:List Value) (n:Nat),Vals xs bJ/\s.heap.get? p=some {cls:=.type "list",data:=.seq bJ.toArray n}/\xs.length<=sizeLine:=by
 obtain⟨z,bJ,n,r,e⟩:=I.cy p _ h;exact⟨bJ,n,r,e,z⟩
def N0(v:Int)(n d:Nat):max 0 (min (if v<0 then v+n else v) (n:Int))=((HT.hJ n d (some v):Nat):Int):=by
 rw[<-HT.z4];by_cases L:v<0
 .rw[av L,av L];omega
 .rw[aA L,aA L];omega
def Af(lo hi:Option Int)(n:Nat):(sliceBounds lo hi none n).1=((HT.hJ n 0 lo:Nat):Int)/\(sliceBounds lo hi none n).2.1=((HT.hJ n n hi:Nat):Int)/\(sliceBounds lo hi none n).2.2=1:=by
 refine⟨?_,?_,rfl⟩
 .cases lo with
  |none=>rfl
  |some i=>exact(N0 i n 0)
 .cases hi with
  |none=>rfl
  |some i=>exact(N0 i n n)
def yO(bJ:List Value)(lo hi:Option Int):slicePick bJ.toArray lo hi none=((bJ.drop (HT.hJ bJ.length 0 lo)).take (HT.hJ bJ.length bJ.length hi - HT.hJ bJ.length 0 lo)).toArray:=by
 obtain⟨h1,h2,h3⟩:=Af lo hi bJ.toArray.size;unfold slicePick;rw[h1,h2,h3];simp only[sliceRange_one,pick_run,cx]<;>rfl
def WZ(K:Frag):V->Option Int->Option Int->Hp->VK->Prop:=λx lo hi H Q=>∃a xs,x=.ref a/\lI K H a xs/\∀p,H p=none->Q (.ref p) (upd H p (.lst (BI xs lo hi)))
def LG:Sm X (WZ X.K):=by
 intro U s Z H x v vl vu lo hi sl Q I M hs pl pu h;obtain⟨a,xs,rfl,S,q⟩:=h;cases M;obtain⟨bJ,r,L,hz⟩:=I.list S;have c4:=r.length;refine⟨"list",_,slot_list_getitem.lookup,L.isList.typeIs,?_⟩;refine wpAny_getItem_list_slice L.isList hs pl pu .none *...* ?_ (by rw[cx]<;>omega)
 rw[yO,<-c4];refine⟨.ref `a,_,I.laid (t':=s.toks) (o:=.lst (BI xs lo hi)) (λb ob q=>bY _ q) (aK _) ?_,rfl,q _ (I.cy.fresh (aK _))⟩;exact⟨aV (vj xs lo hi) hz,_,0,(r.drop (HT.hJ xs.length 0 lo)).take (HT.hJ xs.length xs.length hi - HT.hJ xs.length 0 lo),cA _ rfl⟩
theorem tN:gZ X (.type "list") (λxs H Q=>∃p ys,xs=[.ref p]/\(lI X.K H p ys\/mj X.K H p ys)/\∀l,H l=none->Q (.ref l) (upd H l (.lst ys))):=by
 intro U s Z H xs us Q I r h;obtain⟨p,ys,rfl,S,q⟩:=h;obtain⟨u,rfl,rx⟩:=vals1 r;cases rx;have fin:∀(bJ:List Value),Vals ys bJ->ys.length<=sizeLine->∀(h':Heap) (L:Nat),(∀b o',s.heap.get? b=some o'->h'.get? b=some o')->
   h'.get? `a=some {cls:=.type "list",dict:=none,data:=.seq bJ.toArray L,slots:=#[]}->EP X U Z Q (.ref `a) {s with heap:=h'}:=λbJ M hz h' L kp e=>
  ⟨.ref `a,_,I.laid (t':=s.toks) kp (aK _) (show cB X.prog X.w _ h' _ (.lst ys)from⟨hz,bJ,L,M,e⟩),rfl,q _ (I.cy.fresh (aK _))⟩
 rcases S with S|S
 .obtain⟨bJ,M,pl,hz⟩:=I.list S;have c4:=M.length;obtain⟨o,ho,hc,n,hd⟩:=pl.isList;exact call_list_seq p (.inl rfl) ho hc hd (λh' L kp e=>fin bJ M hz h' L kp e) (by simp only[cx]<;>omega)
 .obtain⟨bJ,M,pl,hz⟩:=I.tuple S;have c4:=M.length;obtain⟨o,ho,hc,n,hd⟩:=pl;exact call_list_seq p (.inr rfl) ho hc hd (λh' L kp e=>fin bJ M hz h' L kp e) (by simp only[cx]<;>omega)
def rg:gZ X (.type "tuple") (λxs H Q=>∃p ys,xs=[.ref p]/\((lI X.K H p ys/\∀l,H l=none->Q (.ref l) (upd H l (.tup ys)))\/(mj X.K H p ys/\Q (.ref p) H))):=by
 intro U s Z H xs us Q I r h;obtain⟨p,ys,rfl,h⟩:=h;obtain⟨u,rfl,rx⟩:=vals1 r;cases rx;rcases h with⟨L,q⟩|⟨L,q⟩
 .obtain⟨bJ,M,pl,S⟩:=I.list L;have c4:=M.length;refine call_tuple_list pl.isList (λh' kp=>?_) (by simp only[cx]<;>omega);have I1:Inv X U Z H {s with heap:=h'}:=I.kept (t':=s.toks) kp;have I2:Inv X U Z (upd H h'.objs.size (.tup ys)) {s with heap:=h'.push {cls:=.type "tuple",data:=.seq bJ.toArray}}:=
   I1.laid (t':=s.toks) (λb o e=>bY _ e) (aK _) (show cB X.prog X.w _ _ _ (.tup ys)from⟨S,bJ,M,pK.new _ _⟩)
  exact⟨.ref h'.objs.size,_,I2,rfl,q _ (I1.cy.fresh (aK _))⟩
 .obtain⟨bJ,M,pl,S⟩:=I.tuple L;exact call_tuple_same pl ⟨.ref p,H,I,rfl,q⟩
def Za(K:Frag)(T:String)(x:V)(H:Hp):Prop:=match x with
 |.str _=>T="str"
 |.int _=>T="int"
 |.ref p=>(T="list"/\∃xs,lI K H p xs)\/(T="tuple"/\∃o,K.lookup p=some o/\o.cls=.type "tuple"/\o.dict=none)\/
   (T="dict"/\((∃kvs,H p=some (.dK kvs))\/∃kvs,H p=some (.dT kvs)))\/(T="set"/\∃S n,H p=some (.set S n))
 |_=>False
def Po(I:Inv X U Z H s)(r:RelV x v)(ty:Za X.K T x H):
  s.TypeIs v T/\∀a,v=.ref a->∃q,s.heap.get? a=some q/\q.dict=none:=by
 cases x with
 |str z=>
  obtain⟨t,rfl⟩:=r;cases(show T="str"from ty);exact⟨typeIs_str s z t,λ_ e=>nomatch e⟩
 |int i=>
  obtain⟨t,rfl⟩:=r;cases(show T="int"from ty);exact⟨typeIs_int s i t,λ_ e=>nomatch e⟩
 |ref p=>
  cases r;rcases ty with⟨rfl,xs,M⟩|⟨rfl,o,L,hc,hd⟩|⟨rfl,L⟩|⟨rfl,S,n,L⟩
  .obtain⟨bJ,_,pl,_⟩:=I.list M;refine⟨pl.isList.typeIs,λa e=>?_⟩;cases e;obtain⟨o,n,e,c,hd,_⟩:=pl;exact⟨o,e,hd⟩
  .refine⟨⟨o,I.nK p o L,hc⟩,λa e=>?_⟩;cases e;exact⟨o,I.nK _ o L,hd⟩
  .have z:∃o,s.heap.get? p=some o/\o.ExactDict:=by
    rcases L with⟨kvs,L⟩|⟨kvs,L⟩
    .obtain⟨_,_,_,_,o,_,_,e,ex,_⟩:=I.cy p _ L;exact⟨o,e,ex⟩
    .obtain⟨_,_,_,_,o,_,_,e,ex,_⟩:=I.cy p _ L;exact⟨o,e,ex⟩
   obtain⟨o,e,ex⟩:=z;refine⟨⟨o,e,ex.1⟩,λa b=>?_⟩;cases b;exact⟨o,e,ex.2.1⟩
  .obtain⟨o,_,_,_,e,ex,_⟩:=I.cy p _ L;refine⟨⟨o,e,ex.1⟩,λa b=>?_⟩;cases b;exact⟨o,e,ex.2.1⟩
 |_=>exact False.elim ty
def tBM(K:Frag)(T:String)(r:V->List V->Hp->VK->Prop)(to:TE)(t:TA):TE:=λZ H Q=>to Z H λx H1=>Za K T x H1/\t Z H1 λxs H2=>r x xs H2 Q
def BJ{e:Expr}{id:String}(q:PlainAttrs T)(slot:Slot T name id)(M:typeOf (.builtin id)=pure (.type "method_descriptor"))(hm:NY X id r)(S:PE X o to)(ha:PA X (e::af) t)
  (xB:autoParam (attributeBase o name X.env (eval o X.env)=eval o X.env) Rfz)
  (W0:((backTo cN (starEach (e::af) X.env)).all (λx=>!x.1)&&(backToKw cN (keywordEach [] X.env)).all (λx=>x.1.isSome)
   &&decide ((e::af).length+([]:List Keyword).length+(if([]:List Keyword).isEmpty then 0 else 1)<30))=true:=by rfl)
  (pP:autoParam ((b9.endLine==cN.line)=true) Rfz) (hs:autoParam (starEach (e::af) X.env=(false,eval e X.env)::starEach af X.env) Rfz) (Pq:autoParam ((backTo cN (starEach af X.env)).any (·.1)=false) Rfz):
  PE X (.Call (.Attribute o name b9) (e::af) [] cN) (tBM X.K T r to t):=by
 intro U s Z H Q I h;refine wpAny_Call_method_late xB W0 pP rfl (d7 (S U s Z H _ I h) λv s1 ⟨x,H1,L,r1,ty,q1⟩=>?_);obtain⟨h1,h2⟩:=Po L r1 ty;refine⟨T,id,q,slot,M,h1,h2,?_⟩;have b:=ha cN U s1 Z H1 _ L q1;rw[hs]at b⊢;refine pb (by show(false||(backTo cN (starEach af X.env)).any (·.1))=false;rw[Pq]<;>rfl) (mJ ?_);exact d7 b λus s2 ⟨vs,H2,I2,r2,q2⟩=>hm U s2 Z H2 x vs v us Q I2 r1 r2 q2
def W3(X:Cx)(id:String)(r:V->List V->Hp->VK->Prop):Prop:=
 ∀(U:List (Addr×Obj)) (s:Shared) (Z:St) (H:Hp) (x:V) (xs:List V) (v:Value) (us:List Value) (Q:VK),Inv X U Z H s->RelV x v->Vals xs us->r x xs H Q->
  wpAny `c X.A (call (.builtin id) (v::us)) (EP X U Z Q) X.xe s
theorem Vals.one:∀{x:V} {us:List Value},Vals [x] us->∃u,us=[u]/\RelV x u
 |_,_,.cons r .nil=>⟨_,rfl,r⟩
theorem Vals.dropLast (h:Vals xs us):Vals xs.dropLast us.dropLast:=by
 induction h with
 |nil=>exact .nil
 |cons r t L=>
  cases t with
  |nil=>exact .nil
  |cons q t'=>exact .cons r L
theorem Vals.rep (h:Vals xs us):∀k:Nat,Vals (List.replicate k xs).flatten (List.replicate k us).flatten
 |0=>.nil
 |k+1=>by
  rw[nE,nE,mL,mL];exact Vals.append h (Vals.rep h k)
theorem foldl_rep(bJ:List Value):∀(k:Nat) (acc:List Value),
  List.foldl (λb q=>b++q) acc.toArray (List.replicate k bJ.toArray)=(acc++(List.replicate k bJ).flatten).toArray
 |0,acc=>by simp
 |k+1,acc=>by
  have e:acc.toArray++bJ.toArray=(acc++bJ).toArray:=by simp
  have L:(acc++bJ)++(List.replicate k bJ).flatten=acc++(List.replicate (k+1) bJ).flatten:=by
   rw[nE,mL,wX]
  rw[<-L,<-foldl_rep bJ k (acc++bJ),<-e,nE,fY]
def Inv.LH {bJ tD:List Value}{f:Array Value->Array Value}{t':Nat}(I:Inv X U Z H s)(b:H l=some (.lst xs))
  (e:s.heap.get? l=some {cls:=.type "list",data:=.seq bJ.toArray n}) (hf:f bJ.toArray=tD.toArray) (r:Vals ys tD) (M:ys.length<=sizeLine):
  Inv X U Z (upd H l (.lst ys)) {s with heap:=s.heap.update l (Obj.mapSeq f),toks:=t'}:=by
 have q:=PySem.IsL.update e f;rw[hf]at q;refine I.write (x:=l) (e:=l) (by rw[b];exact trivial) (.inl rfl) (λS u hb L=>(wK s.heap (Obj.mapSeq f) (Ne.symm hb)).trans L) ⟨_,q⟩ ?_
 exact⟨M,tD,_,r,q⟩
def Inv.LJ {t':Nat}(I:Inv X U Z H s)(b:Vals ys bJ)(r:ys.length<=sizeLine):
  Inv X U Z (upd H `a (.lst ys)) {s with heap:=s.heap.push {cls:=.type "list",data:=.seq bJ.toArray},toks:=t'}:=
 I.laid (λ_ _ q=>bY _ q) (aK _) ⟨r,bJ,0,b,cA _ rfl⟩
theorem Inv.fresh (I:Inv X U Z H s):H `a=none:=I.cy.fresh (aK _)
def Inv.yP (I:Inv X U Z H s)(b:H l=some (.lst xs)):xs.length<=sizeLine/\∃(bJ:List Value) (n:Nat),Vals xs bJ/\xs.length=bJ.length/\s.heap.get? l=some {cls:=.type "list",data:=.seq bJ.toArray n}:=by
 obtain⟨z,bJ,n,r,e⟩:=I.cy l _ b;exact⟨z,bJ,n,r,r.length,e⟩
def Iy(h:aa<=sizeLine):Builtin.List.listTooLong aa=false:=by
 unfold Builtin.List.listTooLong;exact fV ∎
def Fv:V->List V->Hp->VK->Prop:=λx vs H Q=>∃l xs y,x=.ref l/\vs=[y]/\H l=some (.lst xs)/\xs.length<sizeLine/\Q .bM (upd H l (.lst (xs++[y])))
theorem g0:W3 X "list.append" Fv:=by
 intro U s Z H x vs v us Q I b M h;obtain⟨l,xs,y,rfl,rfl,L,hz,q⟩:=h;cases b;obtain⟨u,rfl,S⟩:=M.one;obtain⟨z,bJ,n,r,hl,e⟩:=I.yP L;refine kF lx ⟨_,e,rfl⟩ F.entry_list_append (F.args_list_append_2 _ _) (PySem.list_append l bJ.toArray n u (by rw[cx];omega)) ⟨e,?_⟩;refine⟨.bM,_,I.LH (tD:=bJ++[u]) L e *...* (r.append (.cons S .nil)) ?_,rfl,q⟩;rw[di,List.length_singleton];omega
def W4:R2:=λx y H Q=>∃l b xs zs,x=.ref l/\y=.ref b/\H l=some (.lst xs)/\H b=some (.lst zs)/\xs.length+zs.length<=sizeLine/\∀p,H p=none->Q (.ref p) (upd H p (.lst (xs++zs)))
def Pt:sE X (binaryOp .Add) W4:=by
 intro U s Z H x y v u Q I M S h;obtain⟨l,b,xs,zs,rfl,rfl,hH,hB,hz,q⟩:=h;cases M;cases S;obtain⟨z,bJ,n,r,hl,e⟩:=I.yP hH;obtain⟨z2,L,n2,r2,W5,e2⟩:=I.yP hB;refine PySem.P.add_list e e2 ?_ (by rw[cx,cx];omega)
 have ea:bJ.toArray++L.toArray=(bJ++L).toArray:=by simp
 rw[ea];exact⟨.ref _,_,I.LJ (t':=s.toks) (r.append r2) (by rw[di];omega),rfl,q _ I.fresh⟩
def W6:R2:=λx y H Q=>∃l k xs,x=.ref l/\y=.int k/\H l=some (.lst xs)/\-(2 ^63)<=k/\k<2 ^63/\xs.length*k.toNat<=sizeLine/\
 ∀p,H p=none->Q (.ref p) (upd H p (.lst (List.replicate k.toNat xs).flatten))
def len_rep(xs:List α)(k:Nat):(List.replicate k xs).flatten.length=k*xs.length:=by
 induction k with
 |zero=>simp
 |succ k L=>rw[nE,mL,di,L,Nat.succ_mul,Nat.add_comm]
theorem Pu:sE X (binaryOp .Mult) W6:=by
 intro U s Z H x y v u Q I S ry h;obtain⟨l,k,xs,rfl,rfl,hH,h1,h2,M,q⟩:=h;cases S;obtain⟨t,rfl⟩:=ry;obtain⟨z,bJ,n,r,hl,e⟩:=I.yP hH;have c4:bJ.toArray.size*k.toNat<=sizeLine:=by rw[cx,<-hl];exact M
 have W7:¬bJ.toArray.size*k.toNat>(2 ^63 - 1)/8:=by
  have:(sizeLine:Nat)<=(2 ^63 - 1)/8:=∅
  omega
 have W8:¬(!Builtin.List.listFitsIndex k)=true:=by
  rw[fitsIndex_both h1 h2];exact hX
 have TC:¬Builtin.List.listTooLong (bJ.toArray.size*k.toNat)=true:=by
  rw[Iy c4];exact hX
 have Iz:List.foldl (λL b=>L++b) #[] (List.replicate (if bJ.toArray.isEmpty=true then 0 else k.toNat) bJ.toArray)=(List.replicate k.toNat bJ).flatten.toArray:=by
  have f0:∀m:Nat,List.foldl (λL b=>L++b) #[] (List.replicate m bJ.toArray)=(List.replicate m bJ).flatten.toArray:=λm=>by
   have:=foldl_rep bJ m [];rw[List.nil_append]at this;exact this
  rw[f0];cases bJ with
  |nil=>simp
  |cons a r'=>rw[aA *...*]
 refine wpAny_binaryOp_repeat_ref (T:="list") (U:="int") ∅ ⟨_,e,rfl⟩ (λs'=>typeIs_int s' k t) noFill_list_mul F.fills_int_mul F.slot_int_rmul repeat_list F.slot_int_index.lookup
  (kF F.slot_int_rmul (typeIs_int s k t) F.entry_int_rmul (F.args_int_rmul_2 _ _) (int___rmul___int_list k t l bJ.toArray n)
   ⟨e,rfl,⟨_,e,rfl⟩,kF F.slot_list_mul ⟨_,e,rfl⟩ F.entry_list_mul (F.args_list_mul_2 _ _) (AutoListH.list___mul___list_int_3 l bJ.toArray n k t W8 W7 TC) ⟨e,?_⟩⟩)
 rw[Iz];exact⟨.ref _,_,I.LJ (t':=s.toks) (r.rep k.toNat) (by rw[len_rep,Nat.mul_comm];exact M),rfl,q _ I.fresh⟩
section
variable [DecidableEq α]
noncomputable def m7(kvs:List (α×V))(k:α):Option V:=(kvs.find? λL=>decide (L.1=k)).map (·.2)
noncomputable def putK(kvs:List (α×V))(k:α)(v:V):List (α×V):=
 if(kvs.any λL=>decide (L.1=k))=true then kvs.map (λL=>if L.1=k then(L.1,v)else L)else kvs++[(k,v)]
noncomputable def rh(kvs:List (α×V))(k:α):List (α×V):=kvs.filter λL=>decide (L.1≠k)
def tR{p:α×V}{r:List (α×V)}{k:α}(e:p.1=k):m7 (p::r) k=some p.2:=by simp[m7,j7,e]
def tT{p:α×V}{r:List (α×V)}{k:α}(e:¬p.1=k):m7 (p::r) k=m7 r k:=by simp[m7,j7,e]
theorem BK(k:α):∀kvs:List (α×V),(kvs.any λb=>decide (b.1=k))=(m7 kvs k).isSome
 |[]=>rfl
 |p::r=>by
  rw[jc];by_cases e:p.1=k
  .simp only[tR e,jb e,sY,ja]
  .rw[tT e,fV e,j_];exact BK k r
def pQ(kvs:List (α×V))(k:α)(v:V):(putK kvs k v).length<=kvs.length+1:=by
 unfold putK;split
 .rw[aP];omega
 .rw[di,cY,xh];omega
def mi.m8 (r:mi o u):o.isSome=u.isSome:=by
 cases o with
 |none=>cases u with
  |none=>rfl
  |some _=>exact fe r
 |some _=>cases u with
  |none=>exact fe r
  |some _=>rfl
theorem mi.getD (r:mi o u)(b:RelV d d'):RelV (o.getD d) (u.getD d'):=by
 cases o with
 |none=>cases u with
  |none=>exact b
  |some _=>exact fe r
 |some _=>cases u with
  |none=>exact fe r
  |some _=>exact r
def KV.val (r:KV kvs vs)(k:α):mi (m7 kvs k) (valueAt vs k):=by
 unfold KV at r
 induction r with
 |nil=>exact True.intro
 |@cons p q ps L h t M=>
  obtain⟨h1,h2⟩:=h;by_cases e:p.1=k
  .have I:q.1=k:=h1.symm.trans e;have b:valueAt (q::L) k=some q.2:=by simp[valueAt,j7,I]
   rwa[tR e,b]
  .have I:¬q.1=k:=λz=>e (h1.trans z);have b:valueAt (q::L) k=valueAt L k:=by simp[valueAt,j7,I]
   rwa[tT e,b]
theorem KV.any (r:KV kvs vs)(k:α):(kvs.any λb=>decide (b.1=k))=vs.any λb=>decide (b.1=k):=by
 unfold KV at r
 induction r with
 |nil=>rfl
 |cons h t L=>rw[jc,jc,L,h.1]
def KV.Pw (r:KV kvs vs)(k:α)(I:RelV y u):
  KV (kvs.map λb=>if b.1=k then(b.1,y)else b) (vs.map λb=>if b.1=k then(b.1,u)else b):=by
 unfold KV at r⊢
 induction r with
 |nil=>exact .nil
 |@cons p q ps M h t L=>
  rw[a_,a_];refine .cons ?_ L
  obtain⟨h1,h2⟩:=h;by_cases e:p.1=k
  .rw[av e,av (h1.symm.trans e)];exact⟨h1,I⟩
  .rw[aA e,aA (λz=>e (h1.trans z))];exact⟨h1,h2⟩
def KV.put (r:KV kvs vs)(k:α)(b:RelV y u):KV (putK kvs k y) (stored vs k u):=by
 unfold putK stored;rw[r.any k];by_cases e:(vs.any λL=>decide (L.1=k))=true
 .rw[av e,av e];exact r.Pw k b
 .rw[aA e,aA e];exact Paired.snoc r ⟨rfl,b⟩
theorem KV.drop (r:KV kvs vs)(k:α):KV (rh kvs k) (without vs k):=by
 unfold KV at r⊢;unfold rh without
 induction r with
 |nil=>exact .nil
 |@cons p q ps M h t L=>
  obtain⟨h1,h2⟩:=h;rw[List.filter_cons,List.filter_cons];by_cases e:p.1=k
  .have a:¬decide (p.1≠k)=true:=by simp[e]
   have b:¬decide (q.1≠k)=true:=by simp[h1.symm.trans e]
   rwa[aA a,aA b]
  .have I:¬q.1=k:=λz=>e (h1.trans z);have a:decide (p.1≠k)=true:=by simp[e]
   have b:decide (q.1≠k)=true:=by simp[I]
   rw[av a,av b];exact .cons ⟨h1,h2⟩ L
def KV.keys {kvs:List (α×V)}{vs:List (α×Value)}(r:KV kvs vs):kvs.map (·.1)=vs.map (·.1):=by
 unfold KV at r
 induction r with
 |nil=>rfl
 |cons h t L=>rw[a_,a_,L,h.1]
theorem KV.length (r:KV kvs vs):kvs.length=vs.length:=Paired.length r
def IA(kvs:List (α×V))(k:α):(rh kvs k).length<=kvs.length:=gF _ _
end
theorem ri(r:RelV (kV k) u):(bI P w).is k u=true:=by
 cases k with
 |inl i=>obtain⟨t,e⟩:=(show∃t,u=Value.int i t from r);subst e;exact Bx P w i t
 |inr x=>obtain⟨t,e⟩:=(show∃t,u=Value.str x t from r);subst e;exact By P w x t
theorem y':∀{ks:List Key} {us:List Value},Vals (ks.map kV) us->ItemsAre (bI P w) ks us
 |[],_,r=>by rw[sZ]at r;cases r;exact .nil
 |k::ks,_,r=>by
  rw[a_]at r;cases r with
  |cons h t=>exact .cons (ri h) (y' t)
abbrev KT(H:Hp):List (List Key×V)->List (List Key×Addr×Value)->Prop:=Paired λp q=>p.1=q.1/\H q.2.1=some (.tup (p.1.map kV))/\RelV p.2 q.2.2
def KT.val (r:KT H kvs xs)(k:List Key):mi (m7 kvs k) ((atKey xs k).map (·.2)):=by
 induction r with
 |nil=>exact True.intro
 |@cons p q ps L h t M=>
  obtain⟨h1,_,h2⟩:=h;by_cases e:p.1=k
  .have I:q.1=k:=h1.symm.trans e;have b:atKey (q::L) k=some q.2:=by simp[atKey,j7,I]
   rwa[tR e,b]
  .have I:¬q.1=k:=λz=>e (h1.trans z);have b:atKey (q::L) k=atKey L k:=by simp[atKey,j7,I]
   rwa[tT e,b]
def KT.Pw (r:KT H kvs xs)(k:List Key)(I:RelV y u):
  KT H (kvs.map λb=>if b.1=k then(b.1,y)else b) (xs.map (putAt k u)):=by
 induction r with
 |nil=>exact .nil
 |@cons p q ps M h t L=>
  rw[a_,a_];refine .cons ?_ L
  obtain⟨h1,h2,h3⟩:=h;unfold putAt;by_cases e:p.1=k
  .rw[av e,av (h1.symm.trans e)];exact⟨h1,h2,I⟩
  .rw[aA e,aA (λz=>e (h1.trans z))];exact⟨h1,h2,h3⟩
def KT.put (r:KT H kvs xs)(k:List Key)(hb:H b=some (.tup (k.map kV)))(I:RelV y u):
  KT H (putK kvs k y) (storedH xs k b u):=by
 have e:(kvs.any λL=>decide (L.1=k))=(atKey xs k).isSome:=by
  rw[BK,(r.val k).m8,nH]
 unfold putK storedH;rw[e];by_cases q:(atKey xs k).isSome=true
 .rw[av q,av q];exact r.Pw k I
 .rw[aA q,aA q];exact Paired.snoc r ⟨rfl,hb,I⟩
def KT.keeps {H':Hp}(r:KT H kvs xs)(q:∀b ys,H b=some (.tup ys)->H' b=some (.tup ys)):KT H' kvs xs:=
 Paired.OU r λ_ _ z=>⟨z.1,q _ _ z.2.1,z.2.2⟩
def N1(ok:rP P w H h)(e:Rd H a u):cB P w H h a u:=e.ok ok
def tU(ok:rP P w H h)(e:Rd H a (.dK kvs)):kvs.length<=sizeLine/\(a==sysModules)=false/\∃vs,KV kvs vs/\h.DictOf (bI P w) a vs:=
 show cB P w H h a (.dK kvs)from N1 ok e
def Fw(ok:rP P w H h)(e:H a=some (.dK kvs)):kvs.length<=sizeLine/\(a==sysModules)=false/\∃vs,KV kvs vs/\h.DictOf (bI P w) a vs:=tU ok (.inl e)
def uK{ks:List Key}(ok:rP P w H h)(e:H a=some (.tup (ks.map kV))):(tupleKind (bI P w)).is h ks a:=by
 obtain⟨_,bJ,r,o,h1,h2,n,h3,_⟩:=(show cB P w H h a (.tup (ks.map kV))from ok a _ e);exact⟨o,bJ.toArray,n,h1,h2,h3,by simpa using y' r⟩
theorem xC(ok:rP P w H h)(e:Rd H a (.dT kvs)):kvs.length<=sizeLine/\(a==sysModules)=false/\
  ∃xs,KT H kvs xs/\h.DictOfH (tupleKind (bI P w)) a xs:=by
 obtain⟨z,y,xs,r,o,es,ep,h1,h2,h3,h4,I⟩:=(show cB P w H h a (.dT kvs)from N1 ok e);refine⟨z,y,xs,r,o,es,ep,h1,h2,h3,h4,λx L=>?_,I⟩;have all:∀{l:List (List Key×V)} {m:List (List Key×Addr×Value)},KT H l m->∀x∈m,(tupleKind (bI P w)).is h x.1 x.2.1:=by
  intro l m q
  induction q with
  |nil=>intro x L;exact nomatch L
  |@cons p q ps S b t M=>
   intro x L;rcases aZ.mp L with e|L
   .subst e;exact uK ok (by rw[<-b.1];exact b.2.1)
   .exact M x L
 exact all r x L
def TF(ok:rP P w H h)(e:H a=some (.dT kvs)):kvs.length<=sizeLine/\(a==sysModules)=false/\
  ∃xs,KT H kvs xs/\h.DictOfH (tupleKind (bI P w)) a xs:=xC ok (.inl e)
def rR(H:Hp)(a:Addr)(y:V)(r:Option V):Prop:=
 (∃kvs k,Rd H a (.dK kvs)/\y=kV k/\r=m7 kvs k)\/∃kvs k b,Rd H a (.dT kvs)/\y=.ref b/\H b=some (.tup (k.map kV))/\r=m7 kvs k
def D6(H:Hp)(a:Addr)(y v:V)(H':Hp):Prop:=
 (∃kvs k,H a=some (.dK kvs)/\y=kV k/\kvs.length<sizeLine/\H'=upd H a (.dK (putK kvs k v)))\/
 ∃kvs k b,H a=some (.dT kvs)/\y=.ref b/\H b=some (.tup (k.map kV))/\kvs.length<sizeLine/\H'=upd H a (.dT (putK kvs k v))
theorem rR.k {H:Hp}{k:Key}(e:H a=some (.dK kvs)):rR H a (kV k) (m7 kvs k):=.inl ⟨kvs,k,.inl e,rfl,rfl⟩
def rR.t {H:Hp}{k:List Key}(e:H a=some (.dT kvs))(q:H b=some (.tup (k.map kV))):rR H a (.ref b) (m7 kvs k):=.inr ⟨kvs,k,b,.inl e,rfl,q,rfl⟩
theorem D6.k {H:Hp}{k:Key}(e:H a=some (.dK kvs))(b:kvs.length<sizeLine):D6 H a (kV k) v (upd H a (.dK (putK kvs k v))):=.inl ⟨kvs,k,e,rfl,b,rfl⟩
def D6.t {H:Hp}{k:List Key}(e:H a=some (.dT kvs))(q:H b=some (.tup (k.map kV)))(r:kvs.length<sizeLine):
  D6 H a (.ref b) v (upd H a (.dT (putK kvs k v))):=.inr ⟨kvs,k,b,e,rfl,q,r,rfl⟩
def Inv.big (I:Inv X U Z H s):sysModules<s.heap.objs.size:=by
 have h:mainGlobals<s.heap.objs.size:=(I.mod.glob.keeps I.bk).lt;exact pG ∅ h
theorem GZ{A:Around}(hu:A.units+1<cLine)(I:Inv X U Z H s)(g:rR H a y (some v))(M:RelV y u)(h:∀q S,Inv X U Z H S->RelV v q->ae q S):
  wpAny `c A (getItem (.ref a) u) ae E s:=by
 rcases g with⟨kvs,k,e,L,l⟩|⟨kvs,k,b,e,L,eb,l⟩
 .subst L;obtain⟨z,hd,vs,rel,dd⟩:=tU I.cy e;obtain⟨q,hw,r⟩:=mi.some_of (v:=v) (o:=valueAt vs k) (by rw[l];exact rel.val k);exact wpAny_getItem_of (ri M) dd.mapOf hw (h q _ (I.tok _) r)
 .subst L;cases(show u=Value.ref b from M);obtain⟨z,hd,xs,rel,dd⟩:=xC I.cy e;obtain⟨q,hw,r⟩:=mi.some_of (v:=v) (o:=(atKey xs k).map (·.2)) (by rw[l];exact rel.val k);obtain⟨p,hp,Sn⟩:=Option.map_eq_some_iff.mp hw;refine wpAny_getItem_heap (pv hu) (uK I.cy eb) dd hp ?_
  rw[Sn];exact h q _ (I.tok _) r
theorem W9{A:Around}(S:A.units+1<cLine)(I:Inv X U Z H s)(g:rR H a y o)(r:RelV y u)(h:∀M,Inv X U Z H M->ae (.bool o.isSome) M):
  wpAny `c A (compareOp .In u (.ref a)) ae E s:=by
 rcases g with⟨kvs,k,e,L,l⟩|⟨kvs,k,b,e,L,eb,l⟩
 .subst L;obtain⟨z,hd,vs,rel,dd⟩:=tU I.cy e;refine wpAny_in_of (ri r) hd dd.mapOf ?_
  rw[<-(rel.val k).m8,<-l];exact h _ (I.tok _)
 .subst L;cases(show u=Value.ref b from r);obtain⟨z,hd,xs,rel,dd⟩:=xC I.cy e;refine wpAny_in_heap (pv S) (uK I.cy eb) hd dd ?_
  have q:=(rel.val k).m8;rw[nH]at q;rw[<-q,<-l];exact h _ (I.tok _)
theorem LK{A:Around}(S:A.units+1<cLine)(I:Inv X U Z H s)(g:rR H a y o)(r:RelV y u)(h:∀M,Inv X U Z H M->ae (.bool (!o.isSome)) M):
  wpAny `c A (compareOp .NotIn u (.ref a)) ae E s:=by
 rcases g with⟨kvs,k,e,L,l⟩|⟨kvs,k,b,e,L,eb,l⟩
 .subst L;obtain⟨z,hd,vs,rel,dd⟩:=tU I.cy e;refine wpAny_notIn_of (ri r) hd dd.mapOf ?_
  rw[<-(rel.val k).m8,<-l];exact h _ (I.tok _)
 .subst L;cases(show u=Value.ref b from r);obtain⟨z,hd,xs,rel,dd⟩:=xC I.cy e;refine wpAny_notIn_heap (pv S) (uK I.cy eb) hd dd ?_
  have q:=(rel.val k).m8;rw[nH]at q;rw[<-q,<-l];exact h _ (I.tok _)
def tV(I:Inv X U Z H s)(M:S1 (H a))(hs:Heap.SameBut a s.heap h')(he:∃q,h'.get? a=some q)(new:cB X.prog X.w (upd H a r) h' a r):
  Inv X U Z (upd H a r) {s with heap:=h',toks:=aa}:=
 I.write (x:=a) (e:=a) M (.inl rfl) (λb q hb z=>(hs.2 b hb).trans z) he new
def xD{a:Addr}{kvs:List (Key×V)}(z:kvs.length<=sizeLine)(hd:(a==sysModules)=false)(rel:KV kvs vs)(dd:h'.DictOf (bI P w) a vs):
  cB P w H' h' a (.dK kvs):=⟨z,hd,vs,rel,dd⟩
theorem G0{A:Around}(hu:A.units+1<cLine)(I:Inv X U Z H s)(g:D6 H a y v H')(ry:RelV y u)(rv:RelV v r)(h:∀s',Inv X U Z H' s'->ac () s'):
  wpAny `c A (setItem (.ref a) u r) ac E s:=by
 rcases g with⟨kvs,k,e,S,l,eH⟩|⟨kvs,k,b,e,S,eb,l,eH⟩
 .subst S eH;obtain⟨z,hd,vs,rel,dd⟩:=Fw I.cy e;have hz:vs.length<=sizeLine:=by rwa[<-rel.length]
  have hl:(putK kvs k v).length<=sizeLine:=by have:=pQ kvs k v;omega
  refine wpAny_setItem_pairs (hsz:=hz) (ri ry) dd λh' L hs=>h _ ?_
  have he:∃q,h'.get? a=some q:=let⟨q,_,_,M,_⟩:=L;⟨q,M⟩
  exact tV I (by rw[e];exact True.intro) hs he (xD hl hd (rel.put k rv) L)
 .subst S eH;cases(show u=Value.ref b from ry);obtain⟨z,hd,xs,rel,dd⟩:=TF I.cy e;have hz:xs.length<=sizeLine:=by rwa[<-Paired.length rel]
  have hl:(putK kvs k v).length<=sizeLine:=by have:=pQ kvs k v;omega
  refine wpAny_setItem_heap (hsz:=hz) (pv hu) (uK I.cy eb) dd λh' L hs=>h _ ?_
  obtain⟨q,es,ep,M,h2,h3,h4,_,h5⟩:=L;refine tV I (by rw[e];exact True.intro) hs ⟨q,M⟩ ⟨hl,hd,_,(rel.put k eb rv).keeps λc ys ec=>?_,q,es,ep,M,h2,h3,h4,h5⟩;rwa[aM (SX ec e (λz=>nomatch z))]
theorem N2(I:Inv X U Z H s)(e:H a=some (.dK kvs))(r:RelV (kV k) u)(l:m7 kvs k=some v)(hm:ah=[]\/∃x,ah=[x])
  (h:∀b M,Inv X U Z (upd H a (.dK (rh kvs k))) M->RelV v b->ae b M):wpAny `c A (call (.builtin "dict.pop") (.ref a::u::ah)) ae E s:=by
 obtain⟨z,hd,vs,rel,dd⟩:=Fw I.cy e;obtain⟨b,hw,S⟩:=mi.some_of (v:=v) (o:=valueAt vs k) (by rw[<-l];exact rel.val k);have hp:(keyPart u).isSome=true:=by
  cases k with
  |inl i=>obtain⟨t,q⟩:=(show∃t,u=Value.int i t from r);subst q;rfl
  |inr x=>obtain⟨t,q⟩:=(show∃t,u=Value.str x t from r);subst q;rfl
 have ha:argsOk "dict.pop" ⟨.ref a::u::ah,[]⟩:=by
  rcases hm with q|⟨x,q⟩
  .subst q;exact PySem.F.args_dict_pop_2 _ _
  .subst q;exact PySem.F.args_dict_pop_3 _ _ _
 refine pJ sJ dd.typeIs PySem.F.entry_dict_pop ha (meets_dict_pop_there (bI X.prog X.w) a (ri r) ah hm hp)
  ⟨vs,b,dd,by rwa[<-rel.length],hw,λh' L hs=>h b _ ?_ S⟩
 have he:∃q,h'.get? a=some q:=let⟨q,_,_,hq,_⟩:=L;⟨q,hq⟩
 exact tV I (by rw[e];exact True.intro) hs he (xD (aV (IA kvs k) z) hd (rel.drop k) L)
theorem Px(I:Inv X U Z H s)(e:H a=some (.dK kvs))(b:RelV (kV k) u)(l:m7 kvs k=none)(h:∀M,Inv X U Z H M->ae r M):
  wpAny `c A (call (.builtin "dict.pop") [.ref a,u,r]) ae E s:=by
 obtain⟨z,hd,vs,rel,dd⟩:=Fw I.cy e;have hn:valueAt vs k=none:=mi.none_of (by rw[<-l];exact rel.val k);have L:(keyPart u).isSome=true:=by
  cases k with
  |inl i=>obtain⟨t,q⟩:=(show∃t,u=Value.int i t from b);subst q;rfl
  |inr x=>obtain⟨t,q⟩:=(show∃t,u=Value.str x t from b);subst q;rfl
 exact pJ sJ dd.typeIs PySem.F.entry_dict_pop (PySem.F.args_dict_pop_3 _ _ _) (meets_dict_pop_default (bI X.prog X.w) a (ri b) hd L r) ⟨vs,dd,hn,h _ (I.tok _)⟩
def TH(I:Inv X U Z H s)(e:Rd H a (.dK kvs))(h:∀t b,Inv X U Z H b->ae (.int kvs.length t) b):wpAny `c A (call (.builtin "len") [.ref a]) ae E s:=by
 obtain⟨z,hd,vs,rel,dd⟩:=tU I.cy e;refine call_len_dict hd dd (by rw[<-rel.length];rw[eO]at z;omega) ?_
 rw[<-rel.length];exact h _ _ (I.tok _)
def Py(i:Expr):Prop:=∀L iv,subscripted i false L iv=operate [L,iv] (getItem L iv)
def LL{id:String}
  (M:typeLookup (.type T) "__getitem__"=pure (some (.builtin id))) (hs:Py slice)
  (h:wpAny (model prog w) A (eval value env) (λo b=>wpAny (model prog w) A (eval slice env) (λi yM=>yM.TypeIs o T/\wpAny (model prog w) A (getItem o i) Q E yM) E b) E s):
  wpAny (model prog w) A (eval (.Subscript value slice pos) env) Q E s:=by
 refine Subscript_ (dX h (λo b S=>dX S (λi yM L=>?_) λ_ _ x=>x) λ_ _ x=>x);obtain⟨q,L⟩:=L;unfold subscriptTail;refine aH ?_
 rw[getitemInPython_of_ne q.not_modules];refine aH (wpAny_specialOf q M ?_);have fin:wpAny (model prog w) A (subscripted slice false o i) (λr I=>wpAny (model prog w) A (letTemporaryGo value o r>>=λ_=>pure r) Q E I) E yM:=by
  rw[hs o i];exact wpAny_operating (dX L (λr I LM=>aH (wpAny_letTemporaryGo (aR LM))) λ_ _ x=>x)
 first
  |exact aR (aH fin)
  |exact aH (aR (aH fin))
  |exact aH fin
def BM(I:Inv X U Z H s)(g:rR H a y o):s.TypeIs (.ref a) "dict":=by
 rcases g with⟨kvs,k,e,_,_⟩|⟨kvs,k,b,e,_,_,_⟩
 .obtain⟨_,_,vs,_,dd⟩:=tU I.cy e;exact dd.typeIs
 .obtain⟨_,_,xs,_,dd⟩:=xC I.cy e;exact dd.typeIs
def TJ(b ty q:TE):TS:=λD Z H=>q Z H λv H1=>b Z H1 λx H2=>ty Z H2 λy r=>∃a L,x=.ref a/\D6 r a y v L/\D.nx Z L
theorem LN{X:Cx}(b:X.A.units+1<cLine)(q:PE X o M)(hi:PE X i ty)(S:PE X value tv)(hs:swapsWith value (some (.Subscript o i pos')) b9.line X.env=pure false):
  PS X (.Assign [.Subscript o i pos'] value b9) (TJ M ty tv):=by
 intro U s Z H D I h;refine wpAny_Assign_Subscript (d7 (S U s Z H _ I h) λr s1 ⟨v,H1,L,rv,q1⟩=>d7 (q U s1 Z H1 _ L q1) λu s2 ⟨x,H2,I2,rx,q2⟩=>d7 (hi U s2 Z H2 _ I2 q2) λiv s3 ⟨y,H3,I3,ry,a,H4,ex,g,q3⟩=>?_) hs;subst ex;obtain rfl:u=Value.ref a:=rx;exact G0 b I3 g ry rv λs4 I4=>⟨Z,H4,I4,q3⟩
def BN(h:Heap)(hb:sysModules<h.objs.size):cB P w H (h.push {cls:=.type "dict",data:=.dict #[]}) h.objs.size (.dK []):=
 ⟨gH _,gG.mpr (Ne.symm (c_ hb)),[],.nil,Heap.DictOf.new h⟩
def Pz:TE:=λ_ H Q=>∀p,H p=none->Q (.ref p) (upd H p (.dK []))
def IC:PE X (.Dict [] [] pos) Pz:=λU s Z H Q I h=>
 wpAny_Dict_empty ⟨.ref `a,_,I.laid (a:=`a) (o:=.dK []) (t':=s.toks) (λ_ _ q=>bY _ q) (aK _) (BN s.heap I.big),rfl,h _ (I.cy.fresh (aK _))⟩
def xE:List (TE×TE)->St->Hp->(List (V×V)->Hp->Prop)->Prop
 |[],_,H,Q=>Q [] H
 |(L,b)::r,Z,H,Q=>L Z H λx H1=>b Z H1 λy H2=>xE r Z H2 λps q=>Q ((x,y)::ps) q
abbrev VV:List (V×V)->List (Value×Value)->Prop:=Paired λp q=>RelV p.1 q.1/\RelV p.2 q.2
def So(X:Cx)(pos:Pos)(keys:List (Option Expr))(values:List Expr)(b:List (TE×TE)):Prop:=
 ∀(U:List (Addr×Obj)) (s:Shared) (Z:St) (H:Hp) (Q:List (V×V)->Hp->Prop),Inv X U Z H s->xE b Z H Q->
  wpAny `c X.A (evalPairs (pairTrees keys values X.env pos)) (λvs L=>∃ps H',Inv X U Z H' L/\VV ps vs/\Q ps H') X.xe s
def Fx:So X pos [] [] []:=λU s Z H Q I h=>pairTrees_nil_walk ⟨[],H,I,.nil,h⟩
def BP(b:PE X k q)(r:PE X c5 M)(S:So X pos ks vs BO):
  So X pos (some k::ks) (c5::vs) ((q,M)::BO):=λU s Z H Q I h=>
 pairTrees_cons_walk (d7 (b U s Z H _ I h) λu s1 ⟨x,H1,L,rx,q1⟩=>d7 (r U s1 Z H1 _ L q1) λw2 s2 ⟨y,H2,I2,ry,q2⟩=>
  d7 (S U s2 Z H2 _ I2 q2) λws s3 ⟨ps,H3,I3,rel,q3⟩=>⟨(x,y)::ps,H3,I3,.cons ⟨rx,ry⟩ rel,q3⟩)
def iQ(kvs more:List (Key×V)):List (Key×V):=more.foldl (λacc L=>putK acc L.1 L.2) kvs
def KV.merge:∀{more:List (Key×V)} {rs:List (Key×Value)} {kvs:List (Key×V)} {vs:List (Key×Value)},KV more rs->KV kvs vs->KV (iQ kvs more) (merged vs rs):=by
 intro more rs kvs vs r;unfold KV at r
 induction r generalizing kvs vs with
 |nil=>intro q;exact q
 |@cons p q ps I h t L=>
  intro b;have e:KV (putK kvs p.1 p.2) (stored vs q.1 q.2):=by
   have:=b.put p.1 h.2;rwa[<-h.1]
  exact L e
theorem je:∀(more kvs:List (Key×V)),(iQ kvs more).length<=kvs.length+more.length
 |[],kvs=>by show kvs.length<=kvs.length+0;omega
 |p::r,kvs=>by
  have h1:=je r (putK kvs p.1 p.2);have h2:=pQ kvs p.1 p.2;show(iQ (putK kvs p.1 p.2) r).length<=_;rw[cY];omega
theorem xF:∀{kvs:List (Key×V)} {ws:List (Value×Value)},VV (kvs.map λI=>(kV I.1,I.2)) ws->∃rs,Carries (bI P w) ws rs/\KV kvs rs
 |[],_,r=>by rw[sZ]at r;cases r;exact⟨[],True.intro,.nil⟩
 |p::kvs,_,r=>by
  rw[a_]at r;cases r with
  |@cons a b as bs h t=>
   obtain⟨rs,c,q⟩:=xF (P:=P) (w:=w) t;obtain⟨L,b2⟩:=b;exact⟨(p.1,b2)::rs,⟨ri h.1,rfl,c⟩,.cons ⟨rfl,h.2⟩ q⟩
def TK(b:List (TE×TE)):TE:=λZ H Q=>∀p,H p=none->xE b Z (upd H p (.dK [])) λps H2=>H2 p=some (.dK [])/\∃kvs:List (Key×V),ps=kvs.map (λL=>(kV L.1,L.2))/\kvs.length<=15/\Q (.ref p) (upd H2 p (.dK (iQ [] kvs)))
theorem Fy(h:So X pos keys values r)(M:keys.all (·.isSome)=true)(S:keys.length=values.length)(h0:keys≠[])
  (PB:keys.length<=15):PE X (.Dict keys values pos) (TK r):=by
 intro U s Z H Q I q;have hn:=I.cy.fresh (aK `a);have I1:=I.laid (a:=`a) (o:=.dK []) (h':=s.heap.push {cls:=.type "dict",data:=.dict #[]}) (t':=s.toks) (λ_ _ q=>bY _ q) (aK _) (BN s.heap I.big);refine wpAny_Dict_walk (knd:=bI X.prog X.w) M S h0 PB (d7 (h U _ Z _ _ I1 (q _ hn)) λws s2 ⟨ps,H2,L,rel,e,kvs,ep,lk,q2⟩=>?_);subst ep;obtain⟨rs,c,rk⟩:=xF (P:=X.prog) (w:=X.w) rel;obtain⟨z,hd,vs0,r0,dd⟩:=Fw L.cy e;cases r0;refine⟨rs,c,dd,λh' b hs=>⟨.ref `a,_,?_,rfl,q2⟩⟩;have hz:(iQ [] kvs).length<=sizeLine:=by
  have h1:=je kvs [];rw[xh]at h1;rw[eO];omega
 have he:∃q,h'.get? `a=some q:=let⟨q,_,_,hq,_⟩:=b;⟨q,hq⟩
 exact tV L (by rw[e];exact True.intro) hs he (xD hz hd (rk.merge .nil) b)
structure M1(X:Cx)(o:Expr)(m:Str)(b9:Pos)(e:Expr)(cN:Pos):Prop where
 base:attributeBase o m X.env (eval o X.env)=eval o X.env
 V5:((backTo cN (starEach [e] X.env)).all (λx=>!x.1)&&(backToKw cN (keywordEach [] X.env)).all (λx=>x.1.isSome)
  &&decide (([e]:List Expr).length+([]:List Keyword).length+(if([]:List Keyword).isEmpty then 0 else 1)<30))=true
 line:(b9.endLine==cN.line)=true
 trees:backTo cN (starEach [e] X.env)=[(false,eval e X.env)]
structure M2(X:Cx)(o:Expr)(m:Str)(b9:Pos)(e f:Expr)(cN:Pos):Prop where
 base:attributeBase o m X.env (eval o X.env)=eval o X.env
 V5:((backTo cN (starEach [e,f] X.env)).all (λx=>!x.1)&&(backToKw cN (keywordEach [] X.env)).all (λx=>x.1.isSome)
  &&decide (([e,f]:List Expr).length+([]:List Keyword).length+(if([]:List Keyword).isEmpty then 0 else 1)<30))=true
 line:(b9.endLine==cN.line)=true
 trees:backTo cN (starEach [e,f] X.env)=[(false,eval e X.env),(false,eval f X.env)]
def V6(H:Hp)(a:Addr):Prop:=(∃kvs,Rd H a (.dK kvs))\/∃kvs,Rd H a (.dT kvs)
def D7(I:Inv X U Z H s)(d:V6 H a):
  s.TypeIs (.ref a) "dict"/\(∀b,Value.ref a=.ref b->∃r,s.heap.get? b=some r/\r.dict=none)/\(a==sysModules)=false:=by
 rcases d with⟨kvs,e⟩|⟨kvs,e⟩
 .obtain⟨_,hd,vs,_,dd⟩:=tU I.cy e;refine⟨dd.typeIs,λb q=>?_,hd⟩;cases q;obtain⟨r,_,_,h1,h2,_⟩:=dd;exact⟨r,h1,h2.2.1⟩
 .obtain⟨_,hd,xs,_,dd⟩:=xC I.cy e;refine⟨dd.typeIs,λb q=>?_,hd⟩;cases q;obtain⟨r,_,_,h1,h2,_⟩:=dd;exact⟨r,h1,h2.2.1⟩
theorem PC{A:Around}(hu:A.units+1<cLine)(I:Inv X U Z H s)(g:rR H a y o)(q:RelV y u)(M:RelV d r)(h:∀S s',Inv X U Z H s'->RelV (o.getD d) S->ae S s'):
  wpAny `c A (call (.builtin "dict.get") [.ref a,u,r]) ae E s:=by
 rcases g with⟨kvs,k,e,L,l⟩|⟨kvs,k,b,e,L,eb,l⟩
 .subst L;obtain⟨z,hd,vs,rel,dd⟩:=tU I.cy e;refine pJ wI dd.typeIs PySem.F.entry_dict_get (PySem.F.args_dict_get_3 _ _ _) (meets_dict_get_default (bI X.prog X.w) a (ri q) hd r) ⟨_,dd.mapOf,h _ _ (I.tok _) ?_⟩;rw[l];exact(rel.val k).getD M
 .subst L;cases(show u=Value.ref b from q);obtain⟨z,hd,xs,rel,dd⟩:=xC I.cy e;refine pJ wI dd.typeIs PySem.F.entry_dict_get (PySem.F.args_dict_get_3 _ _ _) (meetsH_dict_get_default (tupleKind (bI X.prog X.w)) a b hd r) ⟨pv hu,k,xs,uK I.cy eb,dd,h _ _ (I.tok _) ?_⟩;rw[l];exact(rel.val k).getD M
def PD(b ty q:TE):TE:=λZ H Q=>b Z H λx H1=>∃a,x=.ref a/\V6 H1 a/\ty Z H1 λy H2=>q Z H2 λz L=>∃o,rR L a y o/\Q (o.getD z) L
def PH(b ty:TE):TE:=λZ H Q=>b Z H λx H1=>∃a,x=.ref a/\V6 H1 a/\ty Z H1 λy H2=>∃kvs k v,H2 a=some (.dK kvs)/\y=kV k/\m7 kvs k=some v/\Q v (upd H2 a (.dK (rh kvs k)))
def PK(b ty q:TE):TE:=λZ H Q=>b Z H λx H1=>∃a,x=.ref a/\V6 H1 a/\ty Z H1 λy H2=>q Z H2 λz L=>∃kvs k,L a=some (.dK kvs)/\y=kV k/\
 (∀v,m7 kvs k=some v->Q v (upd L a (.dK (rh kvs k))))/\(m7 kvs k=none->Q z L)
theorem ID{X:Cx}(b:X.A.units+1<cLine)(q:PE X o r)(he:PE X e ty)(hf:PE X f M)(m:M2 X o "get" b9 e f cN):PE X (.Call (.Attribute o "get" b9) [e,f] [] cN) (PD r ty M):=by
 intro U s Z H Q I h;refine xl m.base m.V5 m.line sI wI PySem.F.type_dict_get (d7 (q U s Z H _ I h) λu s1 ⟨x,H1,L,S,a,ex,d,q1⟩=>?_);subst ex;obtain rfl:u=Value.ref a:=S;obtain⟨t1,t2,_⟩:=D7 L d;refine⟨t1,t2,?_⟩;rw[m.trees];refine pb rfl (mJ (mO (d7 (he U s1 Z H1 _ L q1) λiv s2 ⟨y,H2,I2,ry,q2⟩=>
  mO (d7 (hf U s2 Z H2 _ I2 q2) λfv s3 ⟨z,H3,I3,rz,ov,g,q3⟩=>sT ?_))))
 exact PC b I3 g ry rz λw' s4 I4 q_=>⟨_,H3,I4,q_,q3⟩
theorem IE(b:PE X o q)(he:PE X e ty)(m:M1 X o "pop" b9 e cN):PE X (.Call (.Attribute o "pop" b9) [e] [] cN) (PH q ty):=by
 intro U s Z H Q I h;refine xl m.base m.V5 m.line sI sJ PySem.F.type_dict_pop (d7 (b U s Z H _ I h) λu s1 ⟨x,H1,L,r,a,ex,d,M⟩=>?_);subst ex;obtain rfl:u=Value.ref a:=r;obtain⟨t1,S,_⟩:=D7 L d;refine⟨t1,S,?_⟩;rw[m.trees];refine pb rfl (mJ (mO (d7 (he U s1 Z H1 _ L M) λiv s2 ⟨y,H2,I2,ry,kvs,k,v,ea,ey,l,q2⟩=>sT ?_)));subst ey;exact N2 I2 ea ry l (.inl rfl) λw' s3 I3 q_=>⟨v,_,I3,q_,q2⟩
theorem IF(S:PE X o td)(he:PE X e ty)(hf:PE X f tx)(m:M2 X o "pop" b9 e f cN):PE X (.Call (.Attribute o "pop" b9) [e,f] [] cN) (PK td ty tx):=by
 intro U s Z H Q I h;refine xl m.base m.V5 m.line sI sJ PySem.F.type_dict_pop (d7 (S U s Z H _ I h) λu s1 ⟨x,H1,b,rx,a,ex,d,q1⟩=>?_);subst ex;obtain rfl:u=Value.ref a:=rx;obtain⟨t1,t2,_⟩:=D7 b d;refine⟨t1,t2,?_⟩;rw[m.trees];refine pb rfl (mJ (mO (d7 (he U s1 Z H1 _ b q1) λiv s2 ⟨y,H2,I2,q,q2⟩=>
  mO (d7 (hf U s2 Z H2 _ I2 q2) λfv s3 ⟨z,H3,r,rz,kvs,k,M,ey,q3,q4⟩=>sT ?_))))
 subst ey;cases l:m7 kvs k with
 |some v=>exact N2 r M q l (.inr ⟨fv,rfl⟩) λw' s4 L q_=>⟨v,_,L,q_,q3 v l⟩
 |none=>exact Px r M q l λs4 L=>⟨z,H3,L,rz,q4 l⟩
theorem za:∀{vs:List Value} {ns:List Int},IntsAre vs ns->Vals (ns.map V.int) vs
 |_,_,.nil=>.nil
 |_,_,.cons n t h=>.cons ⟨t,rfl⟩ (za h)
def PL(H:Hp):Prop:=∀b,H b=none\/∃o xs,H b=some (.ll o (.lst xs))
theorem IG{a:Addr}{x:Str}{dr:Shared}
  (KX:K.In dr.heap) (V7:dr.heap.Ns mainGlobals mg) (hb:dr.heap.Ns builtinsNs mb) (S:∀x:Str,x≠"__name__"->mb x=bootBuiltins x) (W_:dr.heap.NoLimit) (hg:dr.gens=#[])
  (ha:dr.heap.get? a=some {cls:=.type "list",data:=.seq ah.toArray}) (hi:IntsAre ah ns) (hl:ns.length<=sizeLine) (hr:cQ k callerA)
  (F:∀base:Heap,K.In base->base.Ns mainGlobals mg->fK P w K mg base CX k fa ai [x] sp) (TL:∀(s:Shared) (u:Value),BindsTo s ai ⟨[u],[]⟩ [(x,u)])
  (Iu:∀H:Hp,PL H->lI K H a (ns.map V.int)->sp [.ref a] H (λv _=>v=.bl true) λ_ _ _=>False)
  (Xa:∀H e I,CX [] H dr (λ_ _ _=>False) e I->False):
  codeAny (model P w) callerA (.call (.ref fa) ⟨[.ref a],[]⟩) (λr I=>r=.ok (.ret (.bool true))/\OldK dr.heap I.heap/\I.os=dr.os/\AllBare I.gens) dr:=by
 have rv:=za hi;have Xb:=hi.length;have core:∀H:Hp,PL H->lI K H a (ns.map V.int)->rP P w H dr.heap->(∀b,H b≠none->b=a)->(H a≠none->K.lookup a=none)->
   codeAny (model P w) callerA (.call (.ref fa) ⟨[.ref a],[]⟩) (λr I=>r=.ok (.ret (.bool true))/\OldK dr.heap I.heap/\I.os=dr.os/\AllBare I.gens) dr:=by
  intro H hO hS cy hA hK;have Fz:∀{b:Addr} {o:Obj},dr.heap.get? b=some o->H b=none->(z6 dr.heap H).get? b=some o:=λe n=>HY e n;have Tv:∀{b:Addr} {o:Obj} {es:Array DictEntry} {ep:Nat},dr.heap.get? b=some o->o.data=.dict es ep->H b=none:=λ{b o es ep} e d=>by
   cases q:H b with
   |none=>rfl
   |some u=>
    have e':b=a:=hA b (by rw[q];simp);subst e';rw[ha]at e;cases e;have d':Data.seq ah.toArray _=Data.dict es ep:=d;cases d'
  have M:∀{b:Addr} {m:Str->Option Value},dr.heap.Ns b m->(z6 dr.heap H).Ns b m:=λ{b m} ⟨o,es,ep,e,d,r⟩=>⟨o,es,ep,Fz e (Tv e d),d,r⟩;have Zb:K.In (z6 dr.heap H):=λb o e=>Fz (KX b o e) (by
   cases q:H b with
   |none=>rfl
   |some u=>
    have e':b=a:=hA b (by rw[q];simp);subst e';rw[hK (by rw[q];simp)]at e;cases e)
  have hM:Mod K mg (z6 dr.heap H):=⟨Zb,M V7,⟨mb,M hb,S⟩,let⟨mc,h1,h2⟩:=W_;⟨mc,M h1,h2⟩⟩;have e0:yN P w K mg (z6 dr.heap H) callerA [] dr H:=⟨rfl,hM,λb o e=>Lh e,Nat.le_of_eq (GL _ _),trivial,λb hb=>absurd (show b∈([]:List Addr)from hb) *...*,cy,.of_eq hg⟩;refine pI ((F _ Zb (M V7)).run callerA [] dr H ⟨[.ref a],[]⟩ [.ref a] [.ref a] _ _ hr e0 (TL dr (.ref a)) (.cons rfl .nil) (Iu H hO hS)) λr I h=>?_
  cases r with
  |error e=>exact(Xa H e I h).elim
  |ok fl=>
   cases fl with
   |next=>exact False.elim h
   |brk=>exact False.elim h
   |cont=>exact False.elim h
   |ret u=>
    obtain⟨v,H',os,bare,un,Xc,r',q⟩:=h;have q':v=.bl true:=q;subst q';obtain rfl:u=Value.bool true:=r';refine⟨rfl,OldK.of_keep λb o e=>?_,os,bare⟩;cases q:H b with
    |none=>exact un.keep b o e q (by intro z;exact absurd (show b∈([]:List Addr)from z) *...*) *...*
    |some u=>
     rcases hO b with z|⟨ob,xs,z⟩
     .rw[q]at z;cases z
     .have z2:=un.mZ b ob _ z;obtain⟨e1,_⟩:=cy b _ z;obtain⟨e2,_⟩:=Xc b _ z2;rw[e]at e1;cases e1;exact e2
 cases hk:K.lookup a with
 |some o=>
  have e:=KX a o hk;rw[ha]at e;cases e;refine core (λ_=>none) (λ_=>.inl rfl) (.inr ⟨_,ah.toArray,_,hk,rfl,rfl,rfl,by rwa[cx,Xb],by simpa using rv⟩) (λb u z=>by have L:(none:Option HO)=some u:=z;cases L) (λb z=>absurd rfl z) λz=>absurd rfl z
 |none=>
  refine core (λb=>if b=a then some (.ll {cls:=.type "list",data:=.seq ah.toArray} (.lst (ns.map V.int)))else none) (λb=>?_) (.inl (.inr ⟨{cls:=.type "list",data:=.seq ah.toArray},av rfl⟩)) (λb u z=>?_) (λb z=>?_) λ_=>hk
  .by_cases hb:b=a
   .exact .inr ⟨_,_,av hb⟩
   .exact .inl (aA hb)
  .by_cases hb:b=a
   .have L:=(av hb).symm.trans z;cases L;subst hb;exact⟨ha,by rwa[aP],ah,_,rv,ha⟩
   .have L:=(aA hb).symm.trans z;cases L
  .by_cases hb:b=a
   .exact hb
   .exact absurd (aA hb) z
def LO{l:PySem.W.OpenLaw}{I:World->Heap->Prop}{d:DefRec}{K:Params->Frag}{CX:World->Ly}{sp:World->Sp}{x:Str}
  (S:l.most=some n) (V3:n<=sizeLine) (SU:d.params.defaults=[]) (hr:cQ k callerA)
  (hY:∀(w:World) (h:Heap),I w h->(K w.params).In h)
  (F:∀(w:World) (mg:Str->Option Value) (fa:Addr) (h:Heap),(K w.params).In h->h.Ns mainGlobals mg->mg d.name=some (.ref fa)->
   ∃fd:FuncData,(∀(s:Shared) (u:Value),BindsTo s fd ⟨[u],[]⟩ [(x,u)])/\
    ∀base:Heap,(K w.params).In base->base.Ns mainGlobals mg->fK l.prog w (K w.params) mg base (CX w) k fa fd [x] (sp w))
  (Iu:∀(w:World) (H:Hp) (a:Addr) (ns:List Int),ns.length<=n->PL H->lI (K w.params) H a (ns.map V.int)->sp w [.ref a] H (λv _=>v=.bl true) λ_ _ _=>False)
  (Xa:∀(w:World) (H:Hp) (s:Shared) (e:Value) (r:Shared),CX w [] H s (λ_ _ _=>False) e r->False):
  PySem.W.WalkO q loose XP I l.row.toRowW d [] (λf vs=>PySem.call f vs):=by
 refine Y1.Bw S SU λw hU dr mg mb fa o pm cd doc a vs ns G ρ ho hd GH SV OP hints L hg=>?_
 have M:=hY w _ ρ;obtain⟨fd,hb,hF⟩:=F w mg fa _ M G.T.g SV;exact IG M G.T.g G.T.b G.T.builtins G.T.nolimit hg OP hints (aV L V3) hr hF hb (λH hO hS=>Iu w H a ns L hO hS) λH e r=>Xa w H dr e r
noncomputable def v8(s:Stmt):Arguments:=match s with
 |.FunctionDef _ a _ _ _ _ _ _ _ _=>a
 |_=>{posonlyargs:=[],args:=[],vararg:=none,kwonlyargs:=[],kw_defaults:=[],kwarg:=none,defaults:=[]}
noncomputable def fG(s:Stmt):List Stmt:=match s with
 |.FunctionDef _ _ b _ _ _ _ _ _ _=>b
 |_=>[]
noncomputable def aL(s:Stmt):Scope:=match s with
 |.FunctionDef _ _ _ _ _ _ sc _ _ _=>sc
 |_=>{kind:=.function,names:=[],isGenerator:=false,isCoroutine:=false}
abbrev rj:Ly:=λ_ _ _ _ _ _=>False
abbrev E0:XK:=λ_ _ _=>False
def IH:Passes rj X E0:=λ_ _ _ _ _ _ _ h=>h.elim
structure yH(K:Frag)(x qual:Str)(st:Stmt)(f:Addr)(fd:FuncData):Prop where
 ex:∃(oc:Value) (od:Option Addr) (kV doc pm:Value) (an:Option Addr) (fL ct:Value) (Ir:Array (Option Value)),
  fd=PySem.W.fnOf x qual (v8 st) (fG st) (aL st) .none kV doc pm an fL ct/\K.lookup f=some ⟨oc,od,.func fd,Ir⟩/\PySem.W.codeIn K fL qual=true
 kp:PySem.W.keepIn K (.ref f)=true
def yH.ok {fd:FuncData}{sp:Sp}(F:yH K x qual st f fd)(S:gJ N ps (aL st))(len:∀vs H Q E,sp vs H Q E->vs.length=ps.length)
  (b:∀(fL:Value) (A:Around) (outer:List Env) (s:Shared) (H:Hp) (vs:List V) (Q:VK) (E:XK),cQ k (A.deeper (envOfC qual (aL st) `a f fL))->sp vs H Q E->
   ∃t,yF (oX rj P w K mg base N qual (aL st) f fL A outer s H E).HQ (fG st) t/\t {nx:=λ_ H'=>Q .bM H',rt:=Q} (start N vs) H):fK P w K mg base rj (k+1) f fd ps sp:=by
 obtain⟨M,od,kV,doc,pm,an,fL,ct,Ir,rfl,lk,L⟩:=F.ex;refine NX lk L S len λA outer s H vs Q E r I=>?_
 obtain⟨t,h,q⟩:=b fL A outer s H vs Q E r I;exact⟨t,h.HQ,q⟩
def yH.binds {fd:FuncData}{ps:List Str}(F:yH K x qual st f fd)
  (h:∀(kV doc pm:Value) (an:Option Addr) (fL ct:Value) (us:List Value),us.length=ps.length->bindArgs (PySem.W.fnOf x qual (v8 st) (fG st) (aL st) .none kV doc pm an fL ct) ⟨us,[]⟩=pure (ps.zip us)):Binds K fd ps []:=by
 obtain⟨L,od,kV,doc,pm,an,fL,ct,Ir,rfl,lk,b⟩:=F.ex;exact .all (h kV doc pm an fL ct)
theorem ay(b:cQ k A):A.units+1<cLine:=lF (Nat.add_le_add_left (by decide:1<=64) _) b.units
def PM{A B:Prop}(h:B):if false=true then A else B:=by
 rwa[aA hX]
def PN{A B:Prop}(h:A):if true=true then A else B:=by
 rwa[av rfl]
def aG(H H':Hp):Prop:=∀b o,H b=some o->H' b=some o
def aG.refl (H:Hp):aG H H:=λ_ _ h=>h
def aG.trans (a:aG H H1)(b:aG H1 H2):aG H H2:=λc o h=>b c o (a c o h)
def aG.free (e:aG H H')(h:H' l=Option.none):H l=Option.none:=by
 cases q:H l with
 |none=>rfl
 |some o=>
  rw[e l o q]at h;cases h
def aG.seq (e:aG H H')(h:lI K H a xs):lI K H' a xs:=by
 rcases h with(h|⟨o,h⟩)|h
 .exact .inl (.inl (e _ _ h))
 .exact .inl (.inr ⟨o,e _ _ h⟩)
 .exact .inr h
theorem xG{β:Type}{f:α->β->Sem (ForInStep β)}{g:β->α->β}:∀(l:List α) (c:β),(∀x∈l,∀c,f x c=pure (.yield (g c x)))->forIn l c f=(pure (l.foldl g c):Sem β)
 |[],c,_=>rfl
 |x::l,c,h=>by
  rw[xi,h x bF,pure_bind];exact xG l _ λy L=>h y (bG _ L)
noncomputable def ml(env:Env)(cs:List (Str×Addr))(x:Str×NameKind):List (Str×Addr):=if x.2== .free then(x.1,(env.cells.lookup x.1).getD 0)::cs else cs
def vO(scope:Scope)(env:Env):List (Str×Addr):=scope.names.foldl (ml env) []
def tW{scope:Scope}{env:Env}(h:∀x∈scope.names,x.2=.free->∃c,env.cells.lookup x.1=some c):closureFor scope env=pure (vO scope env):=by
 simp only[closureFor];rw[xG (g:=ml env) scope.names [] (λx b c=>by
  obtain⟨n,k⟩:=x;by_cases L:k=.free
  .subst L;obtain⟨a,ha⟩:=h _ b rfl;have q:env.cells.lookup n=some a:=ha;simp[cellOf,q,ml]
  .have e:(k==NameKind.free)=false:=by simpa using L
   simp[e,ml])]
 rfl
theorem xH{env:Env}:∀(names:List (Str×NameKind)) (acc:List (Str×Addr)),(∀x∈names,x.2=.free->∃c,env.cells.lookup x.1=some c)->(∀x c,acc.lookup x=some c->env.cells.lookup x=some c)->
  ∀x c,(names.foldl (ml env) acc).lookup x=some c->env.cells.lookup x=some c
 |[],_,_,ha,x,c,e=>ha x c e
 |(n,k)::r,acc,hf,ha,x,c,e=>by
  refine xH r (ml env acc (n,k)) (λy b=>hf y (bG _ b)) (λy d L=>?_) x c e;unfold ml at L;by_cases q:k=.free
  .subst q;obtain⟨a,hn⟩:=hf (n,.free) bF rfl;have I:env.cells.lookup n=some a:=hn;simp only[bD,bo,I,xa,bT]at L;split at L
   .rename_i b;have:y=n:=by simpa using b
    subst this;rwa[I]
   .exact ha y d L
  .have e:(k==NameKind.free)=false:=by simpa using q
   simp only[e,bR,bO]at L;exact ha y d L
theorem xI:∀(names:List (Str×NameKind)) (acc:List (Str×Addr)) (x:Str),((acc.lookup x).isSome=true\/(x,NameKind.free)∈names)->((names.foldl (ml env) acc).lookup x).isSome=true
 |[],_,_,h=>h.elim (λz=>z) λz=>absurd z *...*
 |(n,k)::r,acc,x,h=>by
  refine xI r (ml env acc (n,k)) x ?_
  unfold ml;rcases h with h|h
  .left;split
   .rw[bT];split<;>simp_all
   .exact h
  .rcases aZ.mp h with h|h
   .left;cases h;simp[bT]
   .exact .inr h
theorem rS{env:Env}:∀{names:List (Str×NameKind)} {x:Str} {k:NameKind},(names.map λ(n,k)=>if(k==NameKind.free&&env.scope.kind== .function&&env.kindOf n==some .cell)then(n,NameKind.cell)else(n,k)).lookup x=some k->
  names.lookup x=some k\/names.lookup x=some .free
 |[],_,_,h=>by simp at h
 |(n,j)::r,x,k,h=>by
  simp only[a_]at h;by_cases b:x=n
  .subst b;by_cases L:(j==NameKind.free&&env.scope.kind== .function&&env.kindOf x==some .cell)=true
   .rw[av L]at h;simp only[bg,fF]at L;right;rw[bT,bD,L.1.1]
   .rw[aA L]at h;left;rw[bT,bD]at h⊢;exact h
  .have e:(x==n)=false:=by simpa using b
   have h':(r.map λ(n,k)=>if(k==NameKind.free&&env.scope.kind== .function&&env.kindOf n==some .cell)then(n,NameKind.cell)else(n,k)).lookup x=some k:=by
    split at h<;>(rw[bT,e]at h;exact h)
   rcases rS h' with z|z
   .left;rwa[bT,e]
   .right;rwa[bT,e]
theorem tX{env:Env}:∀{names:List (Str×NameKind)} {x:Str},names.lookup x=some .free->
  (names.map λ(n,k)=>if(k==NameKind.free&&env.scope.kind== .function&&env.kindOf n==some .cell)then(n,NameKind.cell)else(n,k)).lookup x=some .cell\/
  (names.map λ(n,k)=>if(k==NameKind.free&&env.scope.kind== .function&&env.kindOf n==some .cell)then(n,NameKind.cell)else(n,k)).lookup x=some .free
 |[],_,h=>by simp at h
 |(n,j)::r,x,h=>by
  simp only[a_];by_cases L:x=n
  .subst L;rw[bT,bD]at h;have q:j=.free:=Option.some.inj h;by_cases b:(j==NameKind.free&&env.scope.kind== .function&&env.kindOf x==some .cell)=true
   .left;rw[av b,bT,bD]
   .right;rw[aA b,bT,bD,q]
  .have e:(x==n)=false:=by simpa using L
   rw[bT,e]at h;rcases tX (env:=env) h with z|z
   .left;split<;>(rwa[bT,e])
   .right;split<;>(rwa[bT,e])
theorem gy:∀(names:List (Str×NameKind)) (n:Nat) (acc:List (Str×Addr)),cellsFrom n names acc=cellsFrom n names []++acc
 |[],_,_=>rfl
 |(x,k)::r,n,acc=>by
  unfold cellsFrom;split
  .rw[gy r (n+1) ((x,n)::acc),gy r (n+1) [(x,n)],wX];rfl
  .exact gy r n acc
theorem gz:∀(names:List (Str×NameKind)) (n:Nat) (acc:List (Str×Addr)) (x:Str),((acc.lookup x).isSome=true\/(x,NameKind.cell)∈names)->((cellsFrom n names acc).lookup x).isSome=true
 |[],_,_,_,h=>h.elim (λz=>z) λz=>absurd z *...*
 |(y,k)::r,n,acc,x,h=>by
  unfold cellsFrom;split
  .refine gz r _ _ x ?_
   rcases h with h|h
   .left;rw[bT];split<;>simp_all
   .rcases aZ.mp h with h|h
    .left;cases h;simp[bT]
    .exact .inr h
  .refine gz r _ _ x ?_
   rcases h with h|h
   .exact .inl h
   .rcases aZ.mp h with h|h
    .cases h;simp_all
    .exact .inr h
theorem mn:∀(names:List (Str×NameKind)) (n:Nat) (acc:List (Str×Addr)) (p:Str×Addr),p∈cellsFrom n names acc->p∈acc\/(p.1,NameKind.cell)∈names
 |[],_,_,_,h=>.inl h
 |(y,k)::r,n,acc,p,h=>by
  unfold cellsFrom at h;split at h
  .rename_i L;rcases mn r _ _ p h with h|h
   .rcases aZ.mp h with h|h
    .subst h;have:k=.cell:=by simpa using L
     subst this;exact .inr (bF ..)
    .exact .inl h
   .exact .inr (bG _ h)
  .exact(mn r _ _ p h).imp id λq=>bG _ q
def pw_eq{l:List (Str×Addr)}(h:l.Pairwise λx y=>x.2≠y.2){a b:Str×Addr}(ha:a∈l)(hb:b∈l)(e:a.2=b.2):a=b:=by
 induction h with
 |nil=>cases ha
 |cons h1 _ L=>
  rcases aZ.mp ha with ha|ha
  .rcases aZ.mp hb with hb|hb
   .rw[ha,hb]
   .exact absurd (by rwa[<-ha]) (h1 b hb)
  .rcases aZ.mp hb with hb|hb
   .exact absurd (by rw[<-hb];exact e.symm) (h1 a ha)
   .exact L ha hb
def mem_lookup{l:List (Str×Addr)}(h:l.lookup x=some c):(x,c)∈l:=by
 induction l with
 |nil=>cases h
 |cons p l L=>
  obtain⟨y,d⟩:=p;rw[bT]at h;split at h
  .rename_i q;have:x=y:=by simpa using q
   cases h;subst this;exact bF ..
  .exact bG _ (L h)
theorem D8{s:Shared}{scope:Scope}{globals:Addr}{Q:Env->Shared->Prop}
  (q:∀h',h'.Ns `a (λ_=>none)->(∀b o,s.heap.get? b=some o->h'.get? b=some o)->CellsOk h' (`a+1) (cellsFrom (`a+1) scope.names [])->
   Q (newEnv scope `a globals (cellsFrom (`a+1) scope.names cl) qual none .none (some env) builtinsNs) {s with heap:=h'}):
  wpAny M A (newFunctionEnv scope globals cl [] qual none .none (some env)) Q E s:=by
 simp only[newFunctionEnv,ja,bo];refine aH (wpAny_alloc ?_);refine aH (wpAny_layCells _ (λname kind cells=>by cases L:kind==NameKind.cell<;>simp[L]) _ _ _ _ ?_);have ok:=cellsFrom_ok scope.names (s.heap.push {cls:=.type "dict",data:=.dict #[]}) (`a+1) [] ⟨λ_ _ hm=>(nomatch hm),List.Pairwise.nil⟩ (by rw[jr];exact aK _);rw[jr]at ok;rw[show({s with heap:=s.heap.push {cls:=.type "dict",data:=.dict #[]}}:Shared).heap.objs.size=`a+1 from jr ..];refine aH ?_
 rw[xm];exact aR (aR (q _ ((Heap.Ns.new s.heap (.type "dict")).keeps (pushCells_keeps _ _)) (λb o e=>pushCells_keeps _ _ b o (bY _ e)) ok))
def tY(X:Cx)(scope:Scope)(N:List Str)(s:Shared)(H:Hp)(ex:List Addr):Cx where
 prog:=X.prog
 w:=X.w
 K:=X.K
 mg:=X.mg
 base:=X.base
 A:=X.A
 N:=N
 hU:=s
 Bz:=H
 env:=compEnvC scope (cellsFrom (`a+1) scope.names (vO scope X.env)) `a X.env
 outer:=X.stack
 stack:=X.stack
 ex:=ex
 fn:=λx=>scope.names.lookup x==some .cell
 calm:=X.calm
 pn:=[]
 xe:=λ_ _=>False
noncomputable def TM(N N':List Str)(ix:List (Option Nat))(sc scope:Scope):Bool:=
 decide (N'.length=ix.length)&&(N'.zip ix).all (λp=>match p.2 with
  |none=>true
  |some j=>decide (N[j]?=some p.1)&&decide (scope.names.lookup p.1=some .free))&&
 scope.names.all (λy=>(y.2 != .cell||decide (scope.names.lookup y.1=some .cell))&&(y.2 != .free||decide (sc.names.lookup y.1=some .cell))&&(y.2 != .local||decide (scope.names.lookup y.1=some .local)))&&(scope.kind== .function)
structure fy(X:Cx)(N':List Str)(ix:List (Option Nat))(scope:Scope):Prop where
 len:N'.length=ix.length
 free:∀(i:Nat) (x:Str) (j:Nat),N'[i]?=some x->ix[i]?=some (some j)->X.N[j]?=some x/\scope.names.lookup x=some .free
 own:∀y∈scope.names,y.2=.cell->scope.names.lookup y.1=some .cell
 cell:∀y∈scope.names,y.2=.free->X.env.scope.names.lookup y.1=some .cell
 loc:∀y∈scope.names,y.2=.local->scope.names.lookup y.1=some .local
 kind:scope.kind=.function
def fy.of {X:Cx}{N:List Str}{sc:Scope}(hN:X.N=N)(hs:X.env.scope=sc)(h:TM N N' ix sc scope=true):fy X N' ix scope:=by
 unfold TM at h;simp only[bg,hZ,fh]at h;obtain⟨⟨⟨h1,h2⟩,h3⟩,h4⟩:=h;refine⟨h1,λi x j b r=>?_,λy L z=>?_,λy L z=>?_,λy L z=>?_,by simpa using h4⟩
 .have m:(x,some j)∈N'.zip ix:=eK (i:=i) (by rw[List.getElem?_zip_eq_some];exact⟨b,r⟩);have q:=h2 _ m;simp only[bg,hZ]at q;rwa[hN]
 .have q:=(h3 y L).1.1;rw[z]at q;simp only[wY,j_,hZ]at q;exact q
 .have q:=(h3 y L).1.2;rw[z]at q;simp only[wY,j_,hZ]at q;rwa[hs]
 .have q:=(h3 y L).2;rw[z]at q;simp only[wY,j_,hZ]at q;exact q
noncomputable def jf(ix:List (Option Nat))(Z:St):St:=ix.map λo=>o.bind λj=>(Z[j]?).join
theorem D9{fp:List Addr}(L:fy X N' ix scope)(I:Inv X U Z H s)
  (V7:h'.Ns `a (λ_=>none)) (S:∀b o,s.heap.get? b=some o->h'.get? b=some o) (Xd:CellsOk h' (`a+1) (cellsFrom (`a+1) scope.names []))
  (hf:∀b∈fp,pN X U H b) (Zc:∀b∈fp,b<`a):Inv (tY X scope N' s H fp) [] (jf ix Z) H {s with heap:=h',toks:=aa}:=by
 have xJ:∀y∈scope.names,y.2=.free->∃c,X.env.cells.lookup y.1=some c:=λy hy z=>I.ok.has y.1 (.inl (L.cell y hy z));have sub:∀x c,(vO scope X.env).lookup x=some c->X.env.cells.lookup x=some c:=xH scope.names [] xJ (λx c e=>by simp at e);have has:∀x,scope.names.lookup x=some .free->∃c,(vO scope X.env).lookup x=some c:=λx e=>
  lu.mp (xI scope.names [] x (.inr (jZ e)))
 have old:∀x c,(vO scope X.env).lookup x=some c->c<s.heap.objs.size:=λx c e=>let⟨_,q⟩:=I.cell x c (sub x c e);q.lt
 have look:∀x c,(cellsFrom (`a+1) scope.names (vO scope X.env)).lookup x=some c->(x,c)∈cellsFrom (`a+1) scope.names []\/((cellsFrom (`a+1) scope.names []).lookup x=none/\(vO scope X.env).lookup x=some c):=λx c e=>by
  rw[gy,sP]at e;cases q:(cellsFrom (`a+1) scope.names []).lookup x with
  |none=>rw[q]at e;exact .inr ⟨rfl,e⟩
  |some d=>rw[q]at e;cases e;exact .inl (mem_lookup q)
 have new:∀x c,(x,c)∈cellsFrom (`a+1) scope.names []->`a<c:=λx c m=>(Xd.empty x c m).2;have Lg:∀x,scope.names.lookup x=some .free->(cellsFrom (`a+1) scope.names []).lookup x=none:=λx e=>by
  cases q:(cellsFrom (`a+1) scope.names []).lookup x with
  |none=>rfl
  |some d=>
   rcases mn _ _ _ _ (mem_lookup q)with h|h
   .cases h
   .have:=L.own _ h rfl;rw[e]at this;cases this
 have K_:∀b∈fp,b∉jK X.stack:=λb hb z=>by
  obtain⟨_,f1,f2,_⟩:=hf b hb;rcases aZ.mp (I.xo b z)with q|q
  .exact f1 q
  .exact f2 q
 refine⟨⟨I.ok.mod,L.kind,I.ok.glob,I.ok.blt,aK _,λx y c e1 M=>?_,λx hx=>?_,λx c z e=>?_,I.ok.hd,I.ok.frames,.inl rfl,
   λb hb=>⟨c_ (Zc b hb),λx c e=>?_⟩,I.bs,aV I.ok.GN I.sz,λb o e hb=>?_,K_,I.stack,I.v5⟩,
  rfl,I.bare,Un.kept S,⟨_,V7,λi x v e1 M e3=>?_⟩,λx c e=>?_,I.fresh,λx c e=>?_,λp hp=>absurd (show p∈([]:List (Addr×Obj))from hp) *...*,I.cy.kept S,?_⟩
 .rcases look x c e1 with a|⟨_,a⟩
  .rcases look y c M with b|⟨_,b⟩
   .exact cF Prod.fst (pw_eq Xd.apart a b rfl)
   .exact absurd (pG (old y c b) (new x c a)) (eN _)
  .rcases look y c M with b|⟨_,b⟩
   .exact absurd (pG (old x c a) (new y c b)) (eN _)
   .exact I.ok.inj x y c (sub x c a) (sub y c b)
 .have hx:(relabel scope X.env).names.lookup x=some .cell\/(relabel scope X.env).names.lookup x=some .free:=hx;have fr:scope.names.lookup x=some .free->∃c,(cellsFrom (`a+1) scope.names (vO scope X.env)).lookup x=some c:=λq=>lu.mp (gz _ _ _ _ (.inl (lu.mpr (has x q))));rcases hx with z|z
  .rcases rS z with q|q
   .exact lu.mp (gz _ _ _ _ (.inr (jZ q)))
   .exact fr q
  .rcases rS z with q|q
   .exact fr q
   .exact fr q
 .rcases look x c e with a|⟨a,_⟩
  .exact cP (new x c a)
  .have z:scope.names.lookup x=some .cell:=by simpa using(show(scope.names.lookup x==some NameKind.cell)=true from z)
   have q:=gz scope.names (`a+1) [] x (.inr (jZ z));rw[a]at q;cases q
 .rcases look x c e with a|⟨_,a⟩
  .exact h_ (pG (Zc b hb) (new x c a))
  .exact(hf b hb).2.2.2.2.1 x c (sub x c a)
 .obtain⟨_,_,_,q,_⟩:=hf b hb;rcases q with q|q
  .exact I.ok.BA b o e q
  .exact absurd (dA (bC (I.ok.bs b o e).1) q) (eN _)
 ·
  unfold jf at M;rw[bW]at M;cases eo:ix[i]? with
  |none=>rw[eo]at M;cases M
  |some o=>
   rw[eo]at M;cases o with
   |none=>exact absurd (show(some none:Option (Option V))=some (some v)from M) *...*
   |some j=>
    obtain⟨n1,n2⟩:=L.free i x j e1 eo;have Sq:(Z[j]?).join=some v:=Option.some.inj (show some ((Z[j]?).join)=some (some v)from M);have e4:Z[j]?=some (some v):=by
     cases q:Z[j]? with
     |none=>rw[q]at Sq;cases Sq
     |some z=>
      rw[q]at Sq;have:z=some v:=Sq;rw[this]
    have II:X.env.scope.names.lookup x=some .cell:=L.cell _ (jZ n2) rfl;obtain⟨m,hn,hl⟩:=I.loc;obtain⟨u,r,l⟩:=hl j x v n1 e4 (.inr (.inl II));refine⟨u,r,?_⟩;rcases l with⟨k,_⟩|⟨k,c,ec,z⟩
    .have k':X.env.scope.names.lookup x=some .local:=k;rw[II]at k';cases k'
    .obtain⟨c',VU⟩:=has x n2;have ecc:c'=c:=by
      have q:=sub x c' VU;rw[ec]at q;exact(Option.some.inj q).symm
     subst ecc;refine .inr ⟨?_,c',(show(cellsFrom (`a+1) scope.names (vO scope X.env)).lookup x=some c' by rwa[gy,sP,Lg x n2]),?_⟩
     .exact tX n2
     .obtain⟨o',Lj,Ll⟩:=z;exact⟨o',S _ _ Lj,Ll⟩
 .rcases look x c e with a|⟨_,a⟩
  .exact⟨_,(Xd.empty x c a).1⟩
  .obtain⟨v,o,ho,hd⟩:=I.cell x c (sub x c a);exact⟨v,o,S _ _ ho,hd⟩
 .rcases look x c e with a|⟨_,a⟩
  .exact I.cy.fresh (cP (new x c a))
  .exact I.gx x c (sub x c a)
 .show(jf ix Z).length=N'.length;unfold jf;rw[aP];exact L.len.symm
noncomputable abbrev FA(ifs:List Expr)(env:Env):Sem Bool:=forIn ifs true λc r=>if r=true then do let ok<-isTrue c env (eval c env);pure (ForInStep.yield ok)else pure (ForInStep.yield r)
theorem LP{R:Result->Shared->Prop}{s:Shared}{acc:Value}(I:Nat->Shared->Prop)
  (turn:∀n s,I n s->wpAny (model prog w) A (pyNext it) (λr b=>match r with
   |none=>R (.ok .next) b
   |some v=>wpAny (model prog w) A (letOwnedTupleGo target it v) (λ_ M=>wpAny (model prog w) A (assign target env v) (λ_ S=>
     wpAny (model prog w) A (FA ifs env) (λok q=>
      if ok=true then wpAny (model prog w) A (eval elt env) (λx LQ=>
       wpAny (model prog w) A (call (.builtin "list.append") [acc,x]) (λ_ TN=>∃m,m<n/\I m TN) (λ_ _=>False) LQ) (λ_ _=>False) q
      else∃m,m<n/\I m q) (λ_ _=>False) S) (λ_ _=>False) M) (λ_ _=>False) b) (λ_ _=>False) s)
  (n:Nat) (h:I n s):codeAny (model prog w) A (.compLoop (.ListComp elt [⟨target,c5,ifs,0⟩] scope pos) 0 it acc env) R s:=by
 refine codeAny_loop rfl I (λn s hI=>?_) n h;show wpAny _ A ((compTurn (.ListComp elt [⟨target,c5,ifs,0⟩] scope pos) 0 it acc env).onRaise (λx=>do noteFrame x env;theTreesLotGoes x)) _ _ s;refine wpAny_noted ?_
 rw[compTurn_list];refine aH (wpAny_standAt (aH (dX (turn n s hI) (λr b L=>?_) λ_ _ f=>f.elim)));cases r with
 |none=>exact aR L
 |some v=>
  refine aH (dX L (λ_ M TQ=>?_) λ_ _ f=>f.elim);refine aH (dX TQ (λ_ S IB=>aH (dX IB (λok q LM=>?_) λ_ _ f=>f.elim)) λ_ _ f=>f.elim);cases ok with
  |false=>exact aR ⟨rfl,LM⟩
  |true=>exact aH (aH (dX LM (λx LQ Xe=>aH (dX Xe (λ_ TN Xf=>aR (aR ⟨rfl,Xf⟩)) λ_ _ f=>f.elim)) λ_ _ f=>f.elim))
def PF(X:Cx)(ifs:List Expr)(t:TT):Prop:=
 ∀(U:List (Addr×Obj)) (s:Shared) (Z:St) (H:Hp) (Q:Bool->Hp->Prop),Inv X U Z H s->t Z H Q->wpAny `c X.A (FA ifs X.env) (TP X U Z Q) X.xe s
def PQ:PF X [] (λ_ H Q=>Q true H):=λ_ _ _ H _ I h=>wpAny_tests_nil ⟨H,I,h⟩
def PR(h:PT X c t):PF X [c] t:=λU s Z H Q I q=>wpAny_tests_one (h U s Z H Q I q)
def Xg(J:It)(D:Addr)(S:St)(H0:Hp)(g:TG)(tc:TT)(te:TE)(Q:Hp->Prop):Prop:=
 ∃W:Nat->Nat->St->Hp->Prop,(∃m,W 0 m S H0)/\∀i m Z H,W i m Z H->(J.stop i H/\Q H)\/
  (J.go i H/\∃N:St->Hp->Prop,(∀q H',N q H'->∃r,r<m/\W (i+1) r q H')/\∀x H',J.GO i H x H'->g x Z H' λL H2=>tc L H2 λb I=>
    if b=true then te L I λy M=>∃ys,M D=some (.lst ys)/\ys.length<sizeLine/\N L (upd M D (.lst (ys++[y])))else N L I)
def Sr(b:TI)(ix:List (Option Nat))(g:TG)(q:TT)(r:TE):TE:=λZ H Q=>b Z H λJ H1=>∀D,H1 D=none->Xg J D (jf ix Z) (upd H1 D (.lst [])) g q r λH'=>Q (.ref D) H'
theorem FC{QD:Addr->Hp->Prop}{fp:List Addr}{tn:Nat->Heap->Prop}
  (L:fy X N' ix scope) (hc:X.calm=true) (rV:∀s H ex,PG (tY X scope N' s H ex) tg g/\PF (tY X scope N' s H ex) ifs tc/\PE (tY X scope N' s H ex) elt te)
  (I2:Inv X U Z H2 s2) (T:Turn X.prog X.w X.K tg J fp it tn) (Lp:tn 0 s2.heap) (f2:∀b∈fp,pN X U H2 b)
  (hw:∀D,H2 D=none->Xg J D (jf ix Z) (upd H2 D (.lst [])) g tc te (QD D))
  (Xi:∀D C H' M m,Inv X U Z H' M->pN X U H' C->M.heap.Ns C m->QD D H'->compPost `c X.A X.xe use Qf (.ref D) C (.ok .next) M):
  wpAny `c X.A (newList []) (λacc BL=>wpAny `c X.A (newFunctionEnv scope X.env.globals (vO scope X.env) [] X.env.qual none .none (some X.env)) (λTR LQ=>
   codeAny `c X.A (.compStart (.ListComp elt [⟨tg,c5,ifs,0⟩] scope pos) 0 (.ref it) acc {TR with scope:=relabel scope X.env}) (compPost `c X.A X.xe use Qf acc TR.locals) LQ) X.xe BL) X.xe s2:=by
 refine wpAny_newObj_type (D8 (λra D_ Ea Eb=>?_));dsimp only at D_ Ea Eb⊢;have hD:H2 s2.heap.objs.size=none:=I2.fresh;have I3:Inv X U Z (upd H2 s2.heap.objs.size (.lst [])) {s2 with heap:=s2.heap.push {cls:=.type "list",data:=.seq ([]:List Value).toArray},toks:=s2.toks}:=I2.LJ (bJ:=[]) .nil (gH _);generalize hs3:({s2 with heap:=s2.heap.push {cls:=.type "list",data:=.seq ([]:List Value).toArray},toks:=s2.toks}:Shared)=s3 at I3;have e3:({s2 with heap:=s2.heap.push {cls:=.type "list",dict:=none,data:=.seq ([]:List Value).toArray}}:Shared)=s3:=hs3;have eh:s2.heap.push {cls:=.type "list",dict:=none,data:=.seq ([]:List Value).toArray}=s3.heap:=cF Shared.heap e3;have eos:s3.os=s2.os:=by rw[<-e3]
 have ek:∀b o,s2.heap.get? b=some o->s3.heap.get? b=some o:=λb o e=>by rw[<-eh];exact bY _ e
 have Zd:s2.heap.objs.size<=s3.heap.objs.size:=by rw[<-eh,jr];exact Nat.le_succ _
 rw[eh]at D_ Ea Eb⊢;have f3:∀b∈fp,pN X U (upd H2 s2.heap.objs.size (.lst [])) b:=λb hb=>by
  obtain⟨o,eo,_⟩:=T.obj _ _ Lp b hb;refine⟨?_,(f2 b hb).2⟩;rw[aM (c_ (bC eo))];exact(f2 b hb).1
 have vM:∀b∈fp,b<s3.heap.objs.size:=λb hb=>by
  obtain⟨o,eo,_⟩:=T.obj _ _ Lp b hb;exact dA (bC eo) Zd
 have k4:∀b o,s3.heap.get? b=some o->ra.get? b=some o:=Ea;have Ze:tn 0 ra:=T.keep _ _ _ Lp λb _ o e=>k4 b o (ek b o e);obtain⟨W,⟨m0,w0⟩,turn⟩:=hw s2.heap.objs.size hD;have I4:∀q,Inv (tY X scope N' s3 (upd H2 s2.heap.objs.size (.lst [])) fp) [] (jf ix Z) (upd H2 s2.heap.objs.size (.lst [])) {s3 with heap:=ra,toks:=q}:=λq=>
  D9 L I3 D_ k4 Eb f3 vM
 obtain⟨hg,hf,he⟩:=rV s3 (upd H2 s2.heap.objs.size (.lst [])) fp;have DT:∀{H':Hp},(∀b∈fp,H' b=none)->∀b∈fp,pN (tY X scope N' s3 (upd H2 s2.heap.objs.size (.lst [])) fp) [] H' b:=λ{H'} hn b hb=>by
  have ok:=(I4 0).ok;obtain⟨x1,x2⟩:=ok.Si b hb;exact⟨hn b hb,x1,ok.BB b hb,.inl hb,x2,λp hp=>absurd (show p∈([]:List (Addr×Obj))from hp) *...*⟩
 have loop:∀q,codeAny `c X.A (.compLoop (.ListComp elt [⟨tg,c5,ifs,0⟩] scope pos) 0 (.ref it) (.ref s2.heap.objs.size) (compEnvC scope (cellsFrom (s3.heap.objs.size+1) scope.names (vO scope X.env)) s3.heap.objs.size X.env))
   (compPost `c X.A X.xe use Qf (.ref s2.heap.objs.size) s3.heap.objs.size) {s3 with heap:=ra,toks:=q}:=λq=>by
  refine LP (λn M=>∃i cU H',Inv (tY X scope N' s3 (upd H2 s2.heap.objs.size (.lst [])) fp) [] cU H' M/\tn i M.heap/\(∀b∈fp,H' b=none)/\W i n cU H') ?_ m0
   ⟨0,_,_,I4 q,Ze,λb hb=>(f3 b hb).1,w0⟩
  rintro n s5 ⟨i,V9,S,I5,Sl,V0,w5⟩
  rcases turn i n V9 S w5 with⟨stop,qn⟩|⟨go,N,hN,step⟩
  .refine d7 (T.done (tY X scope N' s3 (upd H2 s2.heap.objs.size (.lst [])) fp) rfl rfl rfl hc i [] s5 V9 S _ I5 (DT V0) Sl stop) λr s6 ⟨hr,I6⟩=>?_
   subst hr;have u:Un (jK X.stack) fp H2 S s2.heap s6.heap:=(Un.laid (o:=.lst []) ek (aK _) hD).trans I6.base;have J6:Inv X U Z S s6:=I2.S6 (ch:=fp) (I6.os.trans eos) u I6.cy I6.bare λb hb=>by
    obtain⟨_,x1,_,x3,x4,x5⟩:=f2 b hb;exact⟨x3,x1,x4,x5⟩
   obtain⟨m,hm,_⟩:=I6.loc;exact Xi _ _ S s6 m J6 (I2.BD Zd I6.free) hm qn
  .refine d7 (T.item (tY X scope N' s3 (upd H2 s2.heap.objs.size (.lst [])) fp) rfl rfl rfl hc i [] s5 V9 S _ I5 (DT V0) Sl go) λr s6 ⟨v,hr,h6⟩=>?_
   subst hr;refine d7 h6 λ_ s7 ⟨x,H7,I7,r7,y7,Xj,fr7⟩=>?_
   have I7':=I7.pinned (DT fr7) (T.obj _ _ Xj);refine d7 (hg _ s7 V9 H7 x v _ I7' r7 (step x H7 y7)) λ_ s8 ⟨V_,H8,I8,q8⟩=>?_
   have again:∀{TU:St} {I:Hp} {s9:Shared},Inv (tY X scope N' s3 (upd H2 s2.heap.objs.size (.lst [])) fp) ([]++xu fp s7.heap) TU I s9->N TU I->
     ∃m,m<n/\∃i cU H',Inv (tY X scope N' s3 (upd H2 s2.heap.objs.size (.lst [])) fp) [] cU H' s9/\tn i s9.heap/\(∀b∈fp,H' b=none)/\W i m cU H':=λ{TU I s9} I9 n9=>by
    obtain⟨m',hm,w9⟩:=hN TU I n9;refine⟨m',hm,i+1,TU,I,I9.tH,T.keep _ _ _ Xj λb hb o e=>(I9.pin (b,o) (cX _ (cX _ (nL hb e)))).1,λb hb=>?_,w9⟩;obtain⟨o,e,d⟩:=T.obj _ _ Xj b hb;exact(I9.pin (b,o) (cX _ (cX _ (nL hb e)))).2.1
   refine d7 (hf _ s8 V_ H8 _ I8 q8) λok s9 ⟨I,I9,q9⟩=>?_
   cases ok with
   |false=>exact again I9 q9
   |true=>
    refine d7 (he _ s9 V_ I _ I9 q9) λy s10 ⟨v10,H10,I10,r10,ys,hy,hz,n10⟩=>?_
    refine d7 (g0 _ s10 V_ H10 (.ref s2.heap.objs.size) [v10] (.ref s2.heap.objs.size) [y] (λ_ H'=>N V_ H') I10 rfl (.cons r10 .nil) ⟨_,ys,v10,rfl,rfl,hy,hz,n10⟩) λ_ s11 ⟨_,H11,I11,_,q11⟩=>?_
    exact again I11 q11
 have es:∀q,({s2 with heap:=ra,toks:=q}:Shared)={s3 with heap:=ra,toks:=q}:=λq=>by rw[<-e3]
 have N5:∀q,codeAny `c X.A (.compLoop (.ListComp elt [⟨tg,c5,ifs,0⟩] scope pos) 0 (.ref it) (.ref s2.heap.objs.size) (compEnvC scope (cellsFrom (s3.heap.objs.size+1) scope.names (vO scope X.env)) s3.heap.objs.size X.env))
   (compPost `c X.A X.xe use Qf (.ref s2.heap.objs.size) s3.heap.objs.size) {s2 with heap:=ra,toks:=q}:=λq=>by
  rw[es q];exact loop q
 exact codeAny_compStart_list (N5 _) (T.self _ 0 _ _ _ Ze (N5 _))
def IJ(L:fy X N' ix scope)(r:X.calm=true)(hi:PI X tg c5 M)(S:∀s H ex,PG (tY X scope N' s H ex) tg g/\PF (tY X scope N' s H ex) ifs tc/\PE (tY X scope N' s H ex) elt te)
  (hs:∀x,foldedSetIterable c5 X.env x=pure x:=by intro _;rfl):PE X (.ListComp elt [⟨tg,c5,ifs,0⟩] scope pos) (Sr M ix g tc te):=by
 intro U s Z H Q I h;have xJ:∀y∈scope.names,y.2=.free->∃c,X.env.cells.lookup y.1=some c:=λy hy z=>I.ok.has y.1 (.inl (L.cell y hy z));rw[eval_ListComp];refine wpAny_comprehension_free (use:=none) rfl hs (tW xJ) L.kind L.loc (d7 (hi U s Z H _ I h) λv s1 h1=>d7 h1 λVY s2 h2=>?_);obtain⟨it,fp,tn,J,H2,e,I2,T,Lp,f2,hw⟩:=h2;subst e;refine FC (QD:=λD H'=>Q (.ref D) H') L r S I2 T Lp f2 hw λD C H' s' m I' fC hm q=>⟨m,hm,λh' N3=>?_⟩;obtain⟨x0,x1,x2,x3,x4,x5⟩:=fC;exact⟨.ref D,H',I'.turned (t':=s'.toks) (λb o hb e=>(N3.2 b hb).trans e) x0 x1 x3 x4 x5,rfl,q⟩
def xK{x:Str}(L:fy X N' ix scope)(hc:X.calm=true)(hN:X.N.Nodup)(hi:X.N[aa]?=some x)(hx:Loc X.env.scope x)(hit:PI X tg c5 wi)
  (rV:∀s H ex,PG (tY X scope N' s H ex) tg g/\PF (tY X scope N' s H ex) ifs tc/\PE (tY X scope N' s H ex) elt te)
  (PU:autoParam (swapsWith (.ListComp elt [⟨tg,c5,ifs,0⟩] scope pos) (some (.Name x r)) b9.line X.env=pure true) Rfz)
  (hs:∀x,foldedSetIterable c5 X.env x=pure x:=by intro _;rfl) (hf:autoParam (DH X x) Ilz):
  PS X (.Assign [.Name x r] (.ListComp elt [⟨tg,c5,ifs,0⟩] scope pos) b9) (λD Z H=>Sr wi ix g tc te Z H λv H'=>D.nx (Z.set aa (some v)) H'):=by
 intro U s Z H D I h;have xJ:∀y∈scope.names,y.2=.free->∃c,X.env.cells.lookup y.1=some c:=λy hy z=>I.ok.has y.1 (.inl (L.cell y hy z));rw[exec_Assign_Name_used _ _ _ _ PU];refine aH (wpAny_standAt (aH ?_));show wpAny _ X.A (do let _<-comprehension (.ListComp elt [⟨tg,c5,ifs,0⟩] scope pos) scope X.env _ (newList []) false (eval c5 X.env) (some (assign (.Name x r) X.env))) _ _ s;refine aH (dX (wpAny_comprehension_free (use:=some (assign (.Name x r) X.env)) (Q:=λ_ S=>SP X U D .next S) rfl hs (tW xJ) L.kind L.loc
  (d7 (hit U s Z H _ I h) λv s1 h1=>d7 h1 λVY s2 h2=>?_)) (λ_ S hq=>aR (aR hq)) λ_ _ e=>e)
 obtain⟨it,fp,tn,J,H2,e,I2,T,Lp,f2,hw⟩:=h2;subst e;refine FC (QD:=λM H'=>D.nx (Z.set aa (some (.ref M))) H') L hc rV I2 T Lp f2 hw λM C H' S m I' fC hm q=>?_
 obtain⟨x0,x1,x2,x3,x4,x5⟩:=fC;show wpAny _ X.A (assign (.Name x r) X.env (.ref M)) _ _ _;refine wpAny_assign_Name (y1 I' hN hi hx (v:=.ref M) rfl (λPk I'' DI=>?_) hf);obtain⟨a,N3,ha⟩:=DI;have hCa:C≠a:=by
  rcases ha with ha|ha
  .rwa[ha]
  .exact λz=>x4 _ _ ha z.symm
 refine⟨m,hm.sameBut N3 hCa,λh' Xk=>?_⟩;exact⟨_,H',I''.turned (t':=Pk.toks) (λb o hb e=>(Xk.2 b hb).trans e) x0 x1 x3 x4 x5,q⟩
def V'(z:Str):It:=⟨λi _=>i<z.cps.size,λi H x H'=>H'=H/\∃c,z.cps[i]?=some c/\x=.str ⟨#[c]⟩,λi _=>i=z.cps.size⟩
theorem BQ{z:Str}(hn:["enumerate","zip","dict_itemiterator","dict_reverseitemiterator","odict_iterator","itertools.zip_longest","itertools.pairwise"].contains n=false)
  (W:∀A':Around,A'.handled=none->Walks P w A' it [it] [it] z.cps.size (SignAt z) (λi h=>h.IsStrIter it n z t i))
  (self:∀(A:Around) (i:Nat) (s:Shared) (Q:Value->Shared->Prop) (E:Value->Shared->Prop),s.heap.IsStrIter it n z t i->Q (.ref it) s->wpAny (model P w) A (pyIter (.ref it)) Q E s):
  Turn P w K tg (V' z) [it] it (λi h=>h.IsStrIter it n z t i) where
 mem:=by simp
 obj:=λi h st b hb=>by
  have e:b=it:=by simpa using hb
  subst e;obtain⟨o,e,c,d⟩:=st;exact⟨o,e,λv q=>by rw[d]at q;cases q⟩
 keep:=λi h h' st k=>by
  obtain⟨o,e,c,d⟩:=st;exact⟨o,k it *...* o e,c,d⟩
 item:=by
  intro X L hw hK r i U s Z H E I hf st M;subst L hw hK;obtain⟨f0,f1,f2,S,f4,f5⟩:=hf it *...*;refine(W X.A (I.ok.hd r)).item i s _ _ M st λv h' tk hv z9 kk=>?_
  obtain⟨c,u,hcu,rfl⟩:=hv;have I1:Inv X U Z H {s with heap:=h',toks:=tk}:=I.turned (λb o hb e=>kk b o (by simpa using hb) e) f0 f1 S f4 f5;obtain⟨o,e,cl,d⟩:=id z9;exact⟨_,rfl,y3 (s:={s with heap:=h',toks:=tk}) e cl d hn ⟨.str ⟨#[c]⟩,H,I1,⟨u,rfl⟩,⟨rfl,c,hcu,rfl⟩,z9,λb hb=>(hf b hb).1⟩⟩
 done:=by
  intro X L hw hK r i U s Z H E I hf st M;subst L hw hK;obtain⟨f0,f1,f2,S,f4,f5⟩:=hf it *...*;have e:i=z.cps.size:=M;subst e;exact(W X.A (I.ok.hd r)).done s _ _ st λh' tk kk=>⟨rfl,I.turned (λb o hb e=>kk b o (by simpa using hb) e) f0 f1 S f4 f5⟩
 self:=self
noncomputable def BR(lo:Int)(n:Nat):List V:=(List.range n).map λk=>V.int (lo+(k:Nat))
def vk(lo:Int)(n:Nat):(BR lo n).length=n:=by simp[BR]
theorem lI.upd {H:Hp}(b:H D=none)(h:lI K H a xs):lI K (upd H D o) a xs:=by
 rcases h with(h|⟨L,h⟩)|h
 .exact .inl (.inl (by rwa[aM (cp h b)]))
 .exact .inl (.inr ⟨L,by rwa[aM (cp h b)]⟩)
 .exact .inr h
theorem mj.upd {H:Hp}(b:H D=none)(h:mj K H a xs):mj K (upd H D o) a xs:=by
 rcases h with(h|⟨L,h⟩)|h
 .exact .inl (.inl (by rwa[aM (cp h b)]))
 .exact .inl (.inr ⟨L,by rwa[aM (cp h b)]⟩)
 .exact .inr h
def G3:sE X (compareOp .LtE) (λx y H Q=>∃i j,x=.str i/\y=.str j/\Q (.bl (!(decide (j.cps.toList<i.cps.toList)))) H):=by
 intro U s Z H x y v u Q I L b h;obtain⟨i,j,rfl,rfl,q⟩:=h;obtain⟨t,rfl⟩:=L;obtain⟨t',rfl⟩:=b;exact PySem.P.le_str (pO I q rfl)
def PV:sE X (compareOp .Is) (λx y H Q=>∃c d,x=.bl c/\y=.bl d/\Q (.bl (c==d)) H):=by
 intro U s Z H x y v u Q I L b h;obtain⟨c,d,rfl,rfl,q⟩:=h;cases L;cases b;exact is_bool (pO I q rfl)
def G4:sE X (compareOp .IsNot) (λx y H Q=>∃c d,x=.bl c/\y=.bl d/\Q (.bl (c !=d)) H):=by
 intro U s Z H x y v u Q I L b h;obtain⟨c,d,rfl,rfl,q⟩:=h;cases L;cases b;exact isnot_bool (pO I q rfl)
def LR:sE X (binaryOp .Mult) (λx y H Q=>∃z n,x=.str z/\y=.int n/\MulOk z n/\Q (.str (Txt.mul z n)) H):=by
 intro U s Z H x y v u Q I L b h;obtain⟨z,n,rfl,rfl,cy,q⟩:=h;obtain⟨t,rfl⟩:=L;obtain⟨t',rfl⟩:=b;exact SB.mul cy λt' k=>⟨.str _,H,I.tok _,⟨_,rfl⟩,q⟩
theorem IK{X:Cx}(hc:X.calm=true):gZ X (.builtin "all") (λxs H Q=>∃(p:Addr) (bs:List Bool),xs=[.ref p]/\lI X.K H p (bs.map V.bl)/\Q (.bl (bs.all id)) H):=by
 intro U s Z H xs us Q I r h;obtain⟨p,bs,rfl,S,q⟩:=h;obtain⟨u,rfl,ru⟩:=vals1 r;cases(show u=Value.ref p from ru);obtain⟨bJ,rv,pl,hz⟩:=I.list S;have hb:bJ=bs.map Value.bool:=by
  clear hz pl S q I
  induction bs generalizing bJ with
  |nil=>cases rv;rfl
  |cons b r ih=>
   cases rv with
   |cons r1 r2=>
    rw[a_,<-ih _ (by exact r2)];cases(show _=Value.bool b from r1)
    rfl
 subst hb;have hV:p<s.heap.objs.size:=by obtain⟨o,n,e,_⟩:=pl;exact bC e
 refine call_all_walk (mQ pl.isList ?_);refine⟨`a,[`a,p],[`a],(bs.map Value.bool).toArray.size,_,_,λi=>(bs[i]?).getD true,rfl,Walks.list (A:=X.A.in1) (I.ok.hd hc) _ p (c_ hV) _,
  ⟨⟨_,cA _ rfl,rfl,rfl⟩,pl.isList.push _⟩,λi v s' Q' E' hP hQ=>?_,λh' tk hk=>?_⟩
 .have L:(bs.map Value.bool)[i]?=some v:=by simpa using hP
  rw[bW]at L;cases M:bs[i]? with
  |none=>rw[M]at L;cases L
  |some b=>
   rw[M]at L;cases L;simp only[M,xa]at hQ;exact kz hQ
 .have e:((List.range (bs.map Value.bool).toArray.size).all λi=>(bs[i]?).getD true)=bs.all id:=by
   rw[cx,aP];exact LSm.range_all bs
  rw[e];exact⟨.bl _,H,I.kept (LSm.kept_iter hk),rfl,q⟩
theorem FD:∀{ts:List Str} {bJ:List Value},Vals (ts.map V.str) bJ->∃l:List (Str×Tok),bJ=strValues l/\l.map (·.1)=ts
 |[],_,.nil=>⟨[],rfl,rfl⟩
 |x::r,_,.cons L b=>by
  obtain⟨l,q,I⟩:=FD b;obtain⟨t,rfl⟩:=(show∃t,_=Value.str x t from L);exact⟨(x,t)::l,by rw[q];rfl,by rw[a_,I]⟩
theorem LS:W3 X "str.join" (λx xs H Q=>∃(z:Str) (p:Addr) (ts:List Str),x=.str z/\xs=[.ref p]/\lI X.K H p (ts.map V.str)/\JoinOk z ts=true/\Q (.str (Txt.join z ts)) H):=by
 intro U s Z H x vs v us Q I L rv h;obtain⟨z,p,ts,rfl,rfl,b,cy,q⟩:=h;obtain⟨t,rfl⟩:=L;obtain⟨u,rfl,r⟩:=rv.one;cases(show u=Value.ref p from r);obtain⟨bJ,rv,pl,S⟩:=I.list b;obtain⟨l,rfl,M⟩:=FD rv;exact SC.join pl.isList M cy λt' k=>⟨.str _,H,I.tok _,⟨_,rfl⟩,q⟩
def aG.tup (e:aG H H')(h:mj K H a xs):mj K H' a xs:=by
 rcases h with(h|⟨o,h⟩)|h
 .exact .inl (.inl (e _ _ h))
 .exact .inl (.inr ⟨o,e _ _ h⟩)
 .exact .inr h
theorem aG.upd {H:Hp}(q:H D=none):aG H (upd H D o):=λb u e=>by rwa[aM (cp e q)]
def aG.BS (s:aG H H')(q:H D=none):aG H (L2.upd H' D o):=λb u e=>by rw[aM (cp e q)];exact s b u e
structure FE(K:Frag)(mg:Str->Option Value)(x:Str)(st:Stmt)(ps:List Str)(f:Addr)(fd:FuncData):Prop where
 fn:yH K x x st f fd
 bd:Binds K fd ps []
 mg:mg x=some (.ref f)
def PX{X:Cx}(D:FE X.K X.mg x st ps f ai)(G:fK X.prog X.w X.K X.mg X.base rj k f ai ps sp)(b:cQ k X.A)
  (r:PA X (ag::af) t) (I:autoParam (Gl X x) Rfz) (iJ:autoParam (Db x) Dcz) (he:autoParam (starEach (ag::af) X.env=(false,eval ag X.env)::starEach af X.env) Rfz)
  (Aa:autoParam ((backTo pos (starEach af X.env)).any (·.1)=false) Rfz):PE X (.Call (.Name x p) (ag::af) [] pos) (NU sp [] E0 t):=by
 have q:=Fs (p:=p) (pos:=pos) G b I D.mg D.fn.kp D.bd .nil IH r (iJ:=iJ) (he:=he) (Aa:=Aa);exact q
def Xl:V->Option Int->Option Int->Hp->VK->Prop:=λx lo hi H Q=>∃z,x=.str z/\z.length<=sizeLine/\Q (.str (Txt.slice z lo hi)) H
theorem PY:Sm X Xl:=by
 intro U s Z H x v vl vu lo hi b Q I M hs pl pu h;obtain⟨z,rfl,S,q⟩:=h;obtain⟨t,rfl⟩:=M;refine⟨"str",_,F.slot_str_getitem.lookup,typeIs_str _ _ _,?_⟩;have go:∀(l u:Option (Int×Tok)),s.heap.IsSlice b l u none->lo=l.map (·.1)->hi=u.map (·.1)->wpAny `c X.A (getItem (.str z t) (.ref b)) (EP X U Z Q) X.xe s:=λl u hh e1 e2=>by
  subst e1 e2;exact wpAny_getItem_str_slice hh rfl (post_val_or_str ⟨aV (Txt.slice_le z _ _) S,λt' k=>⟨.str _,H,I.tok _,⟨_,rfl⟩,q⟩⟩)
 cases pl with
 |none=>
  cases pu with
  |none=>exact go none none hs rfl rfl
  |int j L=>exact go none (some (j,L)) hs rfl rfl
 |int i r=>
  cases pu with
  |none=>exact go (some (i,r)) none hs rfl rfl
  |int j L=>exact go (some (i,r)) (some (j,L)) hs rfl rfl
def zb(b:h'.IsTuple p bJ):∃dd n sl,h'.get? p=some ⟨.type "tuple",dd,.seq bJ n,sl⟩:=by
 obtain⟨⟨cls,dd,data,sl⟩,h1,h2,n,h3⟩:=b;dsimp only at h2 h3;subst h2 h3;exact⟨dd,n,sl,h1⟩
def BU(K:Frag)(w:World)(a:Addr)(kvs:List (Str×Value)):Prop:=
 (a==sysModules)=false/\∃o es ep,K.lookup a=some o/\o.ExactDict/\o.data=.dict es ep/\∀prog,KeysOf (PySem.strKind prog w) es/\Pairs (PySem.strKind prog w) es.toList kvs/\(kvs.map (·.1)).Nodup
def BU.of {X:Cx}(D:BU X.K X.w a kvs)(I:Inv X U Z H s):s.heap.DictOf (PySem.strKind X.prog X.w) a kvs:=by
 obtain⟨_,o,es,ep,h1,h2,h3,h4⟩:=D;obtain⟨k1,k2,k3⟩:=h4 X.prog;exact⟨o,es,ep,I.nK _ _ h1,h2,h3,k1,k2,k3⟩
def IM(b:PE X o to)(hi:PE X i r)(hs:Py i):
  PE X (.Subscript o i pos) (O6 (λx y H Q=>∃(a:Addr) (z:Str) (kvs:List (Str×Value)) (u:Value) (v:V),x=.ref a/\y=.str z/\BU X.K X.w a kvs/\valueAt kvs z=some u/\RelV v u/\Q v H) to r):=by
 intro U s Z H Q I h;refine LL PySem.F.slot_dict_getitem.lookup hs (d7 (b U s Z H _ I h) λu s1 ⟨x,H1,M,S,q1⟩=>d7 (hi U s1 Z H1 _ M q1) λiv s2 ⟨y,H2,L,ry,q2⟩=>?_);obtain⟨a,z,kvs,u',v,rfl,rfl,D,hv,rv,q⟩:=q2;cases(show u=Value.ref a from S);obtain⟨t,rfl⟩:=ry;have dd:=D.of L;refine⟨?_,wpAny_getItem_of (knd:=PySem.strKind X.prog X.w) (k:=z) (by simp[PySem.strKind,Value.isStrOf]) dd.mapOf hv ⟨v,H2,L.tok _,rv,q⟩⟩;obtain⟨ob,es,ep,h1,h2,_⟩:=dd;exact⟨ob,h1,h2.1⟩
inductive Tr where
 |bM|bl (b:Bool)|int (i:Int)|str (z:Str)|ty (n:String)
 |uI (ns:List Int)|tup (ts:List Tr)|lst (ts:List Tr)|bh (aS:List (Key×Tr))|at(i:Nat)
 |vm (aS:List (List Key×Tr))|ob (x:Str) (fs:List (Str×Tr))|zc (x:Str)
variable {ch rk en:List (Key×Tr)}
noncomputable def cH:Nat:=1000000
noncomputable def clsAt(K:Frag)(x:Str):Addr:=match PySem.W.nsIn K mainGlobals x with
 |some (some (.ref C))=>C
 |_=>0
structure Vw where
 H:Hp
 ix:Addr->Option Nat
instance:Coe Vw Hp:=⟨Vw.H⟩
instance:CoeFun Vw (λ_=>Addr->Option HO):=⟨Vw.H⟩
structure eW(W W':Vw):Prop where
 h:aG W.H W'.H
 x:∀a i,W.ix a=some i->W'.ix a=some i
theorem eW.refl (W:Vw):eW W W:=⟨aG.refl _,λ_ _ e=>e⟩
theorem eW.trans (a:eW W W1)(b:eW W1 W2):eW W W2:=⟨a.h.trans b.h,λc i e=>b.x c i (a.x c i e)⟩
mutual
inductive Rep(K:Frag)(H:Vw):V->Tr->Prop where
 |bM:Rep K H .bM .bM
 |bl (b:Bool):Rep K H (.bl b) (.bl b)
 |int (i:Int):Rep K H (.int i) (.int i)
 |str (z:Str) (h:z.length<=cH):Rep K H (.str z) (.str z)
 |ty (n:String):Rep K H (.ty n) (.ty n)
 |uI {a:Addr} {ns:List Int} (h:lI K H.H a (ns.map V.int)):Rep K H (.ref a) (.uI ns)
 |tup {a:Addr} {vs:List V} {ts:List Tr} (h:mj K H.H a vs) (r:bb K H vs ts):Rep K H (.ref a) (.tup ts)
 |lst {a:Addr} {vs:List V} {ts:List Tr} (h:H.H a=some (.lst vs)) (r:bb K H vs ts):Rep K H (.ref a) (.lst ts)
 |bh {a:Addr} {kvs:List (Key×V)} {aS:List (Key×Tr)} (h:Rd H.H a (.dK kvs)) (e:kvs.map (·.1)=aS.map (·.1)) (r:bb K H (kvs.map (·.2)) (aS.map (·.2))):Rep K H (.ref a) (.bh aS)
 |at{a:Addr} {i:Nat} (h:H.ix a=some i):Rep K H (.ref a) (.at i)
 |vm {a:Addr} {kvs:List (List Key×V)} {aS:List (List Key×Tr)} (h:H.H a=some (.dT kvs)) (e:kvs.map (·.1)=aS.map (·.1)) (r:bb K H (kvs.map (·.2)) (aS.map (·.2))):Rep K H (.ref a) (.vm aS)
 |ob {a dx:Addr} {x:Str} {g6:List (Str×V)} {fs:List (Str×Tr)} (h:H.H a=some (.ins (clsAt K x) dx g6)) (e:g6.map (·.1)=fs.map (·.1)) (r:bb K H (g6.map (·.2)) (fs.map (·.2))):Rep K H (.ref a) (.ob x fs)
 |zc {a:Addr} {oe:Obj} {x:Str} (h:H.H a=some (.ext λh=>h.get? a=some oe)) (c:oe.cls=.ref (clsAt K x)):Rep K H (.ref a) (.zc x)
inductive bb(K:Frag)(H:Vw):List V->List Tr->Prop where
 |nil:bb K H [] []
 |cons {v:V} {t:Tr} {vs:List V} {ts:List Tr} (h:Rep K H v t) (r:bb K H vs ts):bb K H (v::vs) (t::ts)
end
def Rd.same (s:aG H H')(h:Rd H a u):Rd H' a u:=by
 rcases h with h|⟨o,h⟩
 .exact .inl (s _ _ h)
 .exact .inr ⟨o,s _ _ h⟩
theorem Rep.same (s:eW H H')(h:Rep K H v t):Rep K H' v t:=by
 refine Rep.rec (motive_1:=λv t _=>Rep K H' v t) (motive_2:=λvs ts _=>bb K H' vs ts) ?_ ?_ ?_ ?_ ?_ ?_ ?_ ?_ ?_ ?_ ?_ ?_ ?_ ?_ ?_ h
 .exact .bM
 .exact λb=>.bl b
 .exact λi=>.int i
 .exact λz h=>.str z h
 .exact λn=>.ty n
 .exact λh=>.uI (s.h.seq h)
 .exact λh _ r=>.tup (s.h.tup h) r
 .exact λh _ r=>.lst (s.h _ _ h) r
 .exact λh e _ r=>.bh (Rd.same s.h h) e r
 .exact λh=>.at (s.x _ _ h)
 .exact λh e _ r=>.vm (s.h _ _ h) e r
 .exact λh e _ r=>.ob (s.h _ _ h) e r
 .exact λh c=>.zc (s.h _ _ h) c
 .exact .nil
 .exact λ_ _ h r=>.cons h r
theorem bb.same (s:eW H H'):∀{vs:List V} {ts:List Tr},bb K H vs ts->bb K H' vs ts
 |[],_,h=>by cases h;exact .nil
 |_::_,_,h=>by cases h with|cons h r=>exact .cons (h.same s) (bb.same s r)
theorem bb.length:∀{vs:List V} {ts:List Tr},bb K H vs ts->vs.length=ts.length
 |[],_,h=>by cases h;rfl
 |_::_,_,h=>by cases h with|cons h r=>rw[cY,cY,bb.length r]
theorem bb.get:∀{vs:List V} {ts:List Tr} {i:Nat} {t:Tr},bb K H vs ts->ts[i]?=some t->∃v,vs[i]?=some v/\Rep K H v t
 |[],_,i,t,h,e=>by cases h;simp at e
 |_::_,_,0,t,h,e=>by cases h with|cons h r=>simp at e;subst e;exact⟨_,rfl,h⟩
 |_::_,_,i+1,t,h,e=>by
  cases h with
  |cons h r=>
   obtain⟨v,L,r1⟩:=bb.get (i:=i) (t:=t) r (by simpa using e);exact⟨v,by simpa using L,r1⟩
theorem bb.BV:∀{vs:List V} {ts:List Tr} {i:Nat} {v:V},bb K H vs ts->vs[i]?=some v->∃t,ts[i]?=some t/\Rep K H v t
 |[],_,i,t,h,e=>by simp at e
 |_::_,_,0,t,h,e=>by cases h with|cons h r=>simp at e;subst e;exact⟨_,rfl,h⟩
 |_::_,_,i+1,t,h,e=>by
  cases h with
  |cons h r=>
   obtain⟨v,L,r1⟩:=bb.BV (i:=i) r (by simpa using e);exact⟨v,by simpa using L,r1⟩
theorem bb.append:∀{vs ws:List V} {ts us:List Tr},bb K H vs ts->bb K H ws us->bb K H (vs++ws) (ts++us)
 |[],_,_,_,h,q=>by cases h;exact q
 |_::_,_,_,_,h,q=>by cases h with|cons h r=>exact .cons h (bb.append r q)
theorem bb.take:∀{vs:List V} {ts:List Tr} (n:Nat),bb K H vs ts->bb K H (vs.take n) (ts.take n)
 |_,_,0,_=>by rw[List.take_zero,List.take_zero];exact .nil
 |[],_,_+1,h=>by cases h;exact .nil
 |_::_,_,n+1,h=>by cases h with|cons h r=>exact .cons h (bb.take n r)
theorem bb.drop:∀{vs:List V} {ts:List Tr} (n:Nat),bb K H vs ts->bb K H (vs.drop n) (ts.drop n)
 |_,_,0,h=>h
 |[],_,_+1,h=>by cases h;exact .nil
 |_::_,_,n+1,h=>by cases h with|cons h r=>exact bb.drop n r
theorem bb.rep (h:bb K H vs ts):∀n:Nat,bb K H (List.replicate n vs).flatten (List.replicate n ts).flatten
 |0=>.nil
 |n+1=>by
  rw[nE,nE,mL,mL];exact h.append (bb.rep h n)
theorem zd:∀{zs:List Str},(∀z∈zs,z.length<=cH)->bb K H (zs.map V.str) (zs.map Tr.str)
 |[],_=>.nil
 |z::zs,h=>.cons (.str z (h z (bF ..))) (zd λy L=>h y (bG _ L))
structure eX where
 hd:Addr->Bool
 ix:Addr->Option Nat
instance:CoeFun eX (λ_=>Addr->Bool):=⟨eX.hd⟩
def bK(B:eX)(H:Hp):Vw:=⟨λb=>if B.hd b=true then none else H b,B.ix⟩
def HB(B:eX)(H:Hp):Prop:=∀b,B.hd b=true->∃o,H b=some o
def gS{B:eX}(h:B.hd b=false):(bK B H).H b=H b:=by show(if B.hd b=true then none else H b)=_;rw[h,aA hX]
def bz:aG (bK B H).H H:=λb o (e:(if B.hd b=true then none else H b)=some o)=>by
 split at e
 .cases e
 .exact e
def bj(s:aG H H'):eW (bK B H) (bK B H'):=⟨λb o (e:(if B.hd b=true then none else H b)=some o)=>by
 show(if B.hd b=true then none else H' b)=some o;split at e
 .cases e
 .rw[aA (by assumption)];exact s b o e,λ_ _ e=>e⟩
def raw(B:eX)(H:Hp):Vw:=⟨H,B.ix⟩
def fj:eW (bK B H) (raw B H):=⟨bz,λ_ _ e=>e⟩
def HB.same (h:HB B H)(s:aG H H'):HB B H':=λb e=>by obtain⟨o,q⟩:=h b e;exact⟨o,s b o q⟩
def HB.free (h:HB B H)(b:H p=none):B.hd p=false:=by
 cases e:B.hd p with
 |false=>rfl
 |true=>obtain⟨o,q⟩:=h p e;rw[b]at q;cases q
def HB.new (h:HB B H)(b:H p=none):(bK B (upd H p o)).H p=some o:=by rw[gS (h.free b)];exact bp
structure vn(B B':eX):Prop where
 hd:∀b,B.hd b=true->B'.hd b=true
 ix:∀b i,B'.ix b=some i->B.ix b=some i
def xM(h:vn B B'):eW (bK B' H) (bK B H):=⟨λb o (e:(if B'.hd b=true then none else H b)=some o)=>by
 show(if B.hd b=true then none else H b)=some o;split at e
 .cases e
 .rename_i n;rwa[aA λz=>n (h.hd b z)],h.ix⟩
inductive Rs(α:Type) where
 |bad|ok (a:α)|exc (c:Tr)
noncomputable def Rs.bind {α β:Type}(r:Rs α)(f:α->Rs β):Rs β:=match r with
 |.ok a=>f a
 |.exc c=>.exc c
 |.bad=>.bad
def XA(X:Cx)(c:Tr)(H:Hp):Prop:=False
def rn(b:Tr->Prop){α:Type}(r:Rs α)(k:α->Prop):Prop:=match r with
 |.ok a=>k a
 |.exc c=>b c
 |.bad=>False
def xP(X:Cx)(H:Hp):Tr->Prop:=λc=>∀H',aG H H'->XA X c H'
def Fi(X:Cx)(H:Hp){α:Type}(r:Rs α)(k:α->Prop):Prop:=rn (xP X H) r k
def rn.mono {r:Rs α}{k k':α->Prop}(h:rn b r k)(w:∀a,k a->k' a):rn b r k':=by
 cases r with
 |ok a=>exact w a h
 |_=>exact h
def rn.imp {r:Rs α}{k:α->Prop}{b:Tr->Prop}(h:rn xc r k)(w:∀c,xc c->b c):rn b r k:=by
 cases r with
 |ok a=>exact h
 |exc c=>exact w c h
 |bad=>exact h
theorem rn.bind {β:Type}{r:Rs α}{f:α->Rs β}{k:β->Prop}(h:rn b (r.bind f) k):rn b r λa=>rn b (f a) k:=by
 cases r with
 |_=>exact h
theorem Fi.mono {r:Rs α}{k k':α->Prop}(h:Fi X H r k)(w:∀a,k a->k' a):Fi X H r k':=rn.mono h w
def Fi.same {r:Rs α}{k:α->Prop}(h:Fi X H r k)(s:aG H H'):Fi X H' r k:=rn.imp h λ_ q H2 s2=>q H2 (s.trans s2)
theorem Fi.bind {β:Type}{r:Rs α}{f:α->Rs β}{k:β->Prop}(h:Fi X H (r.bind f) k):Fi X H r λa=>Fi X H (f a) k:=rn.bind h
set_option genInjectivity true in
inductive Cell where
 |no|sh (t:Tr)|ow (ts:List Tr)
abbrev bS:=List Cell
structure bU(K:Frag)(B:eX)(H:Hp)(Z:St)(Y:bS):Prop where
 len:Y.length=Z.length
 sh:∀(i:Nat) (t:Tr),Y[i]?=some (.sh t)->∃v,Z[i]?=some (some v)/\Rep K (bK B H) v t
 ow:∀(i:Nat) (ts:List Tr),Y[i]?=some (.ow ts)->∃D ys,Z[i]?=some (some (.ref D))/\B D=true/\H D=some (.lst ys)/\bb K (bK B H) ys ts
 ap:∀(i j:Nat) (ts us:List Tr) (D:Addr),i≠j->Y[i]?=some (.ow ts)->Y[j]?=some (.ow us)->Z[i]?=some (some (.ref D))->Z[j]? ≠some (some (.ref D))
theorem bU.same (h:bU K B H Z Y)(s:aG H H'):bU K B H' Z Y:=
 ⟨h.len,λi t e=>by obtain⟨v,L,r⟩:=h.sh i t e;exact⟨v,L,r.same (bj s)⟩,
   λi ts e=>by obtain⟨D,ys,L,b,q,r⟩:=h.ow i ts e;exact⟨D,ys,L,b,s _ _ q,r.same (bj s)⟩,h.ap⟩
theorem fx{l:List α}{j:Nat}{x y:α}(e:(l.set i x)[j]?=some y):(i=j/\i<l.length/\y=x)\/(i≠j/\l[j]?=some y):=by
 rw[mM]at e;by_cases L:i=j
 .rw[av L]at e;by_cases b:i<l.length
  .rw[av b]at e;exact .inl ⟨L,b,(Option.some.inj e).symm⟩
  .rw[aA b]at e;cases e
 .rw[aA L]at e;exact .inr ⟨L,e⟩
theorem bU.set (h:bU K B H Z Y)(i:Nat)(r:Rep K (bK B H) v t):bU K B H (Z.set i (some v)) (Y.set i (.sh t)):=by
 refine⟨by rw[kB,kB];exact h.len,λj u e=>?_,λj us e=>?_,λj k us ws D b I e2 e3=>?_⟩
 .rcases fx e with⟨rfl,M,q⟩|⟨L,q⟩
  .cases q;exact⟨v,by rw[mM,av rfl,av (by rwa[<-h.len])],r⟩
  .obtain⟨w,I,r1⟩:=h.sh j u q;exact⟨w,by rwa[mM,aA L],r1⟩
 .rcases fx e with⟨rfl,M,q⟩|⟨L,q⟩
  .cases q
  .obtain⟨D,ys,I,r1⟩:=h.ow j us q;exact⟨D,ys,by rwa[mM,aA L],r1⟩
 .rcases fx I with⟨rfl,M,q⟩|⟨L,q⟩
  .cases q
  .rcases fx e2 with⟨rfl,M,S⟩|⟨hik,S⟩
   .cases S
   .rw[mM,aA L]at e3;rw[mM,aA hik];exact h.ap j k us ws D b q S e3
def startT(n:Nat)(ts:List Tr):bS:=ts.map Cell.sh++List.replicate (n - ts.length) .no
theorem qI(e:(startT n ts)[aa]?=some c):c=.no\/∃t,ts[aa]?=some t/\c=.sh t:=by
 unfold startT at e;by_cases hi:aa<ts.length
 .rw[sG (by rwa[aP]),bW]at e;cases q:ts[aa]? with
  |none=>rw[q]at e;cases e
  |some u=>rw[q]at e;exact .inr ⟨u,rfl,(Option.some.inj e).symm⟩
 .rw[wB (by rw[aP];omega),sH]at e;split at e
  .exact .inl (Option.some.inj e).symm
  .cases e
theorem bU.start (h:bb K (bK B H) vs ts):bU K B H (start N vs) (startT N.length ts):=by
 have I:=h.length;refine⟨by unfold L2.start startT;simp only[di,aP,wH];omega,λi t e=>?_,λi us e=>?_,λi j us ws D _ e _ _=>?_⟩
 .rcases qI e with q|⟨u,q,L⟩
  .cases q
  .cases L;obtain⟨v,b,r⟩:=h.get q;have hi:i<vs.length:=(gE.mp b).1;refine⟨v,?_,r⟩;unfold L2.start;rw[sG (by rwa[aP]),bW,b]
   rfl
 .rcases qI e with q|⟨u,q,L⟩
  .cases q
  .cases L
 .rcases qI e with q|⟨u,q,L⟩
  .cases q
  .cases L
noncomputable def isStar:Expr->Bool
 |.Starred .. =>true
 |_=>false
def bA(es:List Expr)(env:Env)(h:isStar ag=false):starEach (ag::es) env=(false,eval ag env)::starEach es env:=by
 cases ag<;>first|rfl|cases h
def bL(es:List Expr):Bool:=es.all λe=>!isStar e
theorem b_:∀{es:List Expr},bL es=true->(backTo pos (starEach es env)).any (·.1)=false
 |[],_=>by rw[starEach];rfl
 |e::es,h=>by
  unfold bL at h;rw[jd,bg]at h;have h1:isStar e=false:=by simpa using h.1
  rw[bA es env h1];exact b_ (es:=es) h.2
theorem ib:∀{es:List Expr},bL es=true->(backTo pos (starEach es env)).all (λx=>!x.1)=true
 |[],_=>by rw[starEach];rfl
 |e::es,h=>by
  unfold bL at h;rw[jd,bg]at h;have h1:isStar e=false:=by simpa using h.1
  rw[bA es env h1];exact ib (es:=es) h.2
def aI{es:List Expr}(h:bL (c5::es)=true):isStar c5=false/\bL es=true:=by
 unfold bL at h;rw[jd,bg]at h;exact⟨by simpa using h.1,h.2⟩
def xN:Expr->Bool
 |.ListComp .. =>true
 |.SetComp .. =>true
 |.DictComp .. =>true
 |_=>false
def t5(h:xN e=false):swapsWith e t n env=pure false:=by
 cases e<;>first|rfl|cases h
noncomputable def uL:Expr->Bool
 |.UnaryOp .. =>false
 |.BoolOp .. =>false
 |.IfExp .. =>false
 |.Compare .. =>false
 |_=>true
def xO(h:uL e=true):∀whole,isTrue e env whole=(do let v<-whole;standAt e.pos;holding [v] (truthy v)):=by
 intro whole;cases e<;>first|rfl|cases h
def isSet:Expr->Bool
 |.Set .. =>true
 |_=>false
def fZ(h:isSet e=false):∀x,foldedSetIterable e env x=pure x:=by
 intro x;cases e<;>first|rfl|cases h
def isCall:Expr->Bool
 |.Call _ [] _ _=>true
 |_=>false
def ig(h:isCall o=false):attributeBase o x env w=w:=by
 cases o with
 |Call f a k p=>cases a with
  |nil=>cases h
  |cons=>cases f<;>rfl
 |_=>rfl
inductive tP(X:Cx)(F:bS->Rs Tr)(Z:St)(H:Hp)(Q:VK):Prop
 |mk (B:eX) (Y:bS):HB B H->bU X.K B H Z Y->(Fi X H (F Y) λt=>∀v H',aG H H'->Rep X.K (bK B H') v t->Q v H')->tP X F Z H Q
structure QE(X:Cx)(e:Expr)(F:bS->Rs Tr):Prop where
 h:PE X e (tP X F)
inductive tQ(X:Cx)(F:bS->Rs Bool)(Z:St)(H:Hp)(Q:Bool->Hp->Prop):Prop
 |mk (B:eX) (Y:bS):HB B H->bU X.K B H Z Y->(Fi X H (F Y) λb=>∀H',aG H H'->Q b H')->tQ X F Z H Q
structure QT(X:Cx)(e:Expr)(F:bS->Rs Bool):Prop where
 h:PT X e (tQ X F)
structure QW(X:Cx)(e:Expr)(F:bS->Rs Bool):Prop where
 h:PW X e (tQ X F)
structure QF(X:Cx)(e:List Expr)(F:bS->Rs Bool):Prop where
 h:PF X e (tQ X F)
inductive Ss(X:Cx)(F:bS->Rs (List Tr))(Z:St)(H:Hp)(Q:List V->Hp->Prop):Prop
 |mk (B:eX) (Y:bS):HB B H->bU X.K B H Z Y->(Fi X H (F Y) λts=>∀vs H',aG H H'->bb X.K (bK B H') vs ts->Q vs H')->Ss X F Z H Q
structure QA(X:Cx)(e:List Expr)(F:bS->Rs (List Tr)):Prop where
 h:PA X e (Ss X F)
inductive Out where
 |nx (Y:bS)|ret (t:Tr)|bk (Y:bS)|ct (Y:bS)
structure d8(C B0:eX)(H0:Hp)(B:eX)(H:Hp):Prop where
 kp:∀b o,C b=true->H0 b=some o->H b=some o
 jv:eW (bK B0 H0) (bK B H)
 sub:vn C B
 hb:HB B H
def d8.go {B0:eX}(h:d8 C B0 H0 B H)(s:aG H H'):d8 C B0 H0 B H':=⟨λb o c e=>s _ _ (h.kp b o c e),h.jv.trans (bj s),h.sub,h.hb.same s⟩
def vn.refl:vn B B:=⟨λ_ e=>e,λ_ _ e=>e⟩
theorem d8.refl (h:HB B H)(c:vn C B):d8 C B H B H:=⟨λ_ _ _ e=>e,eW.refl _,c,h⟩
theorem d8.trans {B0 B1:eX}(h:d8 C B0 H0 B1 H1)(q:d8 C B1 H1 B2 H2):d8 C B0 H0 B2 H2:=⟨λb o c e=>q.kp b o c (h.kp b o c e),h.jv.trans q.jv,q.sub,q.hb⟩
def d8.same (h:d8 C C H0 B H):aG H0 H:=λb o e=>by
 cases q:C b with
 |true=>exact h.kp b o q e
 |false=>exact bz _ _ (h.jv.h b o (by rwa[gS q]))
def Ec(X:Cx)(D:Ends)(C B0:eX)(H0:Hp):Out->Prop
 |.nx Y=>∀L B' H',d8 C B0 H0 B' H'->bU X.K B' H' L Y->D.nx L H'
 |.ret t=>∀v B' H',d8 C B0 H0 B' H'->Rep X.K (bK C H') v t->D.rt v H'
 |.bk Y=>∀L B' H',d8 C B0 H0 B' H'->bU X.K B' H' L Y->D.bk L H'
 |.ct Y=>∀L B' H',d8 C B0 H0 B' H'->bU X.K B' H' L Y->D.ct L H'
def xS(X:Cx)(C B0:eX)(H0:Hp):Tr->Prop:=λc=>∀B' H',d8 C B0 H0 B' H'->XA X c H'
inductive tS(X:Cx)(G:bS->Rs Out)(D:Ends)(Z:St)(H:Hp):Prop
 |mk (C:eX) (B0:eX) (H0:Hp) (B:eX) (Y:bS):d8 C B0 H0 B H->bU X.K B H Z Y->rn (xS X C B0 H0) (G Y) (Ec X D C B0 H0)->tS X G D Z H
structure QS(X:Cx)(e:Stmt)(F:bS->Rs Out):Prop where
 h:PS X e (tS X F)
structure QB(X:Cx)(e:List Stmt)(F:bS->Rs Out):Prop where
 h:yF X e (tS X F)
def PE.weak {t':TE}(h:PE X e t)(w:∀Z H Q,t' Z H Q->t Z H Q):PE X e t':=λU s Z H Q I q=>h U s Z H Q I (w Z H Q q)
def PT.weak {t':TT}(h:PT X e t)(w:∀Z H Q,t' Z H Q->t Z H Q):PT X e t':=λU s Z H Q I q=>h U s Z H Q I (w Z H Q q)
def PW.weak {t':TT}(h:PW X e t)(w:∀Z H Q,t' Z H Q->t Z H Q):PW X e t':=λL U s Z H Q I q=>h L U s Z H Q I (w Z H Q q)
def PA.weak {t':TA}(h:PA X es t)(w:∀Z H Q,t' Z H Q->t Z H Q):PA X es t':=λpos U s Z H Q I q=>h pos U s Z H Q I (w Z H Q q)
def PS.weak {t':TS}(h:PS X st t)(w:∀D Z H,t' D Z H->t D Z H):PS X st t':=λU s Z H D I q=>h U s Z H D I (w D Z H q)
def yF.weak {st:List Stmt}{t':TS}(h:yF X st t)(w:∀D Z H,t' D Z H->t D Z H):yF X st t':=λU s Z H D I q=>h U s Z H D I (w D Z H q)
def uM(Y:bS)(i:Nat):Rs Tr:=match Y[i]? with
 |some (.sh t)=>.ok t
 |_=>.bad
def IP{X:Cx}(r:bU X.K B H Z Y)(h:Fi X H (uM Y i) k):∃v t,Z[i]?=some (some v)/\Rep X.K (bK B H) v t/\k t:=by
 unfold uM at h;split at h
 .rename_i t e;obtain⟨v,L,r1⟩:=r.sh i t e;exact⟨v,t,L,r1,h⟩
 .exact h.elim
theorem aj{X:Cx}(i:Nat)(hN:autoParam (X.N[i]?=some x) Rfz) (b:Wx X.env.scope x:=by first|exact Or.inl rfl|exact Or.inr (Or.inl rfl)|exact Or.inr (Or.inr rfl)) (hd:autoParam (Db x) Dcz) (I:autoParam ((x==("__classdict__":Str))=false) Dcz):QE X (.Name x pos) (λY=>uM Y i):=⟨(OZ hN b hd I).weak λZ H Q ⟨B,Y,hb,r,q⟩=>by
  obtain⟨v,t,e,r1,k⟩:=IP r q;exact⟨v,e,k v H (aG.refl H) r1⟩⟩
def BW(h:PE X e (tC v))(r:∀H,Rep X.K H v t):PE X e (tP X λ_=>.ok t):=
 h.weak λZ H Q ⟨B,Y,_,_,q⟩=>q v H (aG.refl H) (r _)
def aD{j pos}:QE X (.Constant (.int i) j pos) (λ_=>.ok (.int i)):=⟨BW O0 λH=>.int i⟩
def uN{j pos}:QE X (.Constant (.bool b) j pos) (λ_=>.ok (.bl b)):=⟨BW S7 λH=>.bl b⟩
def jL{j pos}:QE X (.Constant .none j pos) (λ_=>.ok .bM):=⟨BW O1 λH=>.bM⟩
def ax{z:Str}{j pos}(b:autoParam (z.length<=cH) Dcz):QE X (.Constant (.str z) j pos) (λ_=>.ok (.str z)):=⟨BW O2 λH=>.str z b⟩
def TX(K:Frag)(mg:Str->Option Value)(x:Str)(t:Tr):Prop:=∃v u,mg x=some u/\RelV v u/\∀H,Rep K H v t
def Xm{X:Cx}(hm:X.mg x=none)(b:autoParam (bootBuiltins x=some (.type n)) Rfz) (q:autoParam (Gl X x) Rfz) (r:autoParam (x≠"__name__") Dcz) (hd:autoParam (Db x) Dcz):QE X (.Name x pos) (λ_=>.ok (.ty n)):=⟨BW (Fj (v:=.ty n) q hm b rfl r hd) λH=>.ty n⟩
def PZ(h:Tr->Tr->Rs Tr)(a b:Rs Tr):Rs Tr:=a.bind λx=>b.bind λy=>h x y
inductive rT(X:Cx)(h:Tr->Tr->Rs Tr)(x:V)(y:V)(H:Hp)(Q:VK):Prop
 |mk (B:eX) (tx:Tr) (ty:Tr):HB B H->Rep X.K (bK B H) x tx->Rep X.K (bK B H) y ty->(Fi X H (h tx ty) λt=>∀v H',aG H H'->Rep X.K (bK B H') v t->Q v H')->rT X h x y H Q
abbrev Bs(X:Cx)(f:Value->Value->Sem Value)(h:Tr->Tr->Rs Tr):Prop:=sE X f (rT X h)
def t7{F G:bS->Rs Tr}(q:tP X (λY=>PZ h (F Y) (G Y)) Z H Q):O6 (rT X h) (tP X F) (tP X G) Z H Q:=by
 obtain⟨B,Y,hb,r,q⟩:=q;refine⟨B,Y,hb,r,q.bind.mono λx L v H1 s1 r1=>⟨B,Y,hb.same s1,r.same s1,(L.bind.same s1).mono λy b u H2 s2 r2=>⟨B,x,y,(hb.same s1).same s2,r1.same (bj s2),r2,?_⟩⟩⟩;exact(b.same (s1.trans s2)).mono λt I w M s3 S=>I w M ((s1.trans s2).trans s3) S
def cV(r:Bs X (binaryOp op) h)(I:QE X a F)(hb:QE X b G):QE X (.BinOp a op b pos) (λY=>PZ h (F Y) (G Y)):=⟨(Tg r I.h hb.h).weak λ_ _ _ q=>t7 q⟩
def kH(r:Bs X (compareOp op) h)(I:QE X a F)(hb:QE X b G)(hm:behindInMarks op b=false:=by first|exact Ij _|rfl|with_unfolding_all rfl):QE X (.Compare a [op] [b] pos) (λY=>PZ h (F Y) (G Y)):=⟨(Lu r I.h hb.h hm).weak λ_ _ _ q=>t7 q⟩
def TY(r:Rs Tr):Rs Bool:=r.bind λt=>match t with
 |.bl b=>.ok b
 |_=>.bad
def Rep.rW (h:Rep K H v (.bl b)):v=.bl b:=by cases h;rfl
def fM{t:Tr}(r:bb K W xs [t]):∃x,xs=[x]/\Rep K W x t:=by
 cases r with
 |cons a r=>cases r;exact⟨_,rfl,a⟩
def BX{t u:Tr}(r:bb K W xs [t,u]):∃x y,xs=[x,y]/\Rep K W x t/\Rep K W y u:=by
 cases r with
 |cons a r=>
  obtain⟨y,rfl,b⟩:=fM r;exact⟨_,_,rfl,a,b⟩
def Rep.FF (h:Rep K H v (.uI ns)):∃a,v=.ref a/\lI K H.H a (ns.map V.int):=by cases h;exact⟨_,rfl,by assumption⟩
def Rep.nM (h:Rep K H v (.bh aS)):∃a kvs,v=.ref a/\Rd H.H a (.dK kvs)/\kvs.map (·.1)=aS.map (·.1)/\bb K H (kvs.map (·.2)) (aS.map (·.2)):=by cases h;exact⟨_,_,rfl,by assumption,by assumption,by assumption⟩
def Rep.nN {i:Nat}(h:Rep K H v (.at i)):∃a,v=.ref a/\H.ix a=some i:=by cases h;exact⟨_,rfl,by assumption⟩
def Rep.Ag (h:Rep K H v (.ob x fs)):∃a dx b,v=.ref a/\H.H a=some (.ins (clsAt K x) dx b)/\b.map (·.1)=fs.map (·.1)/\bb K H (b.map (·.2)) (fs.map (·.2)):=by cases h;exact⟨_,_,_,rfl,by assumption,by assumption,by assumption⟩
def Rep.Ah (h:Rep K H v .bM):v=.bM:=by cases h;rfl
def Rep.int_inv (h:Rep K H v (.int i)):v=.int i:=by cases h;rfl
def Rep.str_inv (h:Rep K H v (.str z)):v=.str z/\z.length<=cH:=by cases h;exact⟨rfl,by assumption⟩
def Rep.dY (h:Rep K H v (.tup ts)):∃a vs,v=.ref a/\mj K H.H a vs/\bb K H vs ts:=by cases h;exact⟨_,_,rfl,by assumption,by assumption⟩
def Rep.lst_inv (h:Rep K H v (.lst ts)):∃a vs,v=.ref a/\H.H a=some (.lst vs)/\bb K H vs ts:=by cases h;exact⟨_,_,rfl,by assumption,by assumption⟩
def hide{G:Prop}(k:∀P:Prop,(G->P)->P):G:=k G id
def LU(h:Fi X H (TY r) k):Fi X H r λt=>∃b,t=.bl b/\k b:=by
 refine h.bind.mono λt q=>?_
 cases t with
 |bl b=>exact⟨b,rfl,q⟩
 |_=>exact q.elim
def aX(I:Bs X (compareOp op) h)(M:QE X a F)(hb:QE X b G)(hm:behindInMarks op b=false:=by first|exact Ij _|rfl|with_unfolding_all rfl):QT X (.Compare a [op] [b] pos) (λY=>TY (PZ h (F Y) (G Y))):=⟨have hb:=hb.h;(Lv I M.h hb hm).weak λZ H Q ⟨B,Y,hb,r,q⟩=>by
  refine t7 (Q:=λx H'=>∃k,x=.bl k/\Q k H') ⟨B,Y,hb,r,(LU q).mono λt L v H' S r'=>?_⟩;obtain⟨b,rfl,k⟩:=L;exact⟨b,r'.rW,k H' S⟩⟩
noncomputable def nO:Tr->Rs Bool
 |.bM=>.ok false
 |.bl b=>.ok b
 |.int i=>.ok (i !=0)
 |.str z=>.ok ((z.length:Int) !=0)
 |.tup ts=>.ok (!ts.isEmpty)
 |.lst ts=>.ok (!ts.isEmpty)
 |.bh aS=>.ok (!aS.isEmpty)
 |_=>.bad
theorem bb.isEmpty (h:bb K H vs ts):vs.isEmpty=ts.isEmpty:=by cases h<;>rfl
def lK:cH<=sizeLine:=by rw[eO];decide
def LV(r:Rep K H v t)(e:nO t=.ok b):Lw K v H b:=by
 cases r with
 |bM=>cases e;rfl
 |bl c=>cases e;rfl
 |int i=>cases e;rfl
 |str z h=>cases e;exact⟨aV h lK,rfl⟩
 |ty n=>cases e
 |tup h r=>cases e;exact .inr (.inl ⟨_,h,by rw[r.isEmpty]⟩)
 |lst h r=>cases e;exact .inl ⟨_,.of h,by rw[r.isEmpty]⟩
 |uI h=>cases e
 |«at» h=>cases e
 |vm h L q=>cases e
 |ob h L q=>cases e
 |zc h c=>cases e
 |bh h L r=>
  cases e;refine .inr (.inr ⟨_,h,?_⟩);rename_i kvs aS;cases kvs<;>cases aS<;>first|rfl|cases L
def xQ{X:Cx}(r:Rep X.K H v t)(h:Fi X H (nO t) k):∃b,Lw X.K v H b/\k b:=by
 cases e:nO t with
 |ok b=>rw[e]at h;exact⟨b,LV r e,h⟩
 |exc c=>cases t<;>cases e
 |bad=>rw[e]at h;exact h.elim
def lL(I:QE X a F)(he:autoParam (uL a=true) Rfz):QT X a (λY=>(F Y).bind nO):=⟨(BE I.h (xO he)).weak λZ H Q ⟨B,Y,hb,r,q⟩=>⟨B,Y,hb,r,q.bind.mono λt M v H' L S=>by
  obtain⟨b,h1,h2⟩:=xQ (S.same fj) (M.same L);exact⟨b,h1,h2 H' L⟩⟩⟩
def IQ(r:Rs Bool):Rs Bool:=r.bind λb=>.ok (!b)
def vo(b:QT X a A):QT X (.UnaryOp .Not a pos) (λY=>IQ (A Y)):=⟨(H_ b.h).weak λZ H Q ⟨B,Y,hb,r,q⟩=>⟨B,Y,hb,r,q.bind⟩⟩
def Ed(a b:Rs Bool):Rs Bool:=a.bind λc=>if c then b else .ok false
def Wa(a b:Rs Bool):Rs Bool:=a.bind λc=>if c then .ok true else b
def ij(b:QT X a A):QW X (.BoolOp .And [a] pos) A:=⟨pw_and1 b.h⟩
def IS(b:QT X a A):QW X (.BoolOp .Or [a] pos) A:=⟨pw_or1 b.h⟩
def lM(I:QT X c5 A)(hb:QW X (.BoolOp .And (ag::af) pos) B):QW X (.BoolOp .And (c5::ag::af) pos) (λY=>Ed (A Y) (B Y)):=⟨have hb:=hb.h;(pw_and I.h hb).weak λZ H Q ⟨L,Y,hb,r,q⟩=>⟨L,Y,hb,r,q.bind.mono λc b H1 s1=>by
  cases c with
  |true=>exact⟨L,Y,hb.same s1,r.same s1,(Fi.same b s1).mono λag M H2 s2=>M H2 (s1.trans s2)⟩
  |false=>exact b H1 s1⟩⟩
def P0(I:QT X c5 A)(hb:QW X (.BoolOp .Or (ag::af) pos) B):QW X (.BoolOp .Or (c5::ag::af) pos) (λY=>Wa (A Y) (B Y)):=⟨have hb:=hb.h;(pw_or I.h hb).weak λZ H Q ⟨L,Y,hb,r,q⟩=>⟨L,Y,hb,r,q.bind.mono λc b H1 s1=>by
  cases c with
  |false=>exact⟨L,Y,hb.same s1,r.same s1,(Fi.same b s1).mono λag M H2 s2=>M H2 (s1.trans s2)⟩
  |true=>exact b H1 s1⟩⟩
def fN{op}(h:QW X (.BoolOp op es pos) A):QT X (.BoolOp op es pos) A:=⟨h.h.pt⟩
def TZ(a b:Rs Tr):Rs Tr:=a.bind λt=>(nO t).bind λc=>if c then b else .ok t
def BY(ha:QE X c5 F)(hb:QE X (.BoolOp .And (ag::af) pos) G):QE X (.BoolOp .And (c5::ag::af) pos) (λY=>TZ (F Y) (G Y)):=⟨by
 intro U s Z H Q I ⟨B,Y,M,r,q⟩;refine BoolOp_and (d7 (ha.h U s Z H _ I ⟨B,Y,M,r,q.bind.mono λt b v H1 s1 r1=>(show∃t,Rep X.K (bK B H1) v t/\aG H H1/\Fi X H ((nO t).bind λc=>if c then G Y else .ok t) (λt=>∀v H',aG H H'->Rep X.K (bK B H') v t->Q v H')from⟨t,r1,s1,b⟩)⟩) λv s1 ⟨x,H1,I1,r1,t,rt,L,b⟩=>?_);obtain⟨c,h1,h2⟩:=xQ (rt.same fj) (b.bind.same L);refine d7 (Ik U s1 Z H1 x v (λk H'=>k=c/\H'=H1) I1 r1 ⟨c,h1,rfl,rfl⟩) λk s2 ⟨H2,S,e1,e2⟩=>?_
 subst e1 e2;cases k with
 |true=>exact hb.h U s2 Z _ Q S ⟨B,Y,M.same L,r.same L,(Fi.same h2 L).mono λt q v H' s' r'=>q v H' (L.trans s') r'⟩
 |false=>exact⟨x,_,S,r1,h2 x _ L rt⟩⟩
def BZ{op}(h:QE X a F):QE X (.BoolOp op [a] pos) F:=⟨O3 h.h⟩
def P4(r:Rs Bool):Rs Tr:=r.bind λb=>.ok (.bl b)
def LW(c:Rs Bool)(a b:Rs Tr):Rs Tr:=c.bind λk=>if k then a else b
def LX(M:QT X c A)(S:QE X a F)(hb:QE X b G):QE X (.IfExp c a b pos) (λY=>LW (A Y) (F Y) (G Y)):=⟨have hb:=hb.h;(Ia M.h S.h hb).weak λZ H Q ⟨B,Y,hb,r,q⟩=>⟨B,Y,hb,r,q.bind.mono λk I H1 s1=>by
  cases k with
  |true=>exact⟨B,Y,hb.same s1,r.same s1,(Fi.same I s1).mono λt q v H2 s2 L=>q v H2 (s1.trans s2) L⟩
  |false=>exact⟨B,Y,hb.same s1,r.same s1,(Fi.same I s1).mono λt q v H2 s2 L=>q v H2 (s1.trans s2) L⟩⟩⟩
def rq(a:Rs Tr)(l:Rs (List Tr)):Rs (List Tr):=a.bind λx=>l.bind λxs=>.ok (x::xs)
def FG:PA X [] (Ss X λ_=>.ok []):=xA.weak λZ H Q ⟨B,Y,hb,r,q⟩=>q [] H (aG.refl H) .nil
def Ai(b:PE X ag (tP X F))(I:PA X es (Ss X L))(hs:autoParam (isStar ag=false) Rfz):PA X (ag::es) (Ss X λY=>rq (F Y) (L Y)):=
 (qG b I (bA _ _ hs)).weak λZ H Q ⟨B,Y,hb,r,q⟩=>⟨B,Y,hb,r,q.bind.mono λx M v H1 s1 S=>⟨B,Y,hb.same s1,r.same s1,(M.bind.same s1).mono λxs qs vs H2 s2 r2=>qs _ H2 (s1.trans s2) (.cons (S.same (bj s2)) r2)⟩⟩
noncomputable def dy:Nat:=16777216
def iR:dy=sizeLine:=eO.symm
def yQ(l:Rs (List Tr)):Rs Tr:=l.bind λts=>if ts.length<=dy then .ok (.tup ts)else .bad
def Aj(l:Rs (List Tr)):Rs Tr:=l.bind λts=>if ts.length<=dy then .ok (.lst ts)else .bad
def bE{x1}(h:QA X es L):QE X (.Tuple es x1 pos) (λY=>yQ (L Y)):=⟨(Pg h.h).weak λZ H Q ⟨B,Y,hb,r,q⟩=>⟨B,Y,hb,r,q.bind.mono λts b vs H1 s1 M=>by
  by_cases S:ts.length<=dy
  .rw[av S]at b;refine⟨by rwa[M.length,<-iR],λp I=>b (.ref p) _ (s1.BS (s1.free I)) (.tup (.of ((hb.same s1).new I)) (M.same (bj (aG.upd I))))⟩
  .rw[aA S]at b;exact b.elim⟩⟩
def rA(h:QA X es L):QE X (.List es pos) (λY=>Aj (L Y)):=⟨(Ip h.h).weak λZ H Q ⟨B,Y,hb,r,q⟩=>⟨B,Y,hb,r,q.bind.mono λts b vs H1 s1 M=>by
  by_cases S:ts.length<=dy
  .rw[av S]at b;refine⟨by rwa[M.length,<-iR],λp I=>b (.ref p) _ (s1.BS (s1.free I)) (.lst ((hb.same s1).new I) (M.same (bj (aG.upd I))))⟩
  .rw[aA S]at b;exact b.elim⟩⟩
def d9(h:List Tr->Rs Tr)(l:Rs (List Tr)):Rs Tr:=l.bind h
inductive rC(X:Cx)(h:List Tr->Rs Tr)(xs:List V)(H:Hp)(Q:VK):Prop
 |mk (B:eX) (ts:List Tr):HB B H->bb X.K (bK B H) xs ts->(Fi X H (h ts) λt=>∀v H',aG H H'->Rep X.K (bK B H') v t->Q v H')->rC X h xs H Q
abbrev m9(X:Cx)(f:Value)(h:List Tr->Rs Tr):Prop:=gZ X f (rC X h)
def ze{L:bS->Rs (List Tr)}(q:tP X (λY=>d9 h (L Y)) Z H Q):V4 (rC X h) (Ss X L) Z H Q:=by
 obtain⟨B,Y,hb,r,q⟩:=q;exact⟨B,Y,hb,r,q.bind.mono λts b vs H1 s1 r1=>⟨B,ts,hb.same s1,r1,(b.same s1).mono λt b v H2 s2 I=>b v H2 (s1.trans s2) I⟩⟩
def eC{id:String}(b:m9 X (.builtin id) h)(hm:X.mg x=none)(r:QA X (ag::af) L)(I:autoParam (bootBuiltins x=some (.builtin id)) Rfz) (M:autoParam (Gl X x) Rfz) (S:autoParam (x≠"__name__") Dcz) (iJ:autoParam (Db x) Dcz) (cJ:autoParam (bL (ag::af)=true) Rfz):QE X (.Call (.Name x p) (ag::af) [] pos) (λY=>d9 h (L Y)):=⟨(tM b M hm I r.h S iJ (bA _ _ (aI cJ).1) (b_ (aI cJ).2)).weak λ_ _ _ q=>ze q⟩
def m_(b:m9 X (.type T) h)(hm:X.mg x=none)(r:QA X (ag::af) L)(I:autoParam (bootBuiltins x=some (.type T)) Rfz) (M:autoParam (Gl X x) Rfz) (S:autoParam (x≠"__name__") Dcz) (iJ:autoParam (Db x) Dcz) (cJ:autoParam (bL (ag::af)=true) Rfz):QE X (.Call (.Name x p) (ag::af) [] pos) (λY=>d9 h (L Y)):=⟨(qH b M hm I r.h S iJ (bA _ _ (aI cJ).1) (b_ (aI cJ).2)).weak λ_ _ _ q=>ze q⟩
inductive spT(K:Frag)(f:List Tr->Rs Tr)(vs:List V)(H:Hp)(Q:VK)(_w3:XK):Prop
 |mk (B:eX) (ts:List Tr):HB B H->bb K (bK B H) vs ts->(∃t,f ts=.ok t/\∀v H',aG H H'->Rep K (bK B H') v t->Q v H')->spT K f vs H Q _w3
def T1{X:Cx}{e:Expr}(D:FE X.K X.mg x st ps f ai)(G:fK X.prog X.w X.K X.mg X.base rj k f ai ps (spT X.K h))(I:cQ k X.A)(M:QA X (e::af) L)(S:autoParam (Gl X x) Rfz) (iJ:autoParam (Db x) Dcz) (cJ:autoParam (bL (e::af)=true) Rfz):QE X (.Call (.Name x p) (e::af) [] pos) (λY=>d9 h (L Y)):=⟨(PX D G I M.h S iJ (bA _ _ (aI cJ).1) (b_ (aI cJ).2)).weak λZ H Q ⟨B,Y,hb,r,q⟩=>⟨B,Y,hb,r,q.bind.mono λts b vs H1 s1 r1=>by
  cases e:h ts with
  |ok t=>rw[e]at b;exact⟨B,ts,hb.same s1,by rwa[j6],t,e,λv H2 s2 r2=>b v H2 (s1.trans s2) r2⟩
  |exc c=>rw[e]at b;exact(b _ (aG.refl _)).elim
  |bad=>rw[e]at b;exact b.elim⟩⟩
def B5(r:Rs Out)(G:bS->Rs Out):Rs Out:=r.bind λo=>match o with
 |.nx Y=>G Y
 |.ret t=>.ok (.ret t)
 |.bk Y=>.ok (.bk Y)
 |.ct Y=>.ok (.ct Y)
def gA:QB X [] (λY=>.ok (.nx Y)):=⟨Fl.weak λD Z H ⟨C,B0,H0,B,Y,L,r,q⟩=>q Z B H L r⟩
def bq(h1:QS X st G)(h2:QB X b I):QB X (st::b) (λY=>B5 (G Y) I):=⟨(BC h1.h h2.h).weak λD Z H ⟨C,B0,H0,B,Y,M,r,q⟩=>⟨C,B0,H0,B,Y,M,r,q.bind.mono λo L=>by
  cases o with
  |nx fk=>exact λcU B' H' S r'=>⟨C,B0,H0,B',fk,S,r',L⟩
  |ret t=>exact L
  |bk fk=>exact L
  |ct fk=>exact L⟩⟩
def cc(h1:QS X st G):QB X [st] G:=⟨Fm h1.h⟩
def LZ(i:Nat)(r:Rs Tr)(Y:bS):Rs Out:=r.bind λt=>.ok (.nx (Y.set i (.sh t)))
def rn.here {B0:eX}{r:Rs α}{k:α->Prop}(h:rn (xS X C B0 H0) r k)(b:d8 C B0 H0 B H):Fi X H r k:=h.imp λ_ q H' L=>q B H' (b.go L)
def B6{X:Cx}{F:bS->Rs Tr}{B0:eX}(b:d8 C B0 H0 B H)(r:bU X.K B H Z Y)(q:rn (xS X C B0 H0) (F Y) k){Q:VK}(I:∀t v H',k t->aG H H'->d8 C B0 H0 B H'->bU X.K B H' Z Y->Rep X.K (bK B H') v t->Q v H'):tP X F Z H Q:=
 ⟨B,Y,b.hb,r,(q.here b).mono λt M v H' L S=>I t v H' M L (b.go L) (r.same L) S⟩
def T2{X:Cx}{A:bS->Rs Bool}{B0:eX}(I:d8 C B0 H0 B H)(r:bU X.K B H Z Y)(q:rn (xS X C B0 H0) (A Y) k){Q:Bool->Hp->Prop}(M:∀b H',k b->aG H H'->d8 C B0 H0 B H'->bU X.K B H' Z Y->Q b H'):tQ X A Z H Q:=
 ⟨B,Y,I.hb,r,(q.here I).mono λb S H' L=>M b H' S L (I.go L) (r.same L)⟩
def Rep.out {B0:eX}(r:Rep K (bK B H) v t)(b:d8 C B0 H0 B H):Rep K (bK C H) v t:=r.same (xM b.sub)
def dB{i:Nat}(he:QE X e F)(hN:autoParam X.N.Nodup Asz) (hi:autoParam (X.N[i]?=some x) Rfz) (b:autoParam (Loc X.env.scope x) Olz) (hs:autoParam (xN e=false) Rfz) (hf:autoParam (DH X x) Ilz):QS X (.Assign [.Name x pos'] e pos) (λY=>LZ i (F Y) Y):=⟨(DP hN hi b he.h (t5 hs) hf).weak λD Z H ⟨C,B0,H0,B,Y,L,r,q⟩=>B6 L r q.bind λt v H1 I s1 M S rv=>I _ B H1 M (S.set i rv)⟩
def L3(r:Rs Tr):Rs Out:=r.bind λt=>.ok (.ret t)
def cR(he:QE X e F):QS X (.Return (some e) pos) (λY=>L3 (F Y)):=⟨(Ic he.h).weak λD Z H ⟨C,B0,H0,B,Y,b,r,q⟩=>B6 b r q.bind λt v H1 I s1 L S M=>I v B H1 L (M.out L)⟩
def N6(r:Rs Tr)(Y:bS):Rs Out:=r.bind λ_=>.ok (.nx Y)
def P5(he:QE X e F)(hs:autoParam (xN e=false) Rfz):QS X (.Expr e pos) (λY=>N6 (F Y) Y):=⟨(Fo he.h (t5 hs)).weak λD Z H ⟨C,B0,H0,B,Y,L,r,q⟩=>B6 L r q.bind λt v H1 b s1 I M S=>b _ B H1 I M⟩
def T5(c:Rs Bool)(a b:Rs Out):Rs Out:=c.bind λk=>if k then a else b
def mq(I:QT X c A)(M:QB X ys G)(hb:QB X ns S):QS X (.If c ys ns pos) (λY=>T5 (A Y) (G Y) (S Y)):=⟨(NQ I.h M.h hb.h).weak λD Z H ⟨C,B0,H0,B,Y,si,r,q⟩=>T2 si r q.bind λk H1 L s1 b r1=>by
  cases k with
  |true=>exact PN ⟨C,B0,H0,B,Y,b,r1,L⟩
  |false=>exact PM ⟨C,B0,H0,B,Y,b,r1,L⟩⟩
abbrev xR:=Tr->bS->Rs bS
inductive tG(X:Cx)(T:xR)(v:V)(Z:St)(H:Hp)(Q:St->Hp->Prop):Prop
 |mk (B:eX) (Y:bS) (t:Tr):HB B H->bU X.K B H Z Y->Rep X.K (bK B H) v t->(Fi X H (T t Y) λfk=>∀cU H',aG H H'->bU X.K B H' cU fk->Q cU H')->tG X T v Z H Q
structure QG(X:Cx)(e:Expr)(F:xR):Prop where
 h:PG X e (tG X F)
structure B7(X:Cx)(scope:Scope)(N':List Str)(tg elt:Expr)(ifs:List Expr)(T:xR)(A:bS->Rs Bool)(F:bS->Rs Tr):Prop where
 all:∀s H ex,QG (tY X scope N' s H ex) tg T/\QF (tY X scope N' s H ex) ifs A/\QE (tY X scope N' s H ex) elt F
def gN(i:Nat):xR:=λt Y=>.ok (Y.set i (.sh t))
def ck{X:Cx}(i:Nat)(hN:autoParam X.N.Nodup Asz) (hi:autoParam (X.N[i]?=some x) Rfz) (b:autoParam (Loc X.env.scope x) Olz) (hf:autoParam (DH X x) Ilz):QG X (.Name x pos) (gN i):=⟨by
 intro U s Z H v u Q I r ⟨B,Y,t,hb,rs,rt,q⟩;exact Fp hN hi b hf U s Z H v u Q I r (q _ H (aG.refl H) (rs.set i rt))⟩
noncomputable def IT:List Nat->List Tr->bS->Rs bS
 |[],[],Y=>.ok Y
 |i::is,t::ts,Y=>IT is ts (Y.set i (.sh t))
 |_,_,_=>.bad
inductive Zf(X:Cx)(T:List Tr->bS->Rs bS)(vs:List V)(Z:St)(H:Hp)(Q:St->Hp->Prop):Prop
 |mk (B:eX) (Y:bS) (ts:List Tr):HB B H->bU X.K B H Z Y->bb X.K (bK B H) vs ts->(Fi X H (T ts Y) λfk=>∀cU H',aG H H'->bU X.K B H' cU fk->Q cU H')->Zf X T vs Z H Q
structure Wb(X:Cx)(e:List Expr)(F:List Tr->bS->Rs bS):Prop where
 h:Tb X e (Zf X F)
def N7:Wb X [] (IT []):=⟨by
 intro U s Z H vs us Q I r ⟨B,Y,ts,hb,rs,rt,q⟩
 match ts,rt,q with
 |[],.nil,q=>exact Lo U s Z H [] us Q I r ⟨rfl,q Z H (aG.refl H) rs⟩
 |_::_,_,q=>exact q.elim⟩
def Ak{i:Nat}(h2:Wb X es (IT is))(hN:autoParam X.N.Nodup Asz) (hi:autoParam (X.N[i]?=some x) Rfz) (b:autoParam (Loc X.env.scope x) Olz) (hf:autoParam (DH X x) Ilz) (hs:autoParam ((assignEach (.Name x pos::es) X.env).map (·.2)=assign (.Name x pos) X.env::(assignEach es X.env).map (·.2)) Rfz):Wb X (.Name x pos::es) (IT (i::is)):=⟨by
 intro U s Z H vs us Q I r ⟨B,Y,ts,hb,rs,rt,q⟩
 match ts,rt,q with
 |[],_,q=>exact q.elim
 |t::ts,.cons L r2,q=>
  exact Ie (Fp hN hi b hf) h2.h hs U s Z H _ us Q I r ⟨_,_,rfl,⟨B,_,ts,hb,rs.set i L,r2,q⟩⟩⟩
def gT(is:List Nat):xR:=λt Y=>match t with
 |.tup ts=>IT is ts Y
 |_=>.bad
theorem FH:∀{is:List Nat} {ts:List Tr} {Y b:bS},IT is ts Y=.ok b->ts.length=is.length
 |[],[],_,_,_=>rfl
 |[],_::_,_,_,h=>by cases h
 |_::_,[],_,_,h=>by cases h
 |_::is,_::ts,_,_,h=>by rw[cY,cY,FH (is:=is) (ts:=ts) h]
theorem zf:∀{is:List Nat} {ts:List Tr} {Y:bS} {c:Tr},IT is ts Y≠ .exc c
 |[],[],_,_=>λh=>by cases h
 |[],_::_,_,_=>λh=>by cases h
 |_::_,[],_,_=>λh=>by cases h
 |_::is,_::ts,_,_=>zf (is:=is) (ts:=ts)
def N8(h:Wb X es (IT is))(b:autoParam (X.calm=true) Rfz) (M:autoParam ((assignEach es X.env).length=is.length) Rfz) (cJ:autoParam ((assignEach es X.env).findIdx? (·.1)=none) Rfz):QG X (.Tuple es k pos) (gT is):=⟨by
 intro U s Z H v u Q I r ⟨B,Y,t,hb,rs,rt,q⟩;cases rt with
 |tup S rv=>
  refine O4 b h.h M cJ U s Z H _ u Q I r ⟨_,_,rfl,(aG.tup bz S),?_,B,Y,_,hb,rs,rv,q⟩;have L:Fi X H (IT is _ Y) _:=q;cases e:IT is _ Y with
  |ok fk=>rw[rv.length];exact FH e
  |exc c=>exact(zf e).elim
  |bad=>rw[e]at L;exact L.elim
 |_=>exact q.elim⟩
structure oC(K:Frag)(B:eX)(J:It)(H:Hp)(ts:List Tr):Prop where
 go:∀i B' H',i<ts.length->eW (bK B H) (bK B' H')->HB B' H'->J.go i H'
 GO:∀i B' H' x L4,i<ts.length->eW (bK B H) (bK B' H')->HB B' H'->J.GO i H' x L4->aG H' L4/\∃t,ts[i]?=some t/\Rep K (bK B' L4) x t
 stop:∀B' H',eW (bK B H) (bK B' H')->J.stop ts.length H'
inductive tI(X:Cx)(W:bS->Rs (List Tr))(Z:St)(H:Hp)(R:It->Hp->Prop):Prop
 |mk (B:eX) (Y:bS):HB B H->bU X.K B H Z Y->(Fi X H (W Y) λts=>∀J H',aG H H'->oC X.K B J H' ts->R J H')->tI X W Z H R
structure QI(X:Cx)(tg e:Expr)(F:bS->Rs (List Tr)):Prop where
 h:PI X tg e (tI X F)
def vP(T:xR)(G:bS->Rs Out):List Tr->bS->Rs Out
 |[],Y=>.ok (.nx Y)
 |t::ts,Y=>(T t Y).bind λb=>(G b).bind λo=>match o with
  |.nx L=>vP T G ts L
  |.ct L=>vP T G ts L
  |.bk L=>.ok (.nx L)
  |.ret t=>.ok (.ret t)
def N9(T:xR)(G:bS->Rs Out)(l:Rs (List Tr))(Y:bS):Rs Out:=l.bind λts=>vP T G ts Y
theorem IU(hi:QI X tg c5 W)(hg:QG X tg T)(hb:QB X body G)(hp:PassesOwn `c X.A X.env X.xe:=by exact PassesOwn.never) (hc:autoParam (X.calm=true) Rfz) (hs:autoParam (isSet c5=false) Rfz):QS X (.For tg c5 body [] pos) (λY=>N9 T G (W Y) Y):=⟨have hi:=hi.h;(DR hp hc hi hg.h hb.h (fZ hs)).weak λD Z H ⟨C,B0,H0,B,Y,si,r,q⟩=>⟨B,Y,si.hb,r,(q.bind.here si).mono λts qt J H1 s1 gt=>by
  have M:=si.go s1;refine⟨λi m cU H'=>m=ts.length - i/\i<=ts.length/\∃B' fk,d8 C B H1 B' H'/\bU X.K B' H' cU fk/\rn (xS X C B0 H0) (vP T G (ts.drop i) fk) (Ec X D C B0 H0),⟨_,rfl,gH _,B,Y,d8.refl M.hb M.sub,r.same s1,qt⟩,?_⟩
  rintro i m cU H' ⟨rfl,hi,B',fk,S,r',q'⟩
  by_cases hV:i<ts.length
  .rw[qB hV]at q';refine .inr ⟨gt.go i B' H' hV S.jv S.hb,λv7 H2=>∃B2 L,d8 C B H1 B2 H2/\bU X.K B2 H2 v7 L/\rn (xS X C B0 H0) (vP T G (ts.drop (i+1)) L) (Ec X D C B0 H0),
    λv7 H2 ⟨B2,L,x1,x2,x3⟩=>⟨ts.length - (i+1),∎,rfl,hV,B2,L,x1,x2,x3⟩,λx H2 hx=>?_⟩
   obtain⟨s2,t,et,rt⟩:=gt.GO i B' H' x H2 hV S.jv S.hb hx;have P6:ts[i]=t:=by rw[cj hV]at et;exact Option.some.inj et
   rw[P6]at q';have Xn:=S.go s2;have qq:rn (xS X C B0 H0) (T t fk) _:=rn.bind q';refine⟨B',fk,t,Xn.hb,r'.same s2,rt,(qq.here (M.trans Xn)).mono λhW q1 Lq H3 s3 r3=>?_⟩;have P7:=Xn.go s3;refine⟨C,B',H3,B',hW,d8.refl P7.hb P7.sub,r3,((rn.bind q1).imp λc xc b H4 I=>xc b H4 (M.trans (P7.trans I))).mono λo qo=>?_⟩;cases o with
   |nx L=>exact λIV b H4 I r4=>⟨b,L,P7.trans I,r4,qo⟩
   |ct L=>exact λIV b H4 I r4=>⟨b,L,P7.trans I,r4,qo⟩
   |bk L=>exact λIV b H4 I r4=>qo IV b H4 (M.trans (P7.trans I)) r4
   |ret t=>exact λv b H4 I r4=>qo v b H4 (M.trans (P7.trans I)) r4
  .have e:i=ts.length:=∎
   subst e;rw[pw]at q';exact .inl ⟨gt.stop B' H' S.jv,q' cU B' H' (M.trans S) r'⟩⟩⟩
noncomputable def G5(z:Str):List Tr:=z.cps.toList.map λc=>Tr.str ⟨#[c]⟩
def uO(r:Rs Tr):Rs (List Tr):=r.bind λt=>match t with
 |.tup ts=>.ok ts
 |.lst ts=>.ok ts
 |.str z=>.ok (G5 z)
 |_=>.bad
def Ee(h:bK B H a=some (.lst vs))(r:bb K (bK B H) vs ts):oC K B (Y5 K a) H ts where
 go:=λi B' H' hi s hb=>by
  have L:i<vs.length:=by rwa[r.length]
  exact⟨vs,vs[i],lI.of (bz _ _ (s.h _ _ h)),by simp[L]⟩
 GO:=λi B' H' x I hi s hb ⟨e,y⟩=>by
  subst e;have q:=y vs (lI.of (bz _ _ (s.h _ _ h)));obtain⟨t,b,r1⟩:=r.BV q;exact⟨aG.refl _,t,b,r1.same s⟩
 stop:=λB' H' s=>⟨vs,lI.of (bz _ _ (s.h _ _ h)),by rw[r.length];exact aK _⟩
def zg(h:mj K (bK B H) a vs)(r:bb K (bK B H) vs ts):oC K B (WK K a) H ts where
 go:=λi B' H' hi s hb=>by
  have L:i<vs.length:=by rwa[r.length]
  exact⟨vs,vs[i],aG.tup bz (s.h.tup h),by simp[L]⟩
 GO:=λi B' H' x I hi s hb ⟨e,y⟩=>by
  subst e;have q:=y vs (aG.tup bz (s.h.tup h));obtain⟨t,b,r1⟩:=r.BV q;exact⟨aG.refl _,t,b,r1.same s⟩
 stop:=λB' H' s=>⟨vs,aG.tup bz (s.h.tup h),by rw[r.length];exact aK _⟩
def G6(z:Str):oC K B (V' z) H (G5 z) where
 go:=λi B' H' hi _ _=>by
  have h:i<z.cps.size:=by simpa[G5]using hi
  exact h
 GO:=λi B' H' x q hi s hb ⟨e,c,L,b⟩=>by
  subst e;subst b;refine⟨aG.refl _,.str ⟨#[c]⟩,?_,.str _ (by show 1<=cH;decide)⟩;unfold G5;rw[bW,sL,L]
  rfl
 stop:=λB' H' s=>by simp[G5,V']
theorem L6{R:It->Hp->Prop}(r:Inv X U Z H1 s1)(q:R (V' z) H1):wpAny `c X.A (pyIter (.str z t)) (VX X U Z tg R) X.xe s1:=by
 have fin:∀b∈[s1.heap.objs.size],pN X U H1 b:=λb hb=>by
  have e:b=s1.heap.objs.size:=by simpa using hb
  rw[e];exact r.BD (aK _) (r.cy.fresh (aK _))
 cases M:z.cps.all (· <128)
 .exact wpAny_pyIter_wide M ⟨s1.heap.objs.size,[s1.heap.objs.size],_,_,H1,rfl,r.kept (t':=s1.toks) λb o e=>bY _ e,
   BQ (n:="str_iterator") (t:=t) ∅ (λA' L=>Walks.strWide L _ z t) λ_ _ _ _ _ st I=>wpAny_pyIter_striter_wide st I,⟨_,cA _ rfl,rfl,rfl⟩,fin,q⟩
 .exact wpAny_pyIter_ascii M ⟨s1.heap.objs.size,[s1.heap.objs.size],_,_,H1,rfl,r.kept (t':=s1.toks) λb o e=>bY _ e,
   BQ (n:="str_ascii_iterator") (t:=t) ∅ (λA' L=>Walks.strAscii L _ z t) λ_ _ _ _ _ st I=>wpAny_pyIter_striter_ascii st I,⟨_,cA _ rfl,rfl,rfl⟩,fin,q⟩
theorem eD(S:QE X l F):QI X tg l (λY=>uO (F Y)):=⟨by
 intro U s Z H R I ⟨B,Y,hb,r,q⟩;refine d7 (S.h U s Z H (λx H1=>∃t,aG H H1/\Rep X.K (bK B H1) x t/\Fi X H (uO (.ok t)) λts=>∀J H',aG H H'->oC X.K B J H' ts->R J H') I ⟨B,Y,hb,r,q.bind.mono λt qt v H1 s1 r1=>⟨t,s1,r1,qt⟩⟩) λv s1 ⟨x,H1,L,r1,t,M,rt,k⟩=>?_
 have k:Fi X H (match t with
  |.tup ts=>.ok ts
  |.lst ts=>.ok ts
  |.str z=>.ok (G5 z)
  |_=>.bad) _:=k
 have fin:∀b∈[s1.heap.objs.size],pN X U H1 b:=λb hb=>by
  rw[cn.mp hb];exact L.BD (aK _) (L.cy.fresh (aK _))
 split at k
 .obtain⟨a,vs,rfl,h,rr⟩:=rt.dY;cases r1;obtain⟨bJ,rv,p,hz⟩:=L.tuple (aG.tup bz h);exact wpAny_pyIter_tuple (show s1.heap.IsTuple a bJ.toArray from p) ⟨s1.heap.objs.size,[s1.heap.objs.size],_,_,H1,rfl,L.kept (t':=s1.toks) λb o e=>bY _ e,xt a _,⟨_,cA _ rfl,rfl,rfl⟩,fin,k _ H1 M (zg h rr)⟩
 .obtain⟨a,vs,rfl,h,rr⟩:=rt.lst_inv;cases r1;obtain⟨bJ,rv,p,hz⟩:=L.list (lI.of (bz _ _ h));exact mQ p.isList ⟨s1.heap.objs.size,[s1.heap.objs.size],_,_,H1,rfl,L.kept (t':=s1.toks) λb o e=>bY _ e,GP a _,⟨_,cA _ rfl,rfl,rfl⟩,fin,k _ H1 M (Ee h rr)⟩
 .obtain⟨rfl,_⟩:=rt.str_inv;obtain⟨t,rfl⟩:=(show∃t,v=Value.str _ t from r1);exact L6 L (k _ H1 M (G6 _))
 .exact k.elim⟩
noncomputable def oY(lo:Int)(n:Nat):List Tr:=(List.range n).map λk=>Tr.int (lo+(k:Nat))
def lN(lo:Int)(n:Nat):(oY lo n).length=n:=by simp[oY]
theorem B8(lo:Int)(n:Nat):oC K B (VZ lo n) H (oY lo n) where
 go:=λi B' H' hi _ _=>by rw[lN]at hi;exact hi
 GO:=λi B' H' x L hi s hb ⟨e,y⟩=>by
  subst e;subst y;rw[lN]at hi;refine⟨aG.refl _,.int (lo+i),?_,.int _⟩;unfold oY;rw[bW,List.getElem?_range hi]
  rfl
 stop:=λB' H' s=>by rw[lN];exact aK _
def B9(l:Rs (List Tr)):Rs (List Tr):=l.bind λts=>match ts with
 |[.int j]=>if-4611686018427387904<=j/\j<4611686018427387904 then .ok (oY 0 j.toNat)else .bad
 |_=>.bad
def IW(l:Rs (List Tr)):Rs (List Tr):=l.bind λts=>match ts with
 |[.int i,.int j]=>if-4611686018427387904<=i/\i<4611686018427387904/\-4611686018427387904<=j/\j<4611686018427387904 then .ok (oY i (j - i).toNat)else .bad
 |_=>.bad
def PI.weak {t':TI}(h:PI X tg c5 t)(w:∀Z H R,t' Z H R->t Z H R):PI X tg c5 t':=λU s Z H R I q=>h U s Z H R I (w Z H R q)
def B_{X:Cx}(hm:X.mg "range"=none)(M:QA X [ag] L)(S:autoParam (Gl X "range") Rfz) (hs:autoParam (bL [ag]=true) Rfz):QI X tg (.Call (.Name "range" p) [ag] [] pos) (λY=>B9 (L Y)):=⟨(GQ S hm M.h (by rw[bA _ _ (aI hs).1];rfl)).weak λZ H R ⟨B,Y,hb,r,q⟩=>⟨B,Y,hb,r,q.bind.mono λts b vs H1 s1 I=>by
  split at b
  .rename_i j;cases I with
   |cons h1 I=>
    cases h1;cases I;split at b
    .rename_i hj;exact⟨j,rfl,∎,∎,b _ H1 s1 (B8 0 _)⟩
    .exact b.elim
  .exact b.elim⟩⟩
def N_{α:Type}(r:Rs α):Rs α:=match r with
 |.ok a=>.ok a
 |_=>.bad
noncomputable def t9(ix:List (Option Nat))(Y:bS):bS:=ix.map λo=>match o with
 |none=>.no
 |some j=>match Y[j]? with
  |some (.sh t)=>.sh t
  |_=>.no
def bU.comp (ix:List (Option Nat))(h:bU K B H Z Y)(s:eW (bK B H) (bK B' H')):bU K B' H' (jf ix Z) (t9 ix Y):=by
 have no:∀(i:Nat) (c:Cell),(t9 ix Y)[i]?=some c->c=.no\/∃j t,ix[i]?=some (some j)/\Y[j]?=some (.sh t)/\c=.sh t:=λi c e=>by
  unfold t9 at e;rw[bW]at e;cases q:ix[i]? with
  |none=>rw[q]at e;cases e
  |some o=>
   rw[q]at e;cases o with
   |none=>exact .inl (Option.some.inj e).symm
   |some j=>
    have r:(match Y[j]? with|some (Cell.sh t)=>Cell.sh t|_=>Cell.no)=c:=Option.some.inj e;split at r
    .rename_i t L;exact .inr ⟨j,t,rfl,L,r.symm⟩
    .exact .inl r.symm
 refine⟨by unfold t9 jf;rw[aP,aP],λi t e=>?_,λi ts e=>?_,λi j ts us D _ e=>?_⟩
 .rcases no i _ e with q|⟨j,u,I,L,b⟩
  .cases q
  .cases b;obtain⟨v,M,r1⟩:=h.sh j t L;refine⟨v,?_,r1.same s⟩;unfold jf;rw[bW,I];show some ((Z[j]?).join)=_;rw[M]
   rfl
 .rcases no i _ e with q|⟨j,u,I,L,b⟩
  .cases q
  .cases b
 .rcases no i _ e with q|⟨j,u,I,L,b⟩
  .cases q
  .cases b
def HR(T:xR)(A:bS->Rs Bool)(F:bS->Rs Tr):List Tr->bS->Rs (List Tr)
 |[],_=>.ok []
 |t::ts,Y=>(N_ (T t Y)).bind λL=>(N_ (A L)).bind λk=>if k then(N_ (F L)).bind λy=>(HR T A F ts L).bind λys=>.ok (y::ys)else HR T A F ts L
def zh(ix:List (Option Nat))(T:xR)(A:bS->Rs Bool)(F:bS->Rs Tr)(l:Rs (List Tr))(Y:bS):Rs Tr:=l.bind λts=>if ts.length<=dy then(HR T A F ts (t9 ix Y)).bind λys=>.ok (.lst ys)else .bad
def nc(B:eX)(D:Addr):eX:=⟨λb=>B.hd b||b==D,B.ix⟩
def kI{H:Hp}(M:H D=none):eW (bK B H) (bK (nc B D) (upd H D o)):=⟨λb u e=>by
 have L:=bz b u e;have r:b≠D:=cp L M;have S:B.hd b=false:=by
  cases q:B.hd b with
  |false=>rfl
  |true=>
   have I:(if B.hd b=true then none else H b)=some u:=e;rw[q,av rfl]at I;cases I
 rw[gS (show(B.hd b||b==D)=false by rw[S,j8 r];rfl),aM r];exact L,λ_ _ e=>e⟩
def FI(h:HB B H)(r:H D=none):HB (nc B D) (upd H D o):=λb e=>by
 by_cases q:b=D
 .subst q;exact⟨o,bp⟩
 .have L:(B.hd b||b==D)=true:=e;rw[j8 q,pE]at L;rw[aM q];exact h b L
def zi:(nc B D).hd D=true:=by show(B.hd D||D==D)=true;rw[bD,Bool.or_true]
def t_:bK (nc B D) (upd H D o)=bK (nc B D) H:=by
 unfold bK;congr 1;funext b;by_cases q:b=D
 .subst q;rw[av zi,av zi]
 .rw[aM q]
def FJ:vn B (nc B D):=⟨λb e=>by show(B.hd b||b==D)=true;rw[e,sY],λ_ _ e=>e⟩
def Ca:eW (bK (nc B D) H) (bK B H):=xM FJ
def fA(Y:bS):Prop:=∀(i:Nat) (ts:List Tr),Y[i]? ≠some (.ow ts)
def pR(T:xR):Prop:=∀t Y L,fA Y->T t Y=.ok L->fA L
theorem fA.set (h:fA Y)(i:Nat)(t:Tr):fA (Y.set i (.sh t)):=λj ts e=>by
 rcases fx e with⟨_,_,q⟩|⟨_,q⟩
 .cases q
 .exact h j ts q
def cz(i:Nat):pR (gN i):=λt Y L h e=>by cases e;exact h.set i t
theorem FK:∀{is:List Nat} {ts:List Tr} {Y b:bS},fA Y->IT is ts Y=.ok b->fA b
 |[],[],_,_,h,e=>by cases e;exact h
 |[],_::_,_,_,_,e=>by cases e
 |_::_,[],_,_,_,e=>by cases e
 |i::is,t::ts,_,_,h,e=>FK (is:=is) (ts:=ts) (h.set i t) e
def IX(is:List Nat):pR (gT is):=λt Y L h e=>by
 cases t with
 |tup ts=>exact FK h e
 |_=>cases e
def v9(ix:List (Option Nat))(Y:bS):fA (t9 ix Y):=λi ts e=>by
 unfold t9 at e;rw[bW]at e;cases q:ix[i]? with
 |none=>rw[q]at e;cases e
 |some o=>
  rw[q]at e;cases o with
  |none=>cases e
  |some j=>
   have L:(match Y[j]? with|some (Cell.sh t)=>Cell.sh t|_=>Cell.no)=.ow ts:=Option.some.inj e;split at L<;>cases L
def Ef{r:Rs α}{k:α->Prop}(h:rn b (N_ r) k):∃a,r=.ok a/\k a:=by
 cases r with
 |ok a=>exact⟨a,rfl,h⟩
 |_=>exact h.elim
inductive Oa(K:Frag)(F:bS->Rs Tr)(Z:St)(H:Hp)(Q:VK):Prop
 |mk (B:eX) (Y:bS):HB B H->bU K B H Z Y->(∃t,F Y=.ok t/\∀v H',aG H H'->Rep K (bK B H') v t->Q v H')->Oa K F Z H Q
inductive Ob(K:Frag)(F:bS->Rs Bool)(Z:St)(H:Hp)(Q:Bool->Hp->Prop):Prop
 |mk (B:eX) (Y:bS):HB B H->bU K B H Z Y->(∃b,F Y=.ok b/\∀H',aG H H'->Q b H')->Ob K F Z H Q
inductive Oc(K:Frag)(T:xR)(v:V)(Z:St)(H:Hp)(Q:St->Hp->Prop):Prop
 |mk (B:eX) (Y:bS) (t:Tr):HB B H->bU K B H Z Y->Rep K (bK B H) v t->(∃fk,T t Y=.ok fk/\∀cU H',aG H H'->bU K B H' cU fk->Q cU H')->Oc K T v Z H Q
def P8{X:Cx}:Oa X.K F Z H Q->tP X F Z H Q:=λ⟨B,Y,hb,r,t,e,q⟩=>⟨B,Y,hb,r,by rwa[e]⟩
def P9{X:Cx}:Ob X.K F Z H Q->tQ X F Z H Q:=λ⟨B,Y,hb,r,t,e,q⟩=>⟨B,Y,hb,r,by rwa[e]⟩
def P_{X:Cx}:Oc X.K T v Z H Q->tG X T v Z H Q:=λ⟨B,Y,t,hb,r,rt,fk,e,q⟩=>⟨B,Y,t,hb,r,rt,by rwa[e]⟩
theorem v_{Q:Hp->Prop}(hT:pR T)(h0:fA P')(hb:HB B H)(gt:oC K B J H ts)(hz:ts.length<=dy)(r:bU K (nc B D) (upd H D (.lst [])) Xh P')(S:H D=none)
   (q:rn xc (HR T A F ts P') k) (hQ:∀ys H',k ys->aG H H'->Rep K (bK B H') (.ref D) (.lst ys)->Q H'):Xg J D Xh (upd H D (.lst [])) (Oc K T) (Ob K A) (Oa K F) Q:=by
 refine⟨λi m Z H'=>m=ts.length - i/\i<=ts.length/\aG H H'/\HB (nc B D) H'/\eW (bK B H) (bK (nc B D) H')/\∃Y vs us,fA Y/\bU K (nc B D) H' Z Y/\H' D=some (.lst vs)/\vs.length<=i/\bb K (bK (nc B D) H') vs us/\rn xc (HR T A F (ts.drop i) Y) (λys=>k (us++ys)),
  ⟨_,rfl,gH _,aG.upd S,FI hb S,kI S,P',[],[],h0,r,bp,aK _,.nil,q⟩,?_⟩
 rintro i m Z H' ⟨rfl,hi,sm,L,jv,Y,vs,us,no,rs,hd,hl,rv,q'⟩
 by_cases hV:i<ts.length
 .rw[qB hV]at q';refine .inr ⟨gt.go i _ H' hV jv L,λv7 H2=>aG H H2/\HB (nc B D) H2/\eW (bK B H) (bK (nc B D) H2)/\∃Y vs us,fA Y/\bU K (nc B D) H2 v7 Y/\H2 D=some (.lst vs)/\vs.length<=i+1/\bb K (bK (nc B D) H2) vs us/\rn xc (HR T A F (ts.drop (i+1)) Y) (λys=>k (us++ys)),
   λv7 H2 h=>⟨ts.length - (i+1),∎,rfl,hV,h⟩,λx H2 hx=>?_⟩
  obtain⟨s2,t,et,rt⟩:=gt.GO i _ H' x H2 hV jv L hx;have P6:ts[i]=t:=by rw[cj hV]at et;exact Option.some.inj et
  rw[P6]at q';obtain⟨M,eT,q1⟩:=Ef (rn.bind q');have Xo:=hT t Y M no eT;refine⟨_,Y,t,L.same s2,rs.same s2,rt,M,eT,λLq H3 s3 r3=>?_⟩;have Zg:=s2.trans s3;obtain⟨c,eA,qc⟩:=Ef (rn.bind q1);refine⟨_,M,L.same Zg,r3,c,eA,λH4 s4=>?_⟩;have I:=Zg.trans s4;have g4:aG H H4:=sm.trans I;cases c with
  |false=>
   exact PM ⟨g4,L.same I,jv.trans (bj I),M,vs,us,Xo,r3.same s4,I _ _ hd,∎,rv.same (bj I),qc⟩
  |true=>
   obtain⟨y,eF,qy⟩:=Ef (rn.bind qc);refine PN ⟨_,M,L.same I,r3.same s4,y,eF,λv H5 s5 r5=>?_⟩;have T6:=I.trans s5;refine⟨vs,T6 _ _ hd,by rw[<-iR];omega,(sm.trans T6).BS S,?_,?_,M,vs++[v],us++[y],Xo,?_,bp,by rw[di];exact Nat.add_le_add_right hl 1,?_,?_⟩
   .intro b e;by_cases q:b=D
    .subst q;exact⟨_,bp⟩
    .rw[aM q];exact(L.same T6) b e
   .rw[t_];exact jv.trans (bj T6)
   .have Xp:=(r3.same s4).same s5;refine⟨Xp.len,λi t e=>?_,λi ts e=>(Xo i ts e).elim,Xp.ap⟩;rw[t_];exact Xp.sh i t e
   .rw[t_];exact(rv.same (bj T6)).append (.cons r5 .nil)
   .exact(rn.bind qy).mono λys q=>by rwa[wX]
 .have e:i=ts.length:=∎
  subst e;rw[pw]at q';refine .inl ⟨gt.stop _ H' jv,hQ us H' (by have:=(show k (us++[])from q');rw[j6]at this;exact this) sm (.lst ?_ (rv.same Ca))⟩;rwa[gS (hb.free S)]
def lO:QF X [] (λ_=>.ok true):=⟨λU s Z H Q I ⟨B,Y,hb,r,q⟩=>PQ U s Z H Q I (q H (aG.refl H))⟩
def pS(h:QT X c A):QF X [c] A:=⟨PR h.h⟩
def Cb{W:bS->Rs (List Tr)}(M:pR T)(q:tP X (λY=>zh ix T A F (W Y) Y) Z H Q):Sr (tI X W) ix (Oc X.K T) (Ob X.K A) (Oa X.K F) Z H Q:=by
 obtain⟨B,Y,hb,r,q⟩:=q;refine⟨B,Y,hb,r,q.bind.mono λts L J H1 s1 gt D I=>?_⟩;by_cases b:ts.length<=dy
 .rw[av b]at L;exact v_ M (v9 ix Y) (hb.same s1) gt b ((r.same s1).comp ix (kI I)) I (Fi.bind L) λys H' k S rp=>k _ H' (s1.trans S) rp
 .rw[aA b]at L;exact L.elim
structure Xq(X:Cx)(scope:Scope)(N':List Str)(tg elt:Expr)(ifs:List Expr)(T:xR)(A:bS->Rs Bool)(F:bS->Rs Tr):Prop where
 all:∀s H ex,PG (tY X scope N' s H ex) tg (tG (tY X scope N' s H ex) T)/\PF (tY X scope N' s H ex) ifs (tQ (tY X scope N' s H ex) A)/\PE (tY X scope N' s H ex) elt (tP (tY X scope N' s H ex) F)
def B7.to (b:B7 X scope N' tg elt ifs T A F):Xq X scope N' tg elt ifs T A F:=
 ⟨λs H ex=>⟨(b.all s H ex).1.h,(b.all s H ex).2.1.h,(b.all s H ex).2.2.h⟩⟩
def Xq.Su (h:Xq X scope N' tg elt ifs T A F):∀s H ex,PG (tY X scope N' s H ex) tg (Oc X.K T)/\PF (tY X scope N' s H ex) ifs (Ob X.K A)/\PE (tY X scope N' s H ex) elt (Oa X.K F):=λs H ex=>by
 obtain⟨h1,h2,h3⟩:=h.all s H ex;exact⟨λU s Z H v u Q I r q=>h1 U s Z H v u Q I r (P_ q),λU s Z H Q I q=>h2 U s Z H Q I (P9 q),λU s Z H Q I q=>h3 U s Z H Q I (P8 q)⟩
def uP(b:fy X N' ix scope)(hi:QI X tg c5 W)(r:B7 X scope N' tg elt ifs T A F)(I:pR T)(M:autoParam (X.calm=true) Rfz) (hs:autoParam (isSet c5=false) Rfz):QE X (.ListComp elt [⟨tg,c5,ifs,0⟩] scope pos) (λY=>zh ix T A F (W Y) Y):=⟨(IJ b M hi.h r.to.Su (fZ hs)).weak λZ H Q q=>Cb I q⟩
def ua{i:Nat}(b:fy X N' ix scope)(hit:QI X tg c5 W)(I:B7 X scope N' tg elt ifs T A F)(M:pR T)(hN:autoParam X.N.Nodup Asz) (S:autoParam (X.calm=true) Rfz) (hi:autoParam (X.N[i]?=some x) Rfz) (hx:autoParam (Loc X.env.scope x) Olz) (PU:autoParam (swapsWith (.ListComp elt [⟨tg,c5,ifs,0⟩] scope pos) (some (.Name x px)) b9.line X.env=pure true) Rfz) (hs:autoParam (isSet c5=false) Rfz) (hf:autoParam (DH X x) Ilz):QS X (.Assign [.Name x px] (.ListComp elt [⟨tg,c5,ifs,0⟩] scope pos) b9) (λY=>LZ i (zh ix T A F (W Y) Y) Y):=⟨(xK b S hN hi hx hit.h I.to.Su PU (fZ hs) hf).weak λD Z H ⟨C,B0,H0,B,Y,L,r,q⟩=>Cb M (B6 (F:=λY=>zh ix T A F (W Y) Y) L r q.bind λt v H1 qt s1 yR r1 rv=>qt _ B H1 yR (r1.set i rv))⟩
def dh(r:Rs Out):Rs Tr:=r.bind λo=>match o with
 |.nx _=>.ok .bM
 |.ret t=>.ok t
 |_=>.bad
def yH.okT {fd:FuncData}{h:List Tr->Rs Tr}(Fn:yH K x qual st f fd)(S:gJ N ps (aL st))(len:∀ts t,h ts=.ok t->ts.length=ps.length)
  (kG:∀(b:Value) (A:Around) (outer:List Env) (s:Shared) (H:Hp) (E:XK),cQ k (A.deeper (envOfC qual (aL st) `a f b))->
   ∃G,yF (oX rj P w K mg base N qual (aL st) f b A outer s H E).HQ (fG st) (tS (oX rj P w K mg base N qual (aL st) f b A outer s H E).HQ G)/\∀ts t,h ts=.ok t->dh (G (startT N.length ts))=.ok t):fK P w K mg base rj (k+1) f fd ps (spT K h):=by
 refine Fn.ok S (λvs H Q E q=>?_) (λb A outer s H vs Q E hr q=>?_)
 .obtain⟨B,ts,hb,r,t,e,_⟩:=q;rw[r.length];exact len ts t e
 .obtain⟨B,ts,hb,r,t,e,q⟩:=q;obtain⟨G,hG,hE⟩:=kG b A outer s H E hr;refine⟨_,hG,B,B,H,B,startT N.length ts,d8.refl hb vn.refl,bU.start r,?_⟩;have L:=hE ts t e;cases M:G (startT N.length ts)with
  |ok o=>
   rw[M]at L;cases o with
   |nx Y=>cases L;exact λcU B' H' I r'=>q .bM H' I.same .bM
   |ret u=>cases L;exact λv B' H' I r'=>q v H' I.same r'
   |_=>cases L
  |_=>rw[M]at L;cases L
theorem L7:sE X (binaryOp .Add) (λx y H Q=>∃(a b:Addr) (xs ys:List V),x=.ref a/\y=.ref b/\mj X.K H a xs/\mj X.K H b ys/\xs.length+ys.length<=sizeLine/\(xs=[]->Q (.ref b) H)/\(ys=[]->Q (.ref a) H)/\∀p,H p=none->Q (.ref p) (upd H p (.tup (xs++ys)))):=by
 intro U s Z H x y v u Q I L q h;obtain⟨a,b,xs,ys,rfl,rfl,ha,hb,M,S,q2,q3⟩:=h;by_cases r:xs=[]
 .subst r;cases(show v=Value.ref a from L);cases(show u=Value.ref b from q);obtain⟨i1,r1,p1,_⟩:=I.tuple ha;obtain⟨i2,r2,p2,_⟩:=I.tuple hb;cases r1;obtain⟨dd,n,sl,h1⟩:=zb p1;obtain⟨Sf,n2,VQ,h2⟩:=zb p2;exact concat_meets ⟨_,h1,rfl⟩ ⟨_,h2,rfl⟩ noFill_tuple_add seq_tuple_add PySem.F.slot_tuple_add PySem.F.entry_tuple_add (PySem.F.args_tuple_add_2 _ _) (tuple_addW0 a b _ _ n n2 dd Sf sl VQ rfl) ⟨h1,h2,⟨.ref b,H,I,rfl,S rfl⟩⟩
 .exact LD U s Z H _ _ v u Q I L q ⟨a,b,xs,ys,rfl,rfl,ha,hb,r,M,q2,λ_ p hp=>q3 p hp⟩
def Rep.up (r:Rep K (bK B H) v t):Rep K (raw B H) v t:=r.same fj
def mj.up (h:mj K (bK B H) a xs):mj K H a xs:=aG.tup bz h
def dD(h:bK B H a=some o):H a=some o:=bz _ _ h
def Rep.Qb (hb:HB B H)(b:H p=none)(r:bb K (bK B H) vs ts):Rep K (bK B (upd H p (.tup vs))) (.ref p) (.tup ts):=.tup (.of (hb.new b)) (r.same (bj (aG.upd b)))
def Rep.Al (hb:HB B H)(b:H p=none)(r:bb K (bK B H) vs ts):Rep K (bK B (upd H p (.lst vs))) (.ref p) (.lst ts):=.lst (hb.new b) (r.same (bj (aG.upd b)))
def Cc(h:bb K H [] ts):ts=[]:=by cases h;rfl
def Qc{a b:Str}(h:a.length+b.length<=cH):(a++b).length<=cH:=by rwa[o9]
def rX:Tr->Tr->Rs Tr
 |.int i,.int j=>.ok (.int (i+j))
 |.str a,.str b=>if a.length+b.length<=cH then .ok (.str (a++b))else .bad
 |.tup a,.tup b=>if a.length+b.length<=dy then .ok (.tup (a++b))else .bad
 |.lst a,.lst b=>if a.length+b.length<=dy then .ok (.lst (a++b))else .bad
 |_,_=>.bad
def ik{c:Prop}[Decidable c]{t:α}{k:α->Prop}(h:Fi X H (if c then Rs.ok t else .bad) k):c/\k t:=by
 by_cases L:c
 .rw[av L]at h;exact⟨L,h⟩
 .rw[aA L]at h;exact h.elim
def fH:Bs X (binaryOp .Add) rX:=by
 intro U s Z H x y v u Q I S ry ⟨B,tx,ty,hb,r1,r2,q⟩;unfold rX at q;split at q
 .exact O8 U s Z H _ _ v u Q I S ry ⟨_,_,r1.int_inv,r2.int_inv,q _ H (aG.refl H) (.int _)⟩
 .have f:=ik q;exact DV U s Z H _ _ v u Q I S ry ⟨_,_,r1.str_inv.1,r2.str_inv.1,aV f.1 lK,f.2 _ H (aG.refl H) (.str _ (Qc f.1))⟩
 .have f:=ik q;obtain⟨a,as,e1,h1,L⟩:=r1.dY;obtain⟨b,bs,e2,h2,r⟩:=r2.dY;exact L7 U s Z H _ _ v u Q I S ry ⟨_,_,_,_,e1,e2,h1.up,h2.up,by rw[L.length,r.length,<-iR];exact f.1,λe=>f.2 _ H (aG.refl H) (by subst e;rwa[Cc L,<-e2]),λe=>f.2 _ H (aG.refl H) (by subst e;rwa[Cc r,j6,<-e1]),λp M=>f.2 _ _ (aG.upd M) (.Qb hb M (L.append r))⟩
 .have f:=ik q;obtain⟨a,as,e1,h1,L⟩:=r1.lst_inv;obtain⟨b,bs,e2,h2,r⟩:=r2.lst_inv;exact Pt U s Z H _ _ v u Q I S ry ⟨_,_,_,_,e1,e2,dD h1,dD h2,by rw[L.length,r.length,<-iR];exact f.1,λp M=>f.2 _ _ (aG.upd M) (.Al hb M (L.append r))⟩
 .exact fe q
def G7:Tr->Tr->Rs Tr
 |.int i,.int j=>.ok (.int (i - j))
 |_,_=>.bad
def FL:Bs X (binaryOp .Sub) G7:=by
 intro U s Z H x y v u Q I L b ⟨B,tx,ty,hb,r1,r2,q⟩;unfold G7 at q;split at q
 .exact O9 U s Z H _ _ v u Q I L b ⟨_,_,r1.int_inv,r2.int_inv,q _ H (aG.refl H) (.int _)⟩
 .exact fe q
noncomputable def Cd:Tr->Tr->Rs Tr
 |.int i,.int j=>if 0<j then .ok (.int (i % j))else .bad
 |_,_=>.bad
def zj:Bs X (binaryOp .Mod) Cd:=by
 intro U s Z H x y v u Q I L b ⟨B,tx,ty,hb,r1,r2,q⟩;unfold Cd at q;split at q
 .have f:=ik q;exact Pa U s Z H _ _ v u Q I L b ⟨_,_,r1.int_inv,r2.int_inv,f.1,f.2 _ H (aG.refl H) (.int _)⟩
 .exact fe q
def xT(i j:Int):Prop:=(-18446744073709551616<i/\i<18446744073709551616)\/(-18446744073709551616<j/\j<18446744073709551616)
def xT.cm (h:xT i j):Ii i j:=by
 unfold xT at h;unfold Ii;omega
instance (i j:Int):Decidable (xT i j):=by unfold xT;infer_instance
def Eg:Tr->Tr->Rs Tr
 |.int i,.int j=>if xT i j then .ok (.int (i*j))else .bad
 |.str z,.int n=>if 0<=n/\n<=1000/\z.length<=1000 then .ok (.str (Txt.mul z n))else .bad
 |.lst ts,.int n=>if 0<=n/\n<=1000/\ts.length*n.toNat<=dy then .ok (.lst (List.replicate n.toNat ts).flatten)else .bad
 |_,_=>.bad
def L9:sE X (binaryOp .Mult) (λx y H Q=>∃(l:Addr) (k:Int) (xs:List V),x=.ref l/\y=.int k/\H l=some (.lst xs)/\-(2 ^63)<=k/\k<2 ^63/\xs.length*k.toNat<=sizeLine/\∀p,H p=none->Q (.ref p) (upd H p (.lst (List.replicate k.toNat xs).flatten))):=Pu
def L_{z:Str}{n:Int}(h0:0<=n)(h1:n<=1000)(b:z.length<=1000):(Txt.mul z n).length<=cH:=by
 have e:=PyProof.Rows.len_mul z n;split at e
 .have:((Txt.mul z n).length:Int)=0:=e;unfold cH;omega
 .have h2:(z.length:Int)*n<=1000*1000:=Int.mul_le_mul ∎ h1 h0 ∅;have L:((Txt.mul z n).length:Int)=(z.length:Int)*n:=e;unfold cH;omega
def FN:Bs X (binaryOp .Mult) Eg:=by
 intro U s Z H x y v u Q I L b ⟨B,tx,ty,hb,r1,r2,q⟩;unfold Eg at q;split at q
 .have f:=ik q;exact O_ U s Z H _ _ v u Q I L b ⟨_,_,r1.int_inv,r2.int_inv,f.1.cm,f.2 _ H (aG.refl H) (.int _)⟩
 .have f:=ik q;exact LR U s Z H _ _ v u Q I L b ⟨_,_,r1.str_inv.1,r2.int_inv,PyProof.Rows.mulOk_of 1000 1000 f.1.2.2 f.1.2.1 (Int.le_trans ∅ f.1.1) ∅ ∅,f.2 _ H (aG.refl H) (.str _ (L_ f.1.1 f.1.2.1 f.1.2.2))⟩
 .have f:=ik q;obtain⟨a,as,S,h1,r⟩:=r1.lst_inv;exact L9 U s Z H _ _ v u Q I L b ⟨_,_,_,S,r2.int_inv,dD h1,Int.le_trans ∅ f.1.1,Int.lt_of_le_of_lt f.1.2.1 ∅,by rw[r.length,<-iR];exact f.1.2.2,λp M=>f.2 _ _ (aG.upd M) (.Al hb M (r.rep _))⟩
 .exact fe q
mutual
noncomputable def eqT:Tr->Tr->Bool
 |.bM,.bM=>true
 |.bl a,.bl b=>a==b
 |.bl a,.int b=>(if a then 1 else 0)==b
 |.int a,.bl b=>a==(if b then 1 else 0)
 |.int a,.int b=>a==b
 |.str a,.str b=>a==b
 |.tup a,.tup b=>xU a b
 |.lst a,.lst b=>xU a b
 |_,_=>false
noncomputable def xU:List Tr->List Tr->Bool
 |[],[]=>true
 |x::xs,y::ys=>eqT x y&&xU xs ys
 |_,_=>false
end
mutual
noncomputable def pT:Tr->Bool
 |.bM=>true
 |.bl _=>true
 |.int _=>true
 |.str _=>true
 |.tup ts=>ub ts
 |.lst ts=>ub ts
 |_=>false
noncomputable def ub:List Tr->Bool
 |[]=>true
 |t::ts=>pT t&&ub ts
end
mutual
noncomputable def dT:Tr->Nat
 |.tup ts=>La ts+1
 |.lst ts=>La ts+1
 |_=>0
noncomputable def La:List Tr->Nat
 |[]=>0
 |t::ts=>max (dT t) (La ts)
end
theorem pU:∀{ts:List Tr},ub ts=true->∀t∈ts,pT t=true
 |[],_,t,h=>nomatch h
 |u::us,h,t,m=>by
  rw[ub,bg]at h;rcases aZ.mp m with rfl|m
  .exact h.1
  .exact pU h.2 t m
theorem Am:∀{ts:List Tr},∀t∈ts,dT t<=La ts
 |[],t,h=>nomatch h
 |u::us,t,m=>by
  rw[La];rcases aZ.mp m with rfl|m
  .exact Nat.le_max_left _ _
  .exact aV (Am t m) (Nat.le_max_right _ _)
theorem Ce:∀(xs ys:List Tr),((List.range (min xs.length ys.length)).all (λj=>eqT (xs.getD j .bM) (ys.getD j .bM))&&xs.length==ys.length)=xU xs ys
 |[],[]=>rfl
 |[],y::ys=>rfl
 |x::xs,[]=>rfl
 |x::xs,y::ys=>by
  have L:=Ce xs ys;rw[xU,<-L,cY,cY,Nat.succ_min_succ,List.range_succ_eq_map,jd,List.all_map,Bool.and_assoc];congr 1;have b:(xs.length+1==ys.length+1)=(xs.length==ys.length):=by rw[kC,fF,fF];omega
  rw[b]
  rfl
def L'{v u:Value}{k:Bool}(q:∀b t,v≠Value.float b t)(hs:v=u->k=true)(h:SeqAt.RcAt A s v u k):SeqAt.EqAt A s v u k:=λprog w E Q L=>by
 unfold eqBool;refine h8 ?_
 refine wpAny_ite_split (λr=>?_) (λ_=>?_)
 .rw[hs (eq_of_beq r)]at L;exact aH (wpAny_rule (aR L))
 .cases v with
  |float b t=>exact absurd rfl (q b t)
  |_=>exact aH (h prog w E _ (kz L))
theorem vp(I:Inv X U Z H s)(h1:mj X.K H a vs)(h2:H a=some (.lst ws)):False:=by
 obtain⟨_,_,⟨o,e,c,_⟩,_⟩:=I.tuple h1;obtain⟨_,bJ,n,_,L⟩:=I.cy a _ h2;rw[e]at L;cases L;exact absurd c (by show¬(Value.type "list"=.type "tuple");decide)
noncomputable def vT:V->Tr
 |.bM=>.bM
 |.bl b=>.bl b
 |.int i=>.int i
 |.str z=>.str z
 |_=>.at 0
def pV(r:Rep K W x t)(p:pT t=true):(∃ts,t=.tup ts)\/(∃ts,t=.lst ts)\/t=vT x:=by
 cases r<;>first|(cases p;done)|exact .inr (.inr rfl)|exact .inl ⟨_,rfl⟩|exact .inr (.inl ⟨_,rfl⟩)
def uc{t:Tr}(e:t=vT x)(p:pT t=true)(q:pT t'=true)(b:Rep K W x t'):t=t':=by
 rcases pV b q with⟨ts,rfl⟩|⟨ts,rfl⟩|L
 .obtain⟨a,_,rfl,_⟩:=b.dY;rw[e]at p;cases p
 .obtain⟨a,_,rfl,_⟩:=b.lst_inv;rw[e]at p;cases p
 .rw[e,L]
theorem Mb(I:Inv X U Z H s):∀(n:Nat) {x:V} {t t':Tr},dT t<=n->pT t=true->pT t'=true->Rep X.K (⟨H,tq⟩:Vw) x t->Rep X.K (⟨H,tq⟩:Vw) x t'->t=t':=by
 intro n
 induction n with
 |zero=>
  intro x t t' hd p L r b;rcases pV r p with⟨ts,rfl⟩|⟨ts,rfl⟩|e
  .exact absurd hd (Nat.not_succ_le_zero _)
  .exact absurd hd (Nat.not_succ_le_zero _)
  .exact uc e p L b
 |succ n ih=>
  intro x t t' hd p L r b;have go:∀{vs:List V} {ts zk:List Tr},La ts<=n->ub ts=true->ub zk=true->bb X.K (⟨H,tq⟩:Vw) vs ts->bb X.K (⟨H,tq⟩:Vw) vs zk->ts=zk:=by
   intro vs ts zk k1 k2 k3;have h1:=λt m=>aV (Am (ts:=ts) t m) k1;have h2:=pU k2;have h3:=pU k3
   clear hd p L r b k1 k2 k3
   induction vs generalizing ts zk with
   |nil=>intro q q';cases q;cases q';rfl
   |cons v vs S=>
    intro(.cons qh qr) (.cons qh' qr');rw[List.forall_mem_cons]at h1 h2 h3;rw[ih h1.1 h2.1 h3.1 qh qh',S h1.2 h2.2 h3.2 qr qr']
  rcases pV r p with⟨ts,rfl⟩|⟨ts,rfl⟩|e
  .rcases pV b L with⟨zk,rfl⟩|⟨zk,rfl⟩|e
   .obtain⟨a,vs,rfl,h,rr⟩:=r.dY;obtain⟨_,Mc,e,h',M⟩:=b.dY;cases e;cases I.y2 h h';rw[go (Nat.le_of_succ_le_succ hd) p L rr M]
   .obtain⟨a,vs,rfl,h,rr⟩:=r.dY;obtain⟨_,Mc,e,h',M⟩:=b.lst_inv;cases e;exact(vp I h h').elim
   .exact(uc e L p r).symm
  .rcases pV b L with⟨zk,rfl⟩|⟨zk,rfl⟩|e
   .obtain⟨a,vs,rfl,h,rr⟩:=r.lst_inv;obtain⟨_,Mc,e,h',M⟩:=b.dY;cases e;exact(vp I h' h).elim
   .obtain⟨a,vs,rfl,h,rr⟩:=r.lst_inv;obtain⟨_,Mc,e,h',M⟩:=b.lst_inv;cases e;cases h.symm.trans h';rw[go (Nat.le_of_succ_le_succ hd) p L rr M]
   .exact(uc e L p r).symm
  .exact uc e p L b
mutual
theorem Cf:∀{t:Tr},pT t=true->eqT t t=true
 |.bM,_=>rfl
 |.bl b,_=>by rw[eqT];exact bD b
 |.int i,_=>by rw[eqT];exact bD i
 |.str z,_=>by rw[eqT];exact bD z
 |.tup ts,h=>by rw[eqT];rw[pT]at h;exact uQ h
 |.lst ts,h=>by rw[eqT];rw[pT]at h;exact uQ h
 |.ty _,h=>by cases h
 |.uI _,h=>by cases h
 |.bh _,h=>by cases h
 |.at _,h=>by cases h
 |.vm _,h=>by cases h
 |.ob _ _,h=>by cases h
 |.zc _,h=>by cases h
theorem uQ:∀{ts:List Tr},ub ts=true->xU ts ts=true
 |[],_=>rfl
 |t::ts,h=>by
  rw[ub,bg]at h;rw[xU,Cf h.1,uQ h.2]
  rfl
end
def FO{l:List α}{x d:α}(h:l[aa]?=some x):l.getD aa d=x:=by rw[qA,h];rfl
inductive Sh(K:Frag)(G:Vw)(h:Heap):Tr->Value->Prop
 |bM:Sh K G h .bM .none
 |bl (b:Bool):Sh K G h (.bl b) (.bool b)
 |int (b:Int) (w:Tok):Sh K G h (.int b) (.int b w)
 |str (b:Str) (w:Tok):Sh K G h (.str b) (.str b w)
 |tup {a:Addr} {vs:List V} {ts:List Tr} {us:List Value} (q:h.IsTuple a us.toArray) (rr:bb K G vs ts) (rv:Vals vs us):Sh K G h (.tup ts) (.ref a)
 |lst {a:Addr} {vs:List V} {ts:List Tr} {us:List Value} (q:h.IsList a us.toArray) (rr:bb K G vs ts) (rv:Vals vs us):Sh K G h (.lst ts) (.ref a)
theorem An(I:Inv X U Z H s)(p:pT t=true)(r:Rep X.K (⟨H,tq⟩:Vw) x t)(M:RelV x v):Sh X.K ⟨H,tq⟩ s.heap t v:=by
 cases r with
 |bM=>cases(show v=Value.none from M);exact .bM
 |bl b=>cases(show v=Value.bool b from M);exact .bl b
 |int b=>obtain⟨w,rfl⟩:=(show∃t,v=Value.int b t from M);exact .int b w
 |str b _=>obtain⟨w,rfl⟩:=(show∃t,v=Value.str b t from M);exact .str b w
 |@tup a _ _ h L=>cases(show v=Value.ref a from M);obtain⟨_,rv,q,_⟩:=I.tuple h;exact .tup q L rv
 |@lst a _ _ h L=>cases(show v=Value.ref a from M);obtain⟨_,rv,q,_⟩:=I.list (.of h);exact .lst q.isList L rv
 |_=>cases p
def FP(I:Inv X U Z H s)(n:Nat)(hd:dT t<=n)(p:pT t=true)(S:pT t'=true)(r:Rep X.K (⟨H,tq⟩:Vw) x t)(r':Rep X.K (⟨H,tq⟩:Vw) y t')(M:RelV x v)(ry:RelV y u)(q:SeqAt.RcAt A s v u (eqT t t')):SeqAt.EqAt A s v u (eqT t t'):=by
 refine L' (λb t e=>?_) (λe=>?_) q
 .subst e;cases r<;>first|(obtain⟨_,z⟩:=M;cases z;done)|(cases M;done)
 subst e;rw[M.inj ry]at r;rw[<-Mb I n hd p S r r'];exact Cf p
def FQ{s:Shared}{A:Around}(S:Sh K G s.heap t v)(r:Sh K G s.heap t' u)(b:A.units<cLine):(SeqAt.RcAt A s v u (eqT t t')/\SeqAt.RcNeAt A s v u (!eqT t t'))\/∃ts q,(t=.tup ts/\t'=.tup q)\/(t=.lst ts/\t'=.lst q):=by
 cases S<;>cases r<;>first|exact .inr ⟨_,_,.inl ⟨rfl,rfl⟩⟩|exact .inr ⟨_,_,.inr ⟨rfl,rfl⟩⟩|(refine .inl ⟨?_,?_⟩<;>simp only[eqT,fi,dG]<;>with_reducible first|exact .none_none|exact .none_bool _|exact .none_int _ _|exact .none_str _ _|exact .none_tuple ‹_› b|exact .none_list ‹_› b|exact .bool_none _|exact .bool_bool _ _|exact .bool_int _ _ _|exact .bool_str _ _ _|exact .bool_tuple _ ‹_› b|exact .bool_list _ ‹_› b|exact .int_none _ _|exact .int_bool _ _ _|exact .int_int _ _ _ _|exact .int_str _ _ _ _|exact .int_tuple _ _ ‹_› b|exact .int_list _ _ ‹_› b|exact .str_none _ _|exact .str_bool _ _ _|exact .str_int _ _ _ _|exact .str_str _ _ _ _|exact .str_tuple _ _ ‹_› b|exact .str_list _ _ ‹_› b|exact .tuple_none ‹_› b|exact .tuple_bool _ ‹_› b|exact .tuple_int _ _ ‹_› b|exact .tuple_str _ _ ‹_› b|exact .tuple_list ‹_› ‹_› b|exact .list_none ‹_› b|exact .list_bool _ ‹_› b|exact .list_int _ _ ‹_› b|exact .list_str _ _ ‹_› b|exact .list_tuple ‹_› ‹_› b)
theorem Qd(I:Inv X U Z H s):∀(n:Nat) {A:Around} {x y:V} {v u:Value} {t t':Tr},dT t<=n->pT t=true->pT t'=true->Rep X.K (⟨H,tq⟩:Vw) x t->Rep X.K (⟨H,tq⟩:Vw) y t'->RelV x v->RelV y u->A.units+n<cLine->SeqAt.RcAt A s v u (eqT t t')/\SeqAt.RcNeAt A s v u (!eqT t t'):=by
 intro n
 induction n with
 |zero=>
  intro A x y v u t t' hd p p' r r' rx ry hu;rcases FQ (An I p r rx) (An I p' r' ry) (A:=A) ∎with h|⟨_,_,⟨rfl,_⟩|⟨rfl,_⟩⟩
  .exact h
  all_goals exact absurd hd (by rw[dT];omega)
 |succ n ih=>
  intro A x y v u t t' hd p p' r r' rx ry hu;have hv:A.units<cLine:=∎
  have a9:∀{vs Mc:List V} {us Cg:List Value} {ts zk:List Tr},La ts<=n->ub ts=true->ub zk=true->bb X.K (⟨H,tq⟩:Vw) vs ts->bb X.K (⟨H,tq⟩:Vw) Mc zk->Vals vs us->Vals Mc Cg->∀(j:Nat) (h1:j<us.toArray.size) (h2:j<Cg.toArray.size),
    SeqAt.EqAt A.in1 s us.toArray[j] Cg.toArray[j] (eqT (ts.getD j .bM) (zk.getD j .bM)):=by
   intro vs Mc us Cg ts zk d1 q1 q2 b M rv L j h1 h2;replace h1:j<us.length:=h1;replace h2:j<Cg.length:=h2;have k1:=cj (Nat.lt_of_lt_of_eq h1 rv.length.symm);have k2:=cj (Nat.lt_of_lt_of_eq h2 L.length.symm);obtain⟨t1,e1,p1⟩:=b.BV k1;obtain⟨t2,e2,p2⟩:=M.BV k2;obtain⟨w1,f1,g1⟩:=rv.get k1;obtain⟨w2,f2,g2⟩:=L.get k2;rw[cj h1]at f1;rw[cj h2]at f2;rw[List.getElem_toArray,List.getElem_toArray,Option.some.inj f1,Option.some.inj f2,FO e1,FO e2];have m1:=eK e1;have q2:=pU q2 _ (eK e2);have q1:=pU q1 _ m1;have d:=aV (Am _ m1) d1;exact FP I n d q1 q2 p1 p2 g1 g2 (ih d q1 q2 p1 p2 g1 g2 (by show A.units+1+n<cLine;omega)).1
  have S:=An I p r rx;have S':=An I p' r' ry;rcases FQ S S' hv with h|⟨ts,zk,⟨rfl,rfl⟩|⟨rfl,rfl⟩⟩
  .exact h
  all_goals
   rw[dT]at hd;have it:=λ{vs Mc us Cg}=>@a9 vs Mc us Cg _ _ (Nat.le_of_add_le_add_right hd) p p';have e:=Ce ts zk;rw[eqT]
  .cases S with|tup q b rv=>
   cases S' with|tup q' M L=>
   rw[<-e,<-b.length,<-M.length,rv.length,L.length];exact⟨.tuples q q' hv (it b M rv L),.tuples q q' hv (it b M rv L)⟩
  cases S with|lst q b rv=>
  cases S' with|lst q' M L=>
  have l:=b.length;have l':=M.length;rw[rv.length]at l;rw[L.length]at l';by_cases hz:ts.length=zk.length
  .rw[hz,Nat.min_self,bD,pF,<-hz,<-l]at e;rw[<-e];exact⟨.lists q q' (by simp;omega) hv (it b M rv L),.lists q q' (by simp;omega) hv (it b M rv L)⟩
  .rw[j8 hz,sV]at e;rw[<-e];exact⟨.lists_lengths q q' (by simp;omega) hv,.lists_lengths q q' (by simp;omega) hv⟩
def Qe(a b:Tr):Rs Tr:=if pT a=true/\pT b=true/\dT a<=40 then .ok (.bl (eqT a b))else .bad
def cG{X:Cx}(b:X.A.units+40<cLine):Bs X (compareOp .Eq) Qe:=by
 intro U s Z H x y v u Q I L r ⟨B,tx,ty,hb,r1,r2,q⟩;obtain⟨⟨p1,M,hd⟩,k⟩:=ik q;exact(Qd I 40 hd p1 M r1.up r2.up L r b).1 _ _ _ _ ⟨.bl _,H,I,rfl,k _ H (aG.refl H) (.bl _)⟩
def IZ(I:Inv X U Z H s)(n:Nat){A:Around}(hd:dT t<=n)(p:pT t=true)(b:pT t'=true)(r:Rep X.K (⟨H,tq⟩:Vw) x t)(q:Rep X.K (⟨H,tq⟩:Vw) y t')(M:RelV x v)(S:RelV y u)(hu:A.units+n<cLine):SeqAt.EqAt A s v u (eqT t t'):=
 FP I n hd p b r q M S (Qd I n hd p b r q M S hu).1
def HP(a b:Tr):Rs Tr:=if pT a=true/\pT b=true/\dT a<=40 then .ok (.bl (!eqT a b))else .bad
def Ei{X:Cx}(b:X.A.units+40<cLine):Bs X (compareOp .NotEq) HP:=by
 intro U s Z H x y v u Q I L r ⟨B,tx,ty,hb,r1,r2,q⟩;obtain⟨⟨p1,M,hd⟩,k⟩:=ik q;exact(Qd I 40 hd p1 M r1.up r2.up L r b).2 _ _ _ _ ⟨.bl _,H,I,rfl,k _ H (aG.refl H) (.bl _)⟩
noncomputable def Xr:Tr->Tr->Rs Tr
 |.int i,.int j=>.ok (.bl (decide (i<j)))
 |.str a,.str b=>.ok (.bl (decide (a.cps.toList<b.cps.toList)))
 |_,_=>.bad
noncomputable def Xs:Tr->Tr->Rs Tr
 |.int i,.int j=>.ok (.bl (decide (i<=j)))
 |.str a,.str b=>.ok (.bl (!(decide (b.cps.toList<a.cps.toList))))
 |_,_=>.bad
def Xt:Tr->Tr->Rs Tr
 |.int i,.int j=>.ok (.bl (decide (j<i)))
 |_,_=>.bad
def Xu:Tr->Tr->Rs Tr
 |.int i,.int j=>.ok (.bl (decide (j<=i)))
 |_,_=>.bad
def T7:Bs X (compareOp .Lt) Xr:=by
 intro U s Z H x y v u Q I L b ⟨B,tx,ty,hb,r1,r2,q⟩;unfold Xr at q;split at q
 .exact Tj U s Z H _ _ v u Q I L b ⟨_,_,r1.int_inv,r2.int_inv,q _ H (aG.refl H) (.bl _)⟩
 .exact GS U s Z H _ _ v u Q I L b ⟨_,_,r1.str_inv.1,r2.str_inv.1,q _ H (aG.refl H) (.bl _)⟩
 .exact fe q
def Xv:Bs X (compareOp .LtE) Xs:=by
 intro U s Z H x y v u Q I L b ⟨B,tx,ty,hb,r1,r2,q⟩;unfold Xs at q;split at q
 .exact Tn U s Z H _ _ v u Q I L b ⟨_,_,r1.int_inv,r2.int_inv,q _ H (aG.refl H) (.bl _)⟩
 .exact G3 U s Z H _ _ v u Q I L b ⟨_,_,r1.str_inv.1,r2.str_inv.1,q _ H (aG.refl H) (.bl _)⟩
 .exact fe q
def T8:Bs X (compareOp .Gt) Xt:=by
 intro U s Z H x y v u Q I L b ⟨B,tx,ty,hb,r1,r2,q⟩;unfold Xt at q;split at q
 .exact To U s Z H _ _ v u Q I L b ⟨_,_,r1.int_inv,r2.int_inv,q _ H (aG.refl H) (.bl _)⟩
 .exact fe q
def Xw:Bs X (compareOp .GtE) Xu:=by
 intro U s Z H x y v u Q I L b ⟨B,tx,ty,hb,r1,r2,q⟩;unfold Xu at q;split at q
 .exact Tp U s Z H _ _ v u Q I L b ⟨_,_,r1.int_inv,r2.int_inv,q _ H (aG.refl H) (.bl _)⟩
 .exact fe q
noncomputable def T9:Tr->Bool
 |.bM=>true
 |_=>false
def Ap(r:Rep K H x t):decide (x=.bM)=T9 t:=by
 cases r<;>rfl
def Md:Tr->Tr->Rs Tr
 |a,.bM=>.ok (.bl (T9 a))
 |.bl a,.bl b=>.ok (.bl (a==b))
 |_,_=>.bad
def Me:Tr->Tr->Rs Tr
 |a,.bM=>.ok (.bl (!T9 a))
 |.bl a,.bl b=>.ok (.bl (a !=b))
 |_,_=>.bad
def Qg:Bs X (compareOp .Is) Md:=by
 intro U s Z H x y v u Q I L b ⟨B,tx,ty,hb,r1,r2,q⟩;unfold Md at q;split at q
 .exact Pc U s Z H _ _ v u Q I L b ⟨r2.Ah,by rw[Ap r1];exact q _ H (aG.refl H) (.bl _)⟩
 .exact PV U s Z H _ _ v u Q I L b ⟨_,_,r1.rW,r2.rW,q _ H (aG.refl H) (.bl _)⟩
 .exact fe q
def T_:Bs X (compareOp .IsNot) Me:=by
 intro U s Z H x y v u Q I L b ⟨B,tx,ty,hb,r1,r2,q⟩;unfold Me at q;split at q
 .exact Ls U s Z H _ _ v u Q I L b ⟨r2.Ah,by rw[Ap r1];exact q _ H (aG.refl H) (.bl _)⟩
 .exact G4 U s Z H _ _ v u Q I L b ⟨_,_,r1.rW,r2.rW,q _ H (aG.refl H) (.bl _)⟩
 .exact fe q
noncomputable def du(aS:List (Key×Tr))(k:Key):Option Tr:=(aS.find? λL=>decide (L.1=k)).map (·.2)
noncomputable def jw:Tr->Option Key
 |.int i=>some (.inl i)
 |.str z=>some (.inr z)
 |_=>none
def nP(r:Rep K H x t)(e:jw t=some k):x=kV k:=by
 cases r with
 |int i=>cases e;rfl
 |str z h=>cases e;rfl
 |_=>cases e
theorem qJ(k:Key):∀{kvs:List (Key×V)} {aS:List (Key×Tr)},kvs.map (·.1)=aS.map (·.1)->bb K H (kvs.map (·.2)) (aS.map (·.2))->(du aS k=none/\m7 kvs k=none)\/∃t v,du aS k=some t/\m7 kvs k=some v/\Rep K H v t
 |[],[],_,_=>.inl ⟨rfl,rfl⟩
 |[],_::_,e,_=>by cases e
 |_::_,[],e,_=>by cases e
 |(k1,v1)::kvs,(k2,L)::aS,e,r=>by
  rw[a_,a_]at e;injection e with b I
  have M:k1=k2:=b;subst M;cases r with
  |cons h r=>
   by_cases q:k1=k
   .refine .inr ⟨L,v1,?_,tR q,h⟩;unfold du;rw[j7,jb (show(k1,L).1=k from q)]
    rfl
   .rw[tT q];have S:du ((k1,L)::aS) k=du aS k:=by
     unfold du;rw[j7,fV (show¬(k1,L).1=k from q)]
    rw[S];exact qJ k I r
def Ci{H:Vw}{t:Tr}(h:Rd H.H a (.dK kvs))(e:kvs.map (·.1)=ch.map (·.1))(r:bb K H (kvs.map (·.2)) (ch.map (·.2)))(b:Rep K H y t)(q:jw t=some k):
  ∃o,rR H a y o/\((du ch k=none/\o=none)\/∃t v,du ch k=some t/\o=some v/\Rep K H v t):=by
 have L:=nP b q;subst L;refine⟨_,.inl ⟨kvs,k,h,rfl,rfl⟩,?_⟩;rcases qJ k e r with⟨h1,h2⟩|⟨t,v,h1,h2,h3⟩
 .exact .inl ⟨h1,h2⟩
 .exact .inr ⟨t,v,h1,h2,h3⟩
def rb:Tr->Bool
 |.bM=>true
 |.bl _=>true
 |.int _=>true
 |.str _=>true
 |_=>false
def eU(x:Tr)(u:Value):Bool:=match u with
 |.none=>eqT .bM x
 |.bool b=>eqT (.bl b) x
 |.int i _=>eqT (.int i) x
 |.str z _=>eqT (.str z) x
 |_=>false
theorem Ej(r:Rep K H y t)(f:rb t=true)(q:RelV y u):eU x u=eqT t x:=by
 cases r with
 |bM=>cases(show u=Value.none from q);rfl
 |bl b=>cases(show u=Value.bool b from q);rfl
 |int i=>obtain⟨w,rfl⟩:=(show∃t,u=Value.int i t from q);rfl
 |str z _=>obtain⟨w,rfl⟩:=(show∃t,u=Value.str z t from q);rfl
 |_=>cases f
theorem xV:∀{vs:List V} {ts:List Tr} {us:List Value},bb K H vs ts->ts.all rb=true->Vals vs us->us.any (eU x)=ts.any λy=>eqT y x
 |[],_,_,r,_,rv=>by cases r;cases rv;rfl
 |_::_,_,_,r,f,rv=>by
  cases r with
  |cons h r=>
   cases rv with
   |cons h1 rv=>
    rw[jd,bg]at f;rw[jc,jc,Ej h f.1 h1,xV r f.2 rv]
def Mg(f:rb t=true):dT t<=0/\pT t=true:=by cases t<;>first|exact⟨aK _,rfl⟩|cases f
theorem pW{A:Around}(I:Inv X U Z H s)(b:A.units<cLine)(M:Rep X.K (⟨H,tq⟩:Vw) x t)(p:pT t=true)(S:RelV x v):∀{vs:List V} {ts:List Tr} {us:List Value},bb X.K (⟨H,tq⟩:Vw) vs ts->ts.all rb=true->Vals vs us->∀u∈us,SeqAt.EqAt A s u v (eU t u)
 |[],_,_,r,_,q=>λu m=>by cases q;cases m
 |_::_,_,_,r,f,q=>λu m=>by
  cases r with
  |cons h r=>
   cases q with
   |cons h1 q=>
    rw[jd,bg]at f;rcases aZ.mp m with rfl|m
    .rw[Ej h f.1 h1];obtain⟨L,p0⟩:=Mg f.1;exact IZ I 0 L p0 p h M h1 S b
    .exact pW I b M p S r f.2 q u m
def HU(x:Tr)(ts:List Tr):Rs Bool:=if pT x=true/\ts.all rb=true then .ok (ts.any λy=>eqT y x)else .bad
def zl:Tr->Tr->Rs Tr
 |x,.tup ts=>P4 (HU x ts)
 |x,.lst ts=>P4 (HU x ts)
 |x,.bh aS=>match jw x with
  |some k=>.ok (.bl (du aS k).isSome)
  |none=>.bad
 |.str i,.str j=>.ok (.bl (!(Builtin.Str.occurrences j i 0 j.length 1).isEmpty))
 |_,_=>.bad
def Qh:Tr->Tr->Rs Tr
 |x,.tup ts=>P4 (IQ (HU x ts))
 |x,.lst ts=>P4 (IQ (HU x ts))
 |x,.bh aS=>match jw x with
  |some k=>.ok (.bl (!(du aS k).isSome))
  |none=>.bad
 |.str i,.str j=>.ok (.bl (!(!(Builtin.Str.occurrences j i 0 j.length 1).isEmpty)))
 |_,_=>.bad
theorem Mh(x:Tr)(aS:List (Key×Tr)):zl x (.bh aS)=match jw x with|some k=>.ok (.bl (du aS k).isSome)|none=>.bad:=by cases x<;>rfl
def wa(q:Fi X H (HU x ts) k):pT x=true/\ts.all rb=true/\k (ts.any λy=>eqT y x):=by
 unfold HU at q;split at q
 .rename_i h;exact⟨h.1,h.2,q⟩
 .exact q.elim
def FR(r:Rep K (bK B H) y (.bh aS))(b:Rep K (bK B H) x q)(I:jw q=some k):∃a,y=.ref a/\∃o,rR H a x o/\o.isSome=(du aS k).isSome:=by
 cases r with
 |bh h e L=>
  obtain⟨o,g,M⟩:=Ci (H:=raw _ _) (h.same bz) e (L.same fj) b.up I;refine⟨_,rfl,o,g,?_⟩;rcases M with⟨h1,rfl⟩|⟨_,_,h1,rfl,_⟩
  .rw[h1];rfl
  .rw[h1];rfl
theorem nQ{X:Cx}(r:X.A.units+1<cLine):Bs X (compareOp .In) zl:=by
 intro U s Z H x y v u Q I L b ⟨B,tx,ty,hb,r1,r2,q⟩;unfold zl at q;split at q
 .have f:=wa (Fi.bind q);obtain⟨a,vs,rfl,h,rr⟩:=r2.dY;cases(show u=Value.ref a from b);obtain⟨bJ,rv,pl,_⟩:=I.tuple h.up;refine SeqAt.in_tupleAt (eU tx) pl (λw hw=>pW I r r1.up f.1 L (rr.same fj) f.2.1 rv w (by simpa using hw)) ⟨.bl _,H,I,rfl,?_⟩;rw[show bJ.toArray.any (eU tx)=bJ.any (eU tx) by simp,xV rr f.2.1 rv];exact f.2.2 _ H (aG.refl H) (.bl _)
 .have f:=wa (Fi.bind q);obtain⟨a,vs,rfl,h,rr⟩:=r2.lst_inv;cases(show u=Value.ref a from b);obtain⟨bJ,rv,pl,_⟩:=I.list (.of (dD h));refine SeqAt.in_listAt (eU tx) pl.isList (λw hw=>pW I r r1.up f.1 L (rr.same fj) f.2.1 rv w (by simpa using hw)) ⟨.bl _,H,I,rfl,?_⟩;rw[show bJ.toArray.any (eU tx)=bJ.any (eU tx) by simp,xV rr f.2.1 rv];exact f.2.2 _ H (aG.refl H) (.bl _)
 .split at q
  .rename_i M;obtain⟨a,rfl,g⟩:=FR r2 r1 M;cases(show u=Value.ref a from b);obtain⟨o,g,S⟩:=g;refine W9 r I g L λs' I'=>⟨.bl _,H,I',rfl,?_⟩;rw[S];exact q _ H (aG.refl H) (.bl _)
  .exact fe q
 .exact GU U s Z H _ _ v u Q I L b ⟨_,_,r1.str_inv.1,r2.str_inv.1,q _ H (aG.refl H) (.bl _)⟩
 .exact fe q
theorem zm{X:Cx}(r:X.A.units+1<cLine):Bs X (compareOp .NotIn) Qh:=by
 intro U s Z H x y v u Q I L b ⟨B,tx,ty,hb,r1,r2,q⟩;unfold Qh at q;split at q
 .have f:=wa (Fi.bind (Fi.bind q));obtain⟨a,vs,rfl,h,rr⟩:=r2.dY;cases(show u=Value.ref a from b);obtain⟨bJ,rv,pl,_⟩:=I.tuple h.up;refine SeqAt.notIn_tupleAt (eU tx) pl (λw hw=>pW I r r1.up f.1 L (rr.same fj) f.2.1 rv w (by simpa using hw)) ⟨.bl _,H,I,rfl,?_⟩;rw[show bJ.toArray.any (eU tx)=bJ.any (eU tx) by simp,xV rr f.2.1 rv];exact f.2.2 _ H (aG.refl H) (.bl _)
 .have f:=wa (Fi.bind (Fi.bind q));obtain⟨a,vs,rfl,h,rr⟩:=r2.lst_inv;cases(show u=Value.ref a from b);obtain⟨bJ,rv,pl,_⟩:=I.list (.of (dD h));refine SeqAt.notIn_listAt (eU tx) pl.isList (λw hw=>pW I r r1.up f.1 L (rr.same fj) f.2.1 rv w (by simpa using hw)) ⟨.bl _,H,I,rfl,?_⟩;rw[show bJ.toArray.any (eU tx)=bJ.any (eU tx) by simp,xV rr f.2.1 rv];exact f.2.2 _ H (aG.refl H) (.bl _)
 .split at q
  .rename_i M;obtain⟨a,rfl,g⟩:=FR r2 r1 M;cases(show u=Value.ref a from b);obtain⟨o,g,S⟩:=g;refine LK r I g L λs' I'=>⟨.bl _,H,I',rfl,?_⟩;rw[S];exact q _ H (aG.refl H) (.bl _)
  .exact fe q
 .exact z_ U s Z H _ _ v u Q I L b ⟨_,_,r1.str_inv.1,r2.str_inv.1,q _ H (aG.refl H) (.bl _)⟩
 .exact fe q
noncomputable def jx{α:Type}:Option α->Rs α
 |some a=>.ok a
 |none=>.bad
def fU:Tr->Tr->Rs Tr
 |.tup ts,.int i=>jx (qZ ts i)
 |.lst ts,.int i=>jx (qZ ts i)
 |.str z,.int i=>(jx (qZ z.cps.toList i)).bind λc=>.ok (.str ⟨#[c]⟩)
 |.uI ns,.int i=>(jx (qZ ns i)).bind λn=>.ok (.int n)
 |.bh aS,t=>(jx (jw t)).bind λk=>jx (du aS k)
 |_,_=>.bad
def Mi(x:Tr)(aS:List (Key×Tr)):fU (.bh aS) x=(jx (jw x)).bind λk=>jx (du aS k):=by cases x<;>rfl
theorem bb.qZ (r:bb K H vs ts)(e:L2.qZ ts i=some t):∃v,L2.qZ vs i=some v/\Rep K H v t:=by
 unfold L2.qZ at e⊢;rw[r.length];cases q:K' ts.length i with
 |none=>rw[q]at e;cases e
 |some j=>
  rw[q]at e;obtain⟨v,L,r1⟩:=r.get (show ts[j]?=some t from e);exact⟨v,L,r1⟩
def il{o:Option α}{k:α->Prop}(h:Fi X H (jx o) k):∃a,o=some a/\k a:=by
 cases o with
 |none=>exact h.elim
 |some a=>exact⟨a,rfl,h⟩
def Mj{β:Type}(f:α->β)(xs:List α)(i:Int):L2.qZ (xs.map f) i=(L2.qZ xs i).map f:=by
 unfold L2.qZ;rw[aP];cases K' xs.length i with
 |none=>rfl
 |some j=>show(xs.map f)[j]?=_;rw[bW];rfl
def Ml(c:Nat):(⟨#[c]⟩:Str).length<=cH:=by show 1<=cH;decide
def Mm(r:Rep K (bK B H) x (.bh aS))(q:Rep K (bK B H) y ty)(I:jw ty=some k)(b:du aS k=some t):∃a w,x=.ref a/\rR H a y (some w)/\Rep K (bK B H) w t:=by
 obtain⟨a,kvs,L,h,e,rr⟩:=r.nM;refine⟨a,?_⟩;rcases qJ k e rr with⟨h1,_⟩|⟨t',w,h1,h2,h3⟩
 .cases b.symm.trans h1
 .cases b.symm.trans h1;exact⟨w,L,.inl ⟨kvs,k,h.same bz,nP q I,h2.symm⟩,h3⟩
theorem T'{X:Cx}(hu:X.A.units+1<cLine):TB X (rT X fU):=by
 intro value slice U s Z H x y v u Q I b r ⟨B,tx,ty,hb,r1,r2,q⟩ hs;unfold fU at q;split at q
 .obtain⟨a,vs,e,h,rr⟩:=r1.dY;obtain⟨t,L,k⟩:=il q;obtain⟨w,S,M⟩:=rr.qZ L;exact Pm value slice U s Z H _ _ v u Q I b r ⟨_,_,_,w,e,r2.int_inv,h.up,S,k w H (aG.refl H) M⟩ hs
 .obtain⟨a,vs,e,h,rr⟩:=r1.lst_inv;obtain⟨t,L,k⟩:=il q;obtain⟨w,S,M⟩:=rr.qZ L;exact Fu value slice U s Z H _ _ v u Q I b r ⟨_,_,_,w,e,r2.int_inv,.of (dD h),S,k w H (aG.refl H) M⟩ hs
 .obtain⟨c,L,k⟩:=il (Fi.bind q);exact Pn value slice U s Z H _ _ v u Q I b r ⟨_,_,c,r1.str_inv.1,r2.int_inv,aV r1.str_inv.2 lK,L,k _ H (aG.refl H) (.str _ (Ml c))⟩ hs
 .obtain⟨n,L,k⟩:=il (Fi.bind q);obtain⟨a,e,h⟩:=r1.FF;exact Fu value slice U s Z H _ _ v u Q I b r ⟨_,_,_,.int n,e,r2.int_inv,aG.seq bz h,by rw[Mj,L];rfl,k _ H (aG.refl H) (.int n)⟩ hs
 .obtain⟨k,ek,qk⟩:=il (Fi.bind q);obtain⟨t,L,qt⟩:=il qk;obtain⟨a,w,rfl,g,M⟩:=Mm r1 r2 ek L;cases(show v=Value.ref a from b);exact tail_any (BM I g) PySem.F.slot_dict_getitem.lookup (GZ hu I g r λw' s' I' rv=>⟨w,H,I',rv,qt w H (aG.refl H) M⟩) hs
 .exact fe q
def aQ{X:Cx}(r:X.A.units+1<cLine)(I:QE X a F)(hb:QE X b G)(hs:Ae b:=by exact λ_ _=>rfl):QE X (.Subscript a b pos) (λY=>PZ fU (F Y) (G Y)):=⟨(NZ (T' r) I.h hb.h hs).weak λ_ _ _ q=>t7 q⟩
inductive tO(X:Cx)(P:bS->Rs (Option Int))(Z:St)(H:Hp)(Q:Option Int->Hp->Prop):Prop
 |mk (B:eX) (Y:bS):HB B H->bU X.K B H Z Y->(Fi X H (P Y) λo=>∀H',aG H H'->Q o H')->tO X P Z H Q
structure QO(X:Cx)(e:Option Expr)(F:bS->Rs (Option Int)):Prop where
 h:PO X e (tO X F)
def Aq(r:Rs Tr):Rs (Option Int):=r.bind λt=>match t with
 |.int i=>.ok (some i)
 |_=>.bad
def nR:QO X none (λ_=>.ok none):=⟨λU s Z H Q I ⟨B,Y,hb,r,q⟩=>LB U s Z H Q I (q H (aG.refl H))⟩
def nT(h:QE X e F):QO X (some e) (λY=>Aq (F Y)):=⟨λU s Z H Q I ⟨B,Y,hb,r,q⟩=>
 LC h.h U s Z H Q I ⟨B,Y,hb,r,q.bind.mono λt L v H' b M=>by
  split at L
  .exact⟨_,M.int_inv,L H' b⟩
  .exact L.elim⟩⟩
def Ar{α:Type}(xs:List α)(lo hi:Option Int):List α:=(xs.drop (HT.hJ xs.length 0 lo)).take (HT.hJ xs.length xs.length hi - HT.hJ xs.length 0 lo)
def bb.cut (r:bb K H vs ts)(lo hi:Option Int):bb K H (BI vs lo hi) (Ar ts lo hi):=by
 unfold BI Ar;rw[r.length];exact(r.drop _).take _
def nU(n:Nat)(lo hi:Option Int):Bool:=HT.hJ n 0 lo==0&&HT.hJ n n hi==n
def Xx:Tr->Option Int->Option Int->Rs Tr
 |.tup ts,lo,hi=>if nU ts.length lo hi=true then .bad else .ok (.tup (Ar ts lo hi))
 |.lst ts,lo,hi=>.ok (.lst (Ar ts lo hi))
 |.str z,lo,hi=>if(Txt.slice z lo hi).length<=cH then .ok (.str (Txt.slice z lo hi))else .bad
 |_,_,_=>.bad
inductive Zh(X:Cx)(x:V)(lo:Option Int)(hi:Option Int)(H:Hp)(Q:VK):Prop
 |mk (B:eX) (t:Tr):HB B H->Rep X.K (bK B H) x t->(Fi X H (Xx t lo hi) λt=>∀v H',aG H H'->Rep X.K (bK B H') v t->Q v H')->Zh X x lo hi H Q
def Xy:Sm X (Zh X):=by
 intro U s Z H x v S vu lo hi sl Q I rx hs pl pu ⟨B,t,hb,r,q⟩;cases r with
 |tup h b=>
  rename_i a vs ts;have M:Fi X H (if nU ts.length lo hi=true then Rs.bad else .ok (Tr.tup (Ar ts lo hi))) _:=q;by_cases hw:nU ts.length lo hi=true
  .rw[av hw]at M;exact fe M
  .rw[aA hw]at M;refine Pl U s Z H _ v S vu lo hi sl Q I rx hs pl pu ⟨_,_,rfl,h.up,λz=>hw ?_,λp L=>M _ _ (aG.upd L) (.Qb hb L (b.cut lo hi))⟩;rw[b.length]at z;unfold nU;rw[z.1,z.2,bD,bD];rfl
 |lst h b=>exact LG U s Z H _ v S vu lo hi sl Q I rx hs pl pu ⟨_,_,rfl,.of (dD h),λp L=>q _ _ (aG.upd L) (.Al hb L (b.cut lo hi))⟩
 |str z hz=>
  obtain⟨h1,k⟩:=ik q;exact PY U s Z H _ v S vu lo hi sl Q I rx hs pl pu ⟨z,rfl,aV hz lK,k _ H (aG.refl H) (.str _ h1)⟩
 |_=>exact fe q
noncomputable def Mn:List Tr->Rs Tr
 |[.str z]=>.ok (.int (z.length:Int))
 |[.tup ts]=>.ok (.int (ts.length:Int))
 |[.lst ts]=>.ok (.int (ts.length:Int))
 |[.uI ns]=>.ok (.int (ns.length:Int))
 |_=>.bad
def Ua:m9 X (.builtin "len") Mn:=by
 intro U s Z H xs us Q I L ⟨B,ts,hb,r,q⟩;unfold Mn at q;split at q
 .obtain⟨x,e,r⟩:=fM r;exact tK U s Z H _ us Q I L ⟨_,_,e,by rw[r.str_inv.1];exact⟨aV r.str_inv.2 lK,rfl⟩,q _ H (aG.refl H) (.int _)⟩
 .obtain⟨x,e,r⟩:=fM r;obtain⟨a,vs,rfl,h,rr⟩:=r.dY;exact tK U s Z H _ us Q I L ⟨_,_,e,.inr ⟨_,h.up,rfl⟩,q _ H (aG.refl H) (by rw[rr.length];exact .int _)⟩
 .obtain⟨x,e,r⟩:=fM r;obtain⟨a,vs,rfl,h,rr⟩:=r.lst_inv;exact tK U s Z H _ us Q I L ⟨_,_,e,.inl ⟨_,.of (dD h),rfl⟩,q _ H (aG.refl H) (by rw[rr.length];exact .int _)⟩
 .obtain⟨x,e,r⟩:=fM r;obtain⟨a,rfl,h⟩:=r.FF;exact tK U s Z H _ us Q I L ⟨_,_,e,.inl ⟨_,aG.seq bz h,rfl⟩,q _ H (aG.refl H) (by rw[aP];exact .int _)⟩
 .exact fe q
noncomputable def Od:List Tr->Rs Tr
 |[.tup ts]=>.ok (.lst ts)
 |[.lst ts]=>.ok (.lst ts)
 |_=>.bad
noncomputable def As:List Tr->Rs Tr
 |[.tup ts]=>.ok (.tup ts)
 |[.lst ts]=>.ok (.tup ts)
 |_=>.bad
def wb:m9 X (.type "tuple") As:=by
 intro U s Z H xs us Q I L ⟨B,ts,hb,r,q⟩;unfold As at q;split at q
 .obtain⟨x,e,r⟩:=fM r;obtain⟨a,vs,rfl,h,rr⟩:=r.dY;exact rg U s Z H _ us Q I L ⟨_,_,e,.inr ⟨h.up,q _ H (aG.refl H) (.tup h rr)⟩⟩
 .obtain⟨x,e,r⟩:=fM r;obtain⟨a,vs,rfl,h,rr⟩:=r.lst_inv;exact rg U s Z H _ us Q I L ⟨_,_,e,.inl ⟨.of (dD h),λp b=>q _ _ (aG.upd b) (.Qb hb b rr)⟩⟩
 .exact q.elim
noncomputable def Oe:Tr->String
 |.bM=>"NoneType"
 |.bl _=>"bool"
 |.int _=>"int"
 |.str _=>"str"
 |.ty _=>"type"
 |.tup _=>"tuple"
 |.lst _=>"list"
 |.uI _=>"list"
 |.bh _=>"dict"
 |.at _=>"object"
 |.vm _=>"dict"
 |.ob _ _=>"object"
 |.zc _=>"object"
def Zi(t:Tr)(c:String):Bool:=Oe t==c||(Oe t=="bool"&&c=="int")
noncomputable def kinds:List String:=["int","str","bool","tuple","list","dict"]
def Mo(K:Frag):∀a∈["NoneType","bool","int","str","tuple","list","dict"],∀c∈kinds,PySem.W.kitOne K (.type a) (.type c)=some (a==c||(a=="bool"&&c=="int")):=by
 intro a L c b;simp only[kinds,aZ,dF,dH]at L b;rcases L with rfl|rfl|rfl|rfl|rfl|rfl|rfl<;>rcases b with rfl|rfl|rfl|rfl|rfl|rfl<;>first|rfl|(unfold PySem.W.kitOne;exact av ∅)
def Ub:Tr->Bool
 |.ty _|.at _|.ob _ _|.zc _=>true
 |_=>false
def Uc:List Tr->Rs Tr
 |[t,.ty c]=>if Ub t=false/\kinds.contains c=true then .ok (.bl (Zi t c))else .bad
 |_=>.bad
theorem Mp{c:String}(I:Inv X U Z H s)(r:Rep X.K (⟨H,tq⟩:Vw) x t)(h0:Ub t=false)(q:RelV x u)(hc:c∈kinds)(h:∀tk,ae (.bool (Zi t c)) {s with toks:=tk}):
  wpAny `c A (call (.builtin "isinstance") [u,.type c]) ae E s:=by
 have L:=λa ha=>Mo X.K a ha c hc;cases r with
 |bM=>exact m6 I q .bM (L _ ∅) h
 |bl b=>exact m6 I q (.bl b) (L _ ∅) h
 |int i=>exact m6 I q (.int i) (L _ ∅) h
 |str z hz=>exact m6 I q (.str z) (L _ ∅) h
 |ty n=>cases h0
 |«at» h=>cases h0
 |ob h e S=>cases h0
 |zc h c=>cases h0
 |@vm a kvs aS M e S=>
  cases(show u=Value.ref a from q);obtain⟨_,_,xs,_,o,es,ep,h1,h2,_⟩:=(show cB X.prog X.w H s.heap a (.dT kvs)from I.cy a _ M);exact eM sR I.nK ⟨o,h1,h2.1⟩ (L "dict" ∅) (λz=>nomatch z) h
 |@tup a vs ts M S=>
  cases(show u=Value.ref a from q);obtain⟨bJ,rv,⟨o,h1,h2,_⟩,_⟩:=I.tuple M;exact eM PySem.W.kitx_tuple I.nK ⟨o,h1,h2⟩ (L "tuple" ∅) (λz=>nomatch z) h
 |lst M S=>exact m6 I q (.lst M) (L _ ∅) h
 |@uI a ns M=>
  cases(show u=Value.ref a from q);obtain⟨bJ,rv,⟨o,n,h1,h2,_⟩,_⟩:=I.list M;exact eM wW I.nK ⟨o,h1,h2⟩ (L "list" ∅) (λz=>nomatch z) h
 |@bh a kvs aS M e S=>
  cases(show u=Value.ref a from q);obtain⟨_,_,vs,_,p⟩:=(show cB X.prog X.w H s.heap a (.dK kvs)from M.ok I.cy);obtain⟨o,es,ep,h1,h2,_⟩:=p;exact eM sR I.nK ⟨o,h1,h2.1⟩ (L "dict" ∅) (λz=>nomatch z) h
def Ud:m9 X (.builtin "isinstance") Uc:=by
 intro U s Z H xs us Q I L ⟨B,ts,hb,r,q⟩;unfold Uc at q;split at q
 .obtain⟨⟨h0,h1⟩,k⟩:=ik q;obtain⟨x,y,rfl,r1,r2⟩:=BX r;obtain⟨v,u,rfl,v1,v2⟩:=vals2 L;cases r2;cases v2;exact Mp I r1.up h0 v1 (by simpa using h1) λb=>⟨.bl _,H,I.tok _,rfl,k _ H (aG.refl H) (.bl _)⟩
 .exact q.elim
def mS(h:Str->List Tr->Rs Tr)(a:Rs Tr)(l:Rs (List Tr)):Rs Tr:=a.bind λt=>match t with
 |.str z=>l.bind (h z)
 |_=>.bad
inductive rM(X:Cx)(h:Str->List Tr->Rs Tr)(x:V)(xs:List V)(H:Hp)(Q:VK):Prop
 |mk (B:eX) (z:Str) (ts:List Tr):HB B H->x=.str z->z.length<=cH->bb X.K (bK B H) xs ts->(Fi X H (h z ts) λt=>∀v H',aG H H'->Rep X.K (bK B H') v t->Q v H')->rM X h x xs H Q
theorem Xz{cN:Pos}{id:String}(slot:Slot "str" name id)(I:typeOf (.builtin id)=pure (.type "method_descriptor"))(hm:NY X id (rM X h))(M:QE X o F)(S:QA X (ag::af) L)(pa:PlainAttrs "str":=by exact PySem.F.plainAttrs_str) (xB:autoParam (isCall o=false) Rfz) (cJ:autoParam (bL (ag::af)=true) Rfz) (hn:autoParam ((ag::af).length<30) Dcz) (pP:autoParam ((b9.endLine==cN.line)=true) Rfz):QE X (.Call (.Attribute o name b9) (ag::af) [] cN) (λY=>mS h (F Y) (L Y)):=⟨(BJ pa slot I hm M.h S.h (ig xB) (by rw[ib cJ,jb (show(ag::af).length+([]:List Keyword).length+(if([]:List Keyword).isEmpty then 0 else 1)<30 from hn)];rfl) pP (bA _ _ (aI cJ).1) (b_ (aI cJ).2)).weak λZ H Q ⟨B,Y,hb,r,q⟩=>⟨B,Y,hb,r,q.bind.mono λt b v H1 s1 r1=>by
  split at b
  .rename_i z;obtain⟨rfl,hz⟩:=r1.str_inv;exact⟨rfl,B,Y,hb.same s1,r.same s1,(Fi.bind b|>.same s1).mono λts qs vs H2 s2 r2=>⟨B,z,ts,hb.same (s1.trans s2),rfl,hz,r2,(qs.same (s1.trans s2)).mono λt b v H3 s3 r3=>b v H3 ((s1.trans s2).trans s3) r3⟩⟩
  .exact b.elim⟩⟩
def oE:List Tr->Rs (List Str)
 |[]=>.ok []
 |.str z::ts=>(oE ts).bind λzs=>.ok (z::zs)
 |_=>.bad
theorem Cj:∀{ts:List Tr} {zs:List Str},oE ts=.ok zs->ts=zs.map Tr.str
 |[],zs,e=>by cases e;rfl
 |t::ts,zs,e=>by
  cases t with
  |str z=>
   rw[oE]at e;cases q:oE ts with
   |ok ys=>rw[q]at e;cases e;rw[Cj q];rfl
   |_=>rw[q]at e;cases e
  |_=>cases e
theorem rB:∀{zs:List Str} {vs:List V},bb K H vs (zs.map Tr.str)->vs=zs.map V.str
 |[],_,r=>by cases r;rfl
 |z::zs,_,r=>by
  cases r with
  |cons h r=>cases h;rw[rB r];rfl
def joinM(z:Str):List Tr->Rs Tr
 |[.lst ts]=>(oE ts).bind λzs=>if JoinOk z zs=true/\(Txt.join z zs).length<=cH then .ok (.str (Txt.join z zs))else .bad
 |_=>.bad
theorem zo:∀{ts:List Tr} {c:Tr},oE ts≠ .exc c
 |[],_=>λe=>by cases e
 |t::ts,c=>λe=>by
  cases t with
  |str z=>
   rw[oE]at e;cases q:oE ts with
   |ok ys=>rw[q]at e;cases e
   |exc c=>exact zo q
   |bad=>rw[q]at e;cases e
  |_=>cases e
def Qi:NY X "str.join" (rM X joinM):=by
 intro U s Z H x xs v us Q I L b ⟨B,z,ts,hb,e,hz,r,q⟩;subst e;unfold joinM at q;split at q
 .rename_i M;cases r with
  |cons h r=>
   cases r;cases h with
   |lst S rr=>
    cases e:oE M with
    |ok zs=>
     rw[e]at q;obtain⟨⟨h1,h2⟩,k⟩:=ik q;have e2:=Cj e;subst e2;have e3:=rB rr;subst e3;exact LS U s Z H _ _ v us Q I L b ⟨z,_,zs,rfl,rfl,.of (dD S),h1,k _ H (aG.refl H) (.str _ h2)⟩
    |exc c=>exact(zo e).elim
    |bad=>rw[e]at q;exact fe q
 .exact fe q
def Ue:Tr->Rs Tr
 |.int i=>.ok (.int (-i))
 |_=>.bad
def Of(b:QE X a F):QE X (.UnaryOp .USub a pos) (λY=>(F Y).bind Ue):=⟨(Th Pb b.h).weak λZ H Q ⟨B,Y,hb,r,q⟩=>⟨B,Y,hb,r,q.bind.mono λt L v H' I M=>by
  cases M with
  |int i=>exact⟨i,rfl,L _ H' I (.int _)⟩
  |_=>exact fe L⟩⟩
def cq(b:cQ k A):A.units+40<cLine:=by have:=b.units;omega
def rD(n m:Nat)(G:bS->Rs Out)(ts:List Tr):Rs Tr:=if ts.length=n then dh (G (startT m ts))else .bad
def Mr(h:rD n m G ts=.ok t):ts.length=n:=by
 unfold rD at h;split at h
 .assumption
 .cases h
def Qj(h:rD n m G ts=.ok t):dh (G (startT m ts))=.ok t:=by
 unfold rD at h;split at h
 .exact h
 .cases h
noncomputable def fB(aS:List (Key×Tr))(k:Key)(t:Tr):List (Key×Tr):=
 if(aS.any λL=>decide (L.1=k))=true then aS.map (λL=>if L.1=k then(L.1,t)else L)else aS++[(k,t)]
def gn(aS more:List (Key×Tr)):List (Key×Tr):=more.foldl (λacc L=>fB acc L.1 L.2) aS
structure dE(K:Frag)(H:Vw)(kvs:List (Key×V))(aS:List (Key×Tr)):Prop where
 keys:kvs.map (·.1)=aS.map (·.1)
 vals:bb K H (kvs.map (·.2)) (aS.map (·.2))
theorem dE.nil:dE K H [] []:=⟨rfl,.nil⟩
theorem dE.same (s:eW H H')(h:dE K H kvs aS):dE K H' kvs aS:=⟨h.keys,h.vals.same s⟩
theorem dE.cons {k:Key}(r:Rep K H v t)(h:dE K H kvs aS):dE K H ((k,v)::kvs) ((k,t)::aS):=⟨by rw[a_,a_,h.keys],.cons r h.vals⟩
def dE.inv {k:Key}{v:V}{kvs:List (Key×V)}(h:dE K H ((k,v)::kvs) aS):∃t r,aS=(k,t)::r/\Rep K H v t/\dE K H kvs r:=by
 obtain⟨e,r⟩:=h
 match aS,e,r with
 |(k2,t)::L,e,r=>
  rw[a_,a_]at e;injection e with b q
  have I:k=k2:=b;subst I;cases r with
  |cons h1 h2=>exact⟨t,L,rfl,h1,q,h2⟩
theorem dE.any (k:Key):∀{kvs:List (Key×V)} {aS:List (Key×Tr)},dE K H kvs aS->(kvs.any λq=>decide (q.1=k))=aS.any λq=>decide (q.1=k)
 |[],aS,h=>by
  have e:=h.keys;cases aS with
  |nil=>rfl
  |cons a b=>cases e
 |(j,v)::kvs,aS,h=>by
  obtain⟨t,r,rfl,_,h2⟩:=h.inv;rw[jc,jc,dE.any k h2]
theorem dE.map (k:Key)(I:Rep K H y u):∀{kvs:List (Key×V)} {aS:List (Key×Tr)},dE K H kvs aS->dE K H (kvs.map λq=>if q.1=k then(q.1,y)else q) (aS.map λq=>if q.1=k then(q.1,u)else q)
 |[],aS,h=>by
  have e:=h.keys;cases aS with
  |nil=>exact .nil
  |cons a b=>cases e
 |(j,v)::kvs,aS,h=>by
  obtain⟨t,r,rfl,h1,h2⟩:=h.inv;rw[a_,a_];by_cases e:j=k
  .rw[av (show(j,v).1=k from e),av (show(j,t).1=k from e)];exact .cons I (dE.map k I h2)
  .rw[aA (show¬(j,v).1=k from e),aA (show¬(j,t).1=k from e)];exact .cons h1 (dE.map k I h2)
theorem dE.snoc (k:Key)(q:Rep K H y u):∀{kvs:List (Key×V)} {aS:List (Key×Tr)},dE K H kvs aS->dE K H (kvs++[(k,y)]) (aS++[(k,u)])
 |[],aS,h=>by
  have e:=h.keys;cases aS with
  |nil=>exact .cons q .nil
  |cons a b=>cases e
 |(j,v)::kvs,aS,h=>by
  obtain⟨t,r,rfl,h1,h2⟩:=h.inv;exact .cons h1 (dE.snoc k q h2)
def dE.put (k:Key)(b:Rep K H y u)(h:dE K H kvs aS):dE K H (putK kvs k y) (fB aS k u):=by
 unfold putK fB;rw[h.any k];by_cases e:(aS.any λL=>decide (L.1=k))=true
 .rw[av e,av e];exact h.map k b
 .rw[aA e,aA e];exact h.snoc k b
theorem dE.merge:∀{more:List (Key×V)} {Ek:List (Key×Tr)} {kvs:List (Key×V)} {aS:List (Key×Tr)},dE K H more Ek->dE K H kvs aS->dE K H (iQ kvs more) (gn aS Ek)
 |[],Ek,kvs,aS,h,q=>by
  have e:=h.keys;cases Ek with
  |nil=>exact q
  |cons a b=>cases e
 |(k,v)::more,Ek,kvs,aS,h,q=>by
  obtain⟨t,r,rfl,h1,h2⟩:=h.inv;exact dE.merge (more:=more) (Ek:=r) h2 (q.put k h1)
def bU.bar (h:bU K B H Z Y)(b:H p=none):bU K (nc B p) (upd H p o) Z Y:=by
 refine⟨h.len,λi t e=>?_,λi ts e=>?_,h.ap⟩
 .obtain⟨v,L,r⟩:=h.sh i t e;exact⟨v,L,r.same (kI b)⟩
 .obtain⟨D,ys,L,q,I,r⟩:=h.ow i ts e;exact⟨D,ys,L,FJ.hd _ q,by rwa[aM (cp I b)],r.same (kI b)⟩
def I0(k v:Rs Tr)(r:Rs (List (Tr×Tr))):Rs (List (Tr×Tr)):=k.bind λx=>v.bind λy=>r.bind λps=>.ok ((x,y)::ps)
def xW:List (Tr×Tr)->Rs (List (Key×Tr))
 |[]=>.ok []
 |(k,t)::r=>(jx (jw k)).bind λk=>(xW r).bind λl=>.ok ((k,t)::l)
def Ug(r:Rs (List (Tr×Tr))):Rs Tr:=r.bind λps=>if ps.length<=15 then(xW ps).bind λaS=>.ok (.bh (gn [] aS))else .bad
inductive Ck(K:Frag)(H:Vw):List (V×V)->List (Tr×Tr)->Prop where
 |nil:Ck K H [] []
 |cons {x y:V} {t u:Tr} {ps:List (V×V)} {qs:List (Tr×Tr)} (h1:Rep K H x t) (h2:Rep K H y u) (r:Ck K H ps qs):Ck K H ((x,y)::ps) ((t,u)::qs)
theorem Ck.length (h:Ck K H ps b):ps.length=b.length:=by
 induction h with
 |nil=>rfl
 |cons _ _ _ L=>rw[cY,cY,L]
def zp(h:Ck K H ps I):Fi X H0 (xW I) k->∃kvs aS,k aS/\ps=kvs.map (λb=>(kV b.1,b.2))/\dE K H kvs aS:=by
 induction h generalizing k with
 |nil=>exact λq=>⟨[],[],q,rfl,.nil⟩
 |cons h1 h2 r L=>
  intro q;obtain⟨key,M,S⟩:=il (Fi.bind q);obtain⟨kvs,aS,k1,e1,rd⟩:=L (Fi.bind S);have e:=nP h1 M;subst e;exact⟨(key,_)::kvs,_,k1,by rw[a_,e1],.cons h2 rd⟩
structure QP(X:Cx)(pos:Pos)(keys:List (Option Expr))(vals:List Expr)(P:bS->Rs (List (Tr×Tr))):Prop where
 h:∃BO,So X pos keys vals BO/\∀Z H Q,(∃B Y,HB B H/\bU X.K B H Z Y/\Fi X H (P Y) λQk=>∀Ms H',aG H H'->Ck X.K (bK B H') Ms Qk->Q Ms H')->xE BO Z H Q
def Og:QP X pos [] [] λ_=>.ok []:=⟨[],Fx,λZ H Q ⟨B,Y,hb,r,q⟩=>q [] H (aG.refl H) .nil⟩
def Mt(b:PE X k (tP X F))(I:PE X c5 (tP X G))(M:QP X pos keys vals P):QP X pos (some k::keys) (c5::vals) λY=>I0 (F Y) (G Y) (P Y):=by
 obtain⟨BO,h1,h2⟩:=M.h;refine⟨_,BP b I h1,λZ H Q ⟨B,Y,hb,r,q⟩=>?_⟩;refine⟨B,Y,hb,r,q.bind.mono λx L u H1 s1 S=>⟨B,Y,hb.same s1,r.same s1,(L.bind.same s1).mono λy qy w H2 s2 r2=>h2 _ _ _ ⟨B,Y,hb.same (s1.trans s2),r.same (s1.trans s2),(qy.bind.same (s1.trans s2)).mono λps qp Ms H3 s3 r3=>?_⟩⟩⟩;exact qp _ H3 ((s1.trans s2).trans s3) (.cons (S.same (bj (s2.trans s3))) (r2.same (bj s3)) r3)
theorem I_(h:QP X pos keys vals P)(z5:autoParam (keys.all (·.isSome)=true) Rfz) (hl:autoParam (keys.length=vals.length) Rfz) (h0:autoParam (keys.isEmpty=false) Rfz) (PB:autoParam (keys.length<=15) Dcz):QE X (.Dict keys vals pos) (λY=>Ug (P Y)):=⟨by
 obtain⟨BO,h1,h2⟩:=h.h;refine(Fy h1 z5 hl (λz=>by rw[z]at h0;cases h0) PB).weak λZ H Q ⟨B,Y,hb,r,q⟩ p L=>?_
 refine h2 Z _ _ ⟨nc B p,Y,FI hb L,r.bar L,(q.bind.same (aG.upd L)).mono λQk b Ms H2 s2 r2=>?_⟩;by_cases I:Qk.length<=15
 .rw[av I]at b;obtain⟨kvs,aS,k1,S,rd⟩:=zp r2 (Fi.bind b);refine⟨s2 _ _ bp,kvs,S,?_,?_⟩
  .have e2:=cF List.length S;rw[aP,r2.length]at e2;rw[<-e2];exact I
  .have M:=hb.free L;have rm:=(dE.merge rd dE.nil);refine k1 _ _ (((aG.upd L).trans s2).BS L) (.bh (.inl (by rw[gS M];exact bp)) rm.keys (rm.vals.same ?_));have e3:bK (nc B p) (upd H2 p (.dK (iQ [] kvs)))=bK (nc B p) H2:=t_;rw[<-e3];exact Ca
 .rw[aA I]at b;exact fe b⟩
def vq(a b c:Rs Tr):Rs Tr:=a.bind λx=>match x with
 |.bh aS=>b.bind λy=>c.bind λz=>(jx (jw y)).bind λk=>.ok ((du aS k).getD z)
 |_=>.bad
def Uh{cN:Pos}(hb:isCall o=false)(cJ:bL [c5]=true)(b:(b9.endLine==cN.line)=true):M1 X o m b9 c5 cN:=
 ⟨ig hb,by rw[ib cJ];rfl,b,by rw[bA _ _ (aI cJ).1,starEach];rfl⟩
def Oh{cN:Pos}(hb:isCall o=false)(cJ:bL [c5,ag]=true)(b:(b9.endLine==cN.line)=true):M2 X o m b9 c5 ag cN:=
 ⟨ig hb,by rw[ib cJ];rfl,b,by rw[bA _ _ (aI cJ).1,bA _ _ (aI (aI cJ).2).1,starEach];rfl⟩
def Mu(g:rR (bK B H) a y ov):rR H a y ov:=by
 rcases g with⟨kvs,k,L,q,r⟩|⟨kvs,k,b,L,q,r,I⟩
 .exact .inl ⟨kvs,k,L.same bz,q,r⟩
 .exact .inr ⟨kvs,k,b,L.same bz,q,bz _ _ r,I⟩
def Ja{X:Cx}{cN:Pos}(I:X.A.units+1<cLine)(b:QE X o F)(he:QE X e G)(hf:QE X f E)(hb:autoParam (isCall o=false) Rfz) (cJ:autoParam (bL [e,f]=true) Rfz) (M:autoParam ((b9.endLine==cN.line)=true) Rfz):QE X (.Call (.Attribute o "get" b9) [e,f] [] cN) (λY=>vq (F Y) (G Y) (E Y)):=⟨have b:=b.h;(ID I b he.h hf.h (Oh hb cJ M)).weak λZ H Q ⟨B,Y,hb,r,q⟩=>⟨B,Y,hb,r,q.bind.mono λx L v H1 s1 S=>by
  split at L
  .obtain⟨_,_,rfl,h,e,rr⟩:=S.nM;refine⟨_,rfl,.inl ⟨_,h.same bz⟩,B,Y,hb.same s1,r.same s1,(Fi.bind L|>.same s1).mono λy qy w H2 s2 r2=>⟨B,Y,hb.same (s1.trans s2),r.same (s1.trans s2),(Fi.bind qy|>.same (s1.trans s2)).mono λz qz w3 H3 s3 r3=>?_⟩⟩;obtain⟨k,ek,qk⟩:=il (Fi.bind qz);obtain⟨ov,g,b⟩:=Ci (Rd.same (bj (s2.trans s3)).h h) e (rr.same (bj (s2.trans s3))) (r2.same (bj s3)) ek;refine⟨ov,Mu g,qk _ H3 ((s1.trans s2).trans s3) ?_⟩;rcases b with⟨h1,rfl⟩|⟨t,w',h1,rfl,h3⟩
   .rwa[h1]
   .rwa[h1]
  .exact L.elim⟩⟩
def El(K:Frag)(w:World)(mg:Str->Option Value)(x:Str)(aS:List (Str×Tr)):Prop:=
 ∃a kvs,mg x=some (.ref a)/\BU K w a kvs/\∀z,(valueAt kvs z=none/\aS.lookup z=none)\/∃u v t,valueAt kvs z=some u/\RelV v u/\aS.lookup z=some t/\∀H,Rep K H v t
def Ui(aS:List (Str×Tr)):Tr->Rs Tr
 |.str z=>jx (aS.lookup z)
 |_=>.bad
def Uj{X:Cx}(g:El X.K X.w X.mg x aS)(I:QE X a F)(M:autoParam (Gl X x) Rfz) (hd:autoParam (Db x) Dcz) (hs:Py a:=by exact λ_ _=>rfl):QE X (.Subscript (.Name x p) a pos) (λY=>(F Y).bind (Ui aS)):=⟨by
 obtain⟨ad,kvs,hm,D,S⟩:=g;refine(IM (z8 (v:=.ref ad) M hm rfl hd) I.h hs).weak λZ H Q ⟨B,Y,hb,r,q⟩=>?_
 refine⟨B,Y,hb,r,q.bind.mono λt L v H1 s1 r1=>?_⟩;unfold Ui at L;split at L
 .rename_i z;obtain⟨t,b,k⟩:=il L;rcases S z with⟨h1,h2⟩|⟨u,v,t',h1,h3,h2,h4⟩
  .cases b.symm.trans h2
  .cases b.symm.trans h2;exact⟨ad,z,kvs,u,v,rfl,r1.str_inv.1,D,h1,h3,k v H1 s1 (h4 _)⟩
 .exact L.elim⟩
def yS:List Tr->Rs (List Bool)
 |[]=>.ok []
 |.bl b::ts=>(yS ts).bind λzs=>.ok (b::zs)
 |_=>.bad
theorem Au:∀{ts:List Tr} {vs:List V},bb K H vs ts->Fi X H0 (yS ts) k->∃bs,k bs/\vs=bs.map V.bl
 |[],_,r,q=>by cases r;exact⟨[],q,rfl⟩
 |t::ts,_,r,q=>by
  cases r with
  |cons h r=>
   cases h with
   |bl b=>
    obtain⟨bs,k1,e⟩:=Au (k:=λzs=>k (b::zs)) r (Fi.bind q);exact⟨b::bs,k1,by rw[e];rfl⟩
   |_=>exact fe q
def Mv:List Tr->Rs Tr
 |[.lst ts]=>(yS ts).bind λbs=>.ok (.bl (bs.all id))
 |_=>.bad
def Uk{X:Cx}(b:X.calm=true):m9 X (.builtin "all") Mv:=by
 intro U s Z H xs us Q I L ⟨B,ts,hb,r,q⟩;unfold Mv at q;split at q
 .obtain⟨x,rfl,h⟩:=fM r;obtain⟨a,vs,rfl,M,rr⟩:=h.lst_inv;obtain⟨bs,k,rfl⟩:=Au rr (Fi.bind q);exact IK b U s Z H _ us Q I L ⟨_,bs,rfl,.of (dD M),k _ H (aG.refl H) (.bl _)⟩
 .exact fe q
inductive Em(K:Frag)(w:World):List DictEntry->List (Str×Value)->List (Str×Tr)->Prop
 |nil:Em K w [] [] []
 |cons {z:Str} {t:Tok} {v:V} {u:Value} {tr:Tr} {es:List DictEntry} {kvs:List (Str×Value)} {aS:List (Str×Tr)}:RelV v u->(∀H,Rep K H v tr)->Em K w es kvs aS->
   Em K w (⟨PyData.keyHash w.params z,.str z t,u⟩::es) ((z,u)::kvs) ((z,tr)::aS)
theorem Em.keys {w:World}{es:List DictEntry}(prog:Program)(h:Em K w es kvs aS):∀e∈es,∃k,(PySem.strKind prog w).is k e.key=true/\e.hash=(PySem.strKind prog w).hash k:=by
 induction h with
 |nil=>intro e he;cases he
 |@cons z t v u b es kvs aS _ _ _ L=>
  intro e he;rcases aZ.mp he with rfl|he
  .exact⟨z,by simp[PySem.strKind,Value.isStrOf],rfl⟩
  .exact L e he
theorem Em.pairs {w:World}(prog:Program)(h:Em K w es kvs aS):Pairs (PySem.strKind prog w) es kvs:=by
 induction h with
 |nil=>exact .nil
 |cons _ _ _ L=>exact .cons (by simp[PySem.strKind,Value.isStrOf]) rfl L
theorem Em.at {w:World}(h:Em K w es kvs aS)(y:Str):(valueAt kvs y=none/\aS.lookup y=none)\/∃u v t,valueAt kvs y=some u/\RelV v u/\aS.lookup y=some t/\∀H,Rep K H v t:=by
 induction h with
 |nil=>exact .inl ⟨rfl,rfl⟩
 |@cons z t v u tr es kvs aS L b _ I=>
  by_cases e:z=y
  .subst e;exact .inr ⟨u,v,tr,by simp[valueAt],L,by simp[List.lookup],b⟩
  .have q:valueAt ((z,u)::kvs) y=valueAt kvs y:=by simp[valueAt,e]
   have r:List.lookup y ((z,tr)::aS)=aS.lookup y:=by
    have:(y==z)=false:=gG.mpr λk=>e k.symm;simp[List.lookup,this]
   rwa[q,r]
def Em.gd {w:World}{mg:Str->Option Value}(h:Em K w es kvs aS)(hm:mg x=some (.ref a))(b:K.lookup a=some ⟨.type "dict",none,.dict es.toArray ep,#[]⟩) (hs:(a==sysModules)=false) (hn:(kvs.map (·.1)).Nodup):El K w mg x aS:=
 ⟨a,kvs,hm,⟨hs,_,_,_,b,⟨rfl,rfl,rfl⟩,rfl,λprog=>⟨λe he=>h.keys prog e (by simpa using he),h.pairs prog,hn⟩⟩,h.at⟩
inductive Ao where
 |lst (ts:List Tr)|bh (aS:List (Key×Tr))|ins (x:Str) (fs:List (Str×Tr))|vm (aS:List (List Key×Tr))|DJ (x:Str)
abbrev Ab:=List Ao
def rY(K:Frag)(B:eX)(H:Hp)(a:Addr):Ao->Prop
 |.lst ts=>B.hd a=true/\∃vs,H a=some (.lst vs)/\bb K (bK B H) vs ts
 |.bh aS=>B.hd a=true/\∃kvs,H a=some (.dK kvs)/\dE K (bK B H) kvs aS
 |.vm aS=>B.hd a=true/\∃kvs,H a=some (.dT kvs)/\kvs.map (·.1)=aS.map (·.1)/\bb K (bK B H) (kvs.map (·.2)) (aS.map (·.2))
 |.ins x fs=>B.hd a=true/\∃dx L,H a=some (.ins (clsAt K x) dx L)/\H dx=some (.own a)/\B.ix dx=none/\L.map (·.1)=fs.map (·.1)/\bb K (bK B H) (L.map (·.2)) (fs.map (·.2))
 |.DJ x=>B.hd a=true/\∃b:Obj,H a=some (.ext λh=>h.get? a=some b)/\b.cls=.ref (clsAt K x)
structure HA(K:Frag)(B:eX)(A:Ab)(H:Hp):Prop where
 hb:HB B H
 ob:∀i o,A[i]?=some o->∃a,B.ix a=some i/\rY K B H a o
 inj:∀a b i,B.ix a=some i->B.ix b=some i->a=b
 lt:∀a i,B.ix a=some i->i<A.length
structure Grows(B:eX)(H:Hp)(B':eX)(H':Hp):Prop where
 jv:eW (bK B H) (bK B' H')
 kp:∀b o,B.ix b=none->H b=some o->H' b=some o
 hd:∀b,B.ix b=none->B.hd b=true->B'.hd b=true
 nw:∀b i,B'.ix b=some i->B.ix b=none->H b=none
theorem rY.same (h:rY K B H a o)(s:aG H H'):rY K B H' a o:=by
 cases o with
 |lst ts=>obtain⟨h0,vs,h1,h2⟩:=h;exact⟨h0,vs,s _ _ h1,h2.same (bj s)⟩
 |bh aS=>obtain⟨h0,vs,h1,h2⟩:=h;exact⟨h0,vs,s _ _ h1,h2.same (bj s)⟩
 |vm aS=>obtain⟨h0,vs,h1,h2,h3⟩:=h;exact⟨h0,vs,s _ _ h1,h2,h3.same (bj s)⟩
 |DJ x=>obtain⟨h0,oe,h1,h2⟩:=h;exact⟨h0,oe,s _ _ h1,h2⟩
 |ins c fs=>obtain⟨h0,dx,g6,h1,h2,h3,h4,L⟩:=h;exact⟨h0,dx,g6,s _ _ h1,s _ _ h2,h3,h4,L.same (bj s)⟩
theorem rY.hd (h:rY K B H a o):B.hd a=true:=by cases o<;>exact h.1
def rY.mem (h:rY K B H a o):∃x,H a=some x/\(∀vs,x≠ .tup vs)/\∀b u,x≠ .ll b u:=by
 cases o with
 |lst ts=>obtain⟨h0,vs,h1,h2⟩:=h;exact⟨_,h1,(λ_ e=>by cases e),(λ_ _ e=>by cases e)⟩
 |bh aS=>obtain⟨h0,vs,h1,h2⟩:=h;exact⟨_,h1,(λ_ e=>by cases e),(λ_ _ e=>by cases e)⟩
 |vm aS=>obtain⟨h0,vs,h1,h2⟩:=h;exact⟨_,h1,(λ_ e=>by cases e),(λ_ _ e=>by cases e)⟩
 |DJ x=>obtain⟨h0,oe,h1,h2⟩:=h;exact⟨_,h1,(λ_ e=>by cases e),(λ_ _ e=>by cases e)⟩
 |ins c fs=>obtain⟨h0,dx,g6,h1,h2⟩:=h;exact⟨_,h1,(λ_ e=>by cases e),(λ_ _ e=>by cases e)⟩
theorem HA.same (h:HA K B A H)(s:aG H H'):HA K B A H':=
 ⟨h.hb.same s,λi o e=>by obtain⟨a,h1,h2⟩:=h.ob i o e;exact⟨a,h1,h2.same s⟩,h.inj,h.lt⟩
def HA.get (h:HA K B A H)(e:B.ix a=some i)(q:A[i]?=some o):rY K B H a o:=by
 obtain⟨b,h1,h2⟩:=h.ob i o q;rwa[h.inj a b i e h1]
def HA.ex (h:HA K B A H)(e:B.ix a=some i):∃o,A[i]?=some o/\rY K B H a o:=by
 have l:=h.lt a i e;exact⟨A[i],cj l,h.get e (cj l)⟩
def HA.free (h:HA K B A H)(b:H p=none):B.ix p=none:=by
 cases e:B.ix p with
 |none=>rfl
 |some i=>
  obtain⟨o,_,q⟩:=h.ex e;obtain⟨x,L,_⟩:=q.mem;rw[b]at L;cases L
def Grows.of (s:aG H H'):Grows B H B H':=⟨bj s,λb o _ e=>s b o e,λ_ _ e=>e,λb i e n=>by rw[n]at e;cases e⟩
theorem Grows.refl:Grows B H B H:=.of (aG.refl H)
theorem Grows.trans {B1:eX}(hb:HB B H)(a:Grows B H B1 H1)(b:Grows B1 H1 B2 H2):Grows B H B2 H2:=by
 have key:∀c,B.ix c=none->(∃o,H c=some o)->B1.ix c=none:=λc n ⟨o,e⟩=>by
  cases q:B1.ix c with
  |none=>rfl
  |some i=>have:=a.nw c i q n;rw[e]at this;cases this
 refine⟨a.jv.trans b.jv,λc o n e=>b.kp c o (key c n ⟨o,e⟩) (a.kp c o n e),λc n e=>?_,λc i e n=>?_⟩
 .exact b.hd c (key c n (hb c e)) (a.hd c n e)
 .cases q:B1.ix c with
  |none=>
   have:=b.nw c i e q;cases L:H c with
   |none=>rfl
   |some o=>rw[a.kp c o n L]at this;cases this
  |some j=>exact a.nw c j q n
noncomputable def pX(B:eX)(p:Addr)(i:Nat):eX:=⟨λb=>B.hd b||b==p,λb=>if b=p then some i else B.ix b⟩
def qK:(pX B p i).hd p=true:=by show(B.hd p||p==p)=true;rw[bD,Bool.or_true]
def ip:(pX B p i).ix p=some i:=av rfl
def iq{p b:Addr}(h:b≠p):(pX B p i).ix b=B.ix b:=aA h
def ud{p b:Addr}(h:b≠p):(pX B p i).hd b=B.hd b:=by show(B.hd b||b==p)=_;rw[j8 h,pE]
def Jb{B:eX}{H:Hp}(M:H p=none)(S:B.ix p=none)(s:aG H H'):eW (bK B H) (bK (pX B p i) H'):=⟨λb u e=>by
 have r:=bz b u e;have L:b≠p:=cp r M;have hB:B.hd b=false:=by
  cases q:B.hd b with
  |false=>rfl
  |true=>
   have I:(if B.hd b=true then none else H b)=some u:=e;rw[q,av rfl]at I;cases I
 rw[gS (by rwa[ud L])];exact s b u r,λb j e=>by
 have L:b≠p:=λz=>by rw[z]at e;rw[show(bK B H).ix p=B.ix p from rfl,S]at e;cases e
 show(pX B p i).ix b=some j;rwa[iq L]⟩
theorem HA.push (h:HA K B A H)(hp:H p=none)(s:aG H H')(ho:rY K (pX B p A.length) H' p o):Grows B H (pX B p A.length) H'/\HA K (pX B p A.length) (A++[o]) H':=by
 have hx:=h.free hp;have I:eW (bK B H) (bK (pX B p A.length) H'):=Jb hp hx s;have up:∀{a:Addr} {u:Ao},a≠p->rY K B H a u->rY K (pX B p A.length) H' a u:=λ{a u} jM q=>by
  have M:(pX B p A.length).hd a=true:=by rw[ud jM];exact q.hd
  cases u with
  |lst ts=>obtain⟨h0,vs,h1,h2⟩:=q;exact⟨M,vs,s _ _ h1,h2.same I⟩
  |bh aS=>obtain⟨h0,vs,h1,h2⟩:=q;exact⟨M,vs,s _ _ h1,h2.same I⟩
  |vm aS=>obtain⟨h0,vs,h1,h2,h3⟩:=q;exact⟨M,vs,s _ _ h1,h2,h3.same I⟩
  |DJ x=>obtain⟨h0,oe,h1,h2⟩:=q;exact⟨M,oe,s _ _ h1,h2⟩
  |ins c fs=>
   obtain⟨h0,dx,g6,h1,h2,h3,h4,h5⟩:=q;exact⟨M,dx,g6,s _ _ h1,s _ _ h2,by rwa[iq (cp h2 hp)],h4,h5.same I⟩
 refine⟨⟨I,λb u _ e=>s b u e,λb _ e=>?_,λb i e n=>?_⟩,⟨λb e=>?_,λi u e=>?_,λa b i r L=>?_,λa i e=>?_⟩⟩
 .show(B.hd b||b==p)=true;rw[e,sY]
 .by_cases q:b=p
  .rwa[q]
  .rw[iq q,n]at e;cases e
 .by_cases q:b=p
  .rw[q];obtain⟨x,L,_⟩:=ho.mem;exact⟨x,L⟩
  .rw[ud q]at e;obtain⟨x,L⟩:=h.hb b e;exact⟨x,s _ _ L⟩
 .by_cases q:i<A.length
  .rw[sG q]at e;obtain⟨a,r,L⟩:=h.ob i u e;have jM:a≠p:=λz=>by rw[z,hx]at r;cases r
   exact⟨a,by rwa[iq jM],up jM L⟩
  .rw[wB (Nat.le_of_not_lt q)]at e;have hi:i - A.length=0:=by
    cases z:i - A.length with
    |zero=>rfl
    |succ k=>rw[z]at e;cases e
   rw[hi]at e;cases e;have:i=A.length:=∎
   subst this;exact⟨p,ip,ho⟩
 .by_cases q1:a=p
  .by_cases S:b=p
   .rw[q1,S]
   .rw[q1,ip]at r;cases r;rw[iq S]at L;exact absurd (h.lt b _ L) (eN _)
  .by_cases S:b=p
   .rw[S,ip]at L;cases L;rw[iq q1]at r;exact absurd (h.lt a _ r) (eN _)
   .rw[iq q1]at r;rw[iq S]at L;exact h.inj a b i r L
 .rw[di,List.length_singleton];by_cases q:a=p
  .rw[q,ip]at e;cases e;exact sS _
  .rw[iq q]at e;exact wZ (h.lt a i e)
def jg{B:eX}(h:B.hd a=true):bK B (upd H a u)=bK B H:=by
 unfold bK;congr 1;funext b;by_cases q:b=a
 .subst q;rw[av h,av h]
 .rw[aM q]
def HA.write (h:HA K B A H)(e:B.ix a=some i)(S:rY K B (upd H a u) a o):Grows B H B (upd H a u)/\HA K B (A.set i o) (upd H a u):=by
 have hd:B.hd a=true:=S.hd;have r:bK B (upd H a u)=bK B H:=jg hd;refine⟨⟨by rw[r];exact eW.refl _,λb x n q=>?_,λ_ _ q=>q,λb j q n=>by rw[n]at q;cases q⟩,⟨λb q=>?_,λj x q=>?_,h.inj,λb j q=>by rw[kB];exact h.lt b j q⟩⟩
 .have L:b≠a:=λz=>by rw[z,e]at n;cases n
  rwa[aM L]
 .by_cases z:b=a
  .subst z;exact⟨u,bp⟩
  .rw[aM z];exact h.hb b q
 .rcases fx q with⟨rfl,_,rfl⟩|⟨Br,q⟩
  .exact⟨a,e,S⟩
  .obtain⟨b,M,I⟩:=h.ob j x q;have L:b≠a:=λz=>by rw[z,e]at M;cases M;exact Br rfl
   refine⟨b,M,?_⟩;cases x with
   |lst ts=>obtain⟨h0,vs,h1,h2⟩:=I;exact⟨h0,vs,by rwa[aM L],by rwa[r]⟩
   |bh aS=>obtain⟨h0,vs,h1,h2⟩:=I;exact⟨h0,vs,by rwa[aM L],by rwa[r]⟩
   |vm aS=>obtain⟨h0,vs,h1,h2,h3⟩:=I;exact⟨h0,vs,by rwa[aM L],h2,by rwa[r]⟩
   |DJ x=>obtain⟨h0,oe,h1,h2⟩:=I;exact⟨h0,oe,by rwa[aM L],h2⟩
   |ins c fs=>
    obtain⟨h0,dx,g6,h1,h2,h3,h4,h5⟩:=I;have XB:dx≠a:=λz=>by rw[z,e]at h3;cases h3
    exact⟨h0,dx,g6,by rwa[aM L],by rwa[aM XB],h3,h4,by rwa[r]⟩
mutual
def lq:Tr->Bool
 |.at _=>false
 |.tup ts=>ff ts
 |.lst ts=>ff ts
 |.bh aS=>zq aS
 |.vm aS=>FT aS
 |.ob _ fs=>FU fs
 |_=>true
def ff:List Tr->Bool
 |[]=>true
 |t::ts=>lq t&&ff ts
def zq:List (Key×Tr)->Bool
 |[]=>true
 |p::r=>Jc p&&zq r
def Jc:Key×Tr->Bool
 |(_,t)=>lq t
def FT:List (List Key×Tr)->Bool
 |[]=>true
 |p::r=>Oi p&&FT r
def Oi:List Key×Tr->Bool
 |(_,t)=>lq t
def FU:List (Str×Tr)->Bool
 |[]=>true
 |p::r=>Oj p&&FU r
def Oj:Str×Tr->Bool
 |(_,t)=>lq t
end
theorem zr:∀(aS:List (Key×Tr)),zq aS=ff (aS.map (·.2))
 |[]=>rfl
 |(k,t)::r=>by rw[zq,Jc,a_,ff,zr r]
theorem zt:∀(aS:List (List Key×Tr)),FT aS=ff (aS.map (·.2))
 |[]=>rfl
 |(k,t)::r=>by rw[FT,Oi,a_,ff,zt r]
theorem zu:∀(aS:List (Str×Tr)),FU aS=ff (aS.map (·.2))
 |[]=>rfl
 |(k,t)::r=>by rw[FU,Oj,a_,ff,zu r]
mutual
noncomputable def G9:Tr->Bool
 |.bM=>true
 |.bl _=>true
 |.int _=>true
 |.str _=>true
 |.ty _=>true
 |.at _=>true
 |.tup ts=>jy ts
 |_=>false
noncomputable def jy:List Tr->Bool
 |[]=>true
 |t::ts=>G9 t&&jy ts
end
def aF:Nat->Ab->Tr->Tr
 |0,_,t=>t
 |n+1,A,.at i=>match A[i]? with
  |some (.lst ts)=>.lst (ts.map (aF n A))
  |some (.bh aS)=>.bh (aS.map λp=>(p.1,aF n A p.2))
  |some (.vm aS)=>.vm (aS.map λp=>(p.1,aF n A p.2))
  |some (.ins c fs)=>.ob c (fs.map λp=>(p.1,aF n A p.2))
  |some (.DJ x)=>.zc x
  |none=>.at i
 |_+1,_,t=>t
def eX.un (B:eX):eX:=⟨λb=>B.hd b&&(B.ix b).isNone,B.ix⟩
def Ol{B:eX}:vn B.un B:=⟨λb e=>by
 have L:(B.hd b&&(B.ix b).isNone)=true:=e;rw[bg]at L;exact L.1,λ_ _ e=>e⟩
def iT:eW (bK B H) (bK B.un H):=xM Ol
def Cm(h:HB B H):HB B.un H:=λb e=>h b (Ol.hd b e)
def Cn{B:eX}(e:B.ix a=some i):(bK B.un H).H a=H a:=gS (by show(B.hd a&&(B.ix a).isNone)=false;rw[e];exact sV _)
theorem ng{f:Tr->Tr}(h:∀{v t},Rep K W v t->Rep K W' v (f t)):∀{vs:List V} {ts:List Tr},bb K W vs ts->bb K W' vs (ts.map f)
 |[],_,r=>by cases r;exact .nil
 |_::_,_,r=>by cases r with|cons h1 r=>exact .cons (h h1) (ng h r)
theorem ir(I:HA K B A H):∀(n:Nat) {v:V} {t:Tr},Rep K (bK B H) v t->Rep K (bK B.un H) v (aF n A t)
 |0,v,t,r=>by rw[aF];exact r.same iT
 |n+1,v,t,r=>by
  cases r with
  |@«at» a i h=>
   have e:B.ix a=some i:=h;obtain⟨o,q,L⟩:=I.ex e;rw[aF,q];cases o with
   |lst ts=>
    obtain⟨h0,vs,h1,h2⟩:=L;exact .lst (by rwa[Cn e]) (ng (λr=>ir I n r) h2)
   |bh aS=>
    obtain⟨h0,kvs,h1,h2⟩:=L;refine .bh (.inl (by rwa[Cn e])) (by rw[h2.keys,cg];rfl) ?_
    have:=ng (λr=>ir I n r) h2.vals;rw[cg]at this⊢;exact this
   |DJ x=>obtain⟨h0,oe,h1,h2⟩:=L;exact .zc (by rwa[Cn e]) h2
   |vm aS=>
    obtain⟨h0,kvs,h1,h2,h3⟩:=L;refine .vm (by rwa[Cn e]) (by rw[h2,cg];rfl) ?_
    have:=ng (λr=>ir I n r) h3;rw[cg]at this⊢;exact this
   |ins c fs=>
    obtain⟨h0,dx,g6,h1,h2,h3,h4,M⟩:=L;refine .ob (by rwa[Cn e]) (by rw[h4,cg];rfl) ?_
    have:=ng (λr=>ir I n r) M;rw[cg]at this⊢;exact this
  |bM=>exact .bM
  |bl b=>exact .bl b
  |int i=>exact .int i
  |str z h=>exact .str z h
  |ty m=>exact .ty m
  |uI h=>exact .uI (iT.h.seq h)
  |tup h r=>exact .tup (iT.h.tup h) (r.same iT)
  |lst h r=>exact .lst (iT.h _ _ h) (r.same iT)
  |bh h e r=>exact .bh (h.same iT.h) e (r.same iT)
  |vm h e r=>exact .vm (iT.h _ _ h) e (r.same iT)
  |ob h e r=>exact .ob (iT.h _ _ h) e (r.same iT)
  |zc h c=>exact .zc (iT.h _ _ h) c
def Ql(r:HA K B A H)(e:(bK B.un H).H a=some x)(I:(∃vs,x=.tup vs)\/∃o u,x=.ll o u):(bK B H).H a=some x:=by
 have M:=bz a x e;cases q:B.hd a with
 |false=>rwa[gS q]
 |true=>
  cases z:B.ix a with
  |none=>
   have L:(if B.un.hd a=true then none else H a)=some x:=e;rw[show B.un.hd a=(B.hd a&&(B.ix a).isNone)from rfl,q,z]at L;cases L
  |some i=>
   obtain⟨o,_,S⟩:=r.ex z;obtain⟨y,b,n1,n2⟩:=S.mem;rw[M]at b;cases b;rcases I with⟨vs,rfl⟩|⟨o,u,rfl⟩
   .exact absurd rfl (n1 vs)
   .exact absurd rfl (n2 o u)
structure nh(W W':Vw):Prop where
 h:∀a x,W.H a=some x->((∃vs,x=.tup vs)\/∃o u,x=.ll o u)->W'.H a=some x
 x:∀a i,W.ix a=some i->W'.ix a=some i
theorem nh.un (b:HA K B A H):nh (bK B.un H) (bK B H):=⟨λa x e L=>Ql b e L,λ_ _ e=>e⟩
def nh.trans (a:nh W W1)(b:nh W1 W2):nh W W2:=⟨λc x e L=>b.h c x (a.h c x e L) L,λc i e=>b.x c i (a.x c i e)⟩
def nh.new {B:eX}{H:Hp}{p:Addr}{i:Nat}{x:HO}(I:B.ix p=none)(M:H p=some x)(S:∀vs,x≠ .tup vs)(n2:∀o u,x≠ .ll o u):nh (bK B H) (bK (pX B p i) H):=⟨λa y e hy=>by
 have L:=bz a y e;have b:a≠p:=λz=>by
  rw[z,M]at L;cases L;rcases hy with⟨vs,z⟩|⟨o,u,z⟩
  .exact S vs z
  .exact n2 o u z
 have hB:B.hd a=false:=by
  cases q:B.hd a with
  |false=>rfl
  |true=>
   have r:(if B.hd a=true then none else H a)=some y:=e;rw[q,av rfl]at r;cases r
 rw[gS (by rw[ud b];exact hB)];exact L,λa j e=>by
 have b:a≠p:=λz=>by rw[z]at e;rw[show(bK B H).ix p=B.ix p from rfl,I]at e;cases e
 show(pX B p i).ix a=some j;rw[iq b];exact e⟩
def FV(s:nh W W')(h:Rep K W v t):G9 t=true->Rep K W' v t:=by
 refine Rep.rec (motive_1:=λv t _=>G9 t=true->Rep K W' v t) (motive_2:=λvs ts _=>jy ts=true->bb K W' vs ts) ?_ ?_ ?_ ?_ ?_ ?_ ?_ ?_ ?_ ?_ ?_ ?_ ?_ ?_ ?_ h
 .exact λ_=>.bM
 .exact λb _=>.bl b
 .exact λi _=>.int i
 .exact λz h _=>.str z h
 .exact λn _=>.ty n
 .exact λh f=>nomatch f
 .intro a vs ts h _ L f;refine .tup ?_ (L f)
  rcases h with(h|⟨o,h⟩)|h
  .exact .inl (.inl (s.h _ _ h (.inl ⟨_,rfl⟩)))
  .exact .inl (.inr ⟨o,s.h _ _ h (.inr ⟨_,_,rfl⟩)⟩)
  .exact .inr h
 .exact λh _ _ f=>nomatch f
 .exact λh _ _ _ f=>nomatch f
 .exact λh _=>.at (s.x _ _ h)
 .exact λh _ _ _ f=>nomatch f
 .exact λh _ _ _ f=>nomatch f
 .exact λh c f=>nomatch f
 .exact λ_=>.nil
 .intro v t vs ts _ _ q r f;rw[jy,bg]at f;exact .cons (q f.1) (r f.2)
theorem ue(s:nh W W'):∀{vs:List V} {ts:List Tr},bb K W vs ts->jy ts=true->bb K W' vs ts
 |[],_,r,_=>by cases r;exact .nil
 |_::_,_,r,f=>by
  cases r with
  |cons h r=>
   rw[jy,bg]at f;exact .cons (FV s h f.1) (ue s r f.2)
def uR(b:HA K B A H)(h:Rep K (bK B.un H) v t)(f:G9 t=true):Rep K (bK B H) v t:=FV (.un b) h f
def Rep.Jd {W W':Vw}(s:aG W.H W'.H)(h:Rep K W v t):lq t=true->Rep K W' v t:=by
 refine Rep.rec (motive_1:=λv t _=>lq t=true->Rep K W' v t) (motive_2:=λvs ts _=>ff ts=true->bb K W' vs ts) ?_ ?_ ?_ ?_ ?_ ?_ ?_ ?_ ?_ ?_ ?_ ?_ ?_ ?_ ?_ h
 .exact λ_=>.bM
 .exact λb _=>.bl b
 .exact λi _=>.int i
 .exact λz h _=>.str z h
 .exact λn _=>.ty n
 .exact λh _=>.uI (s.seq h)
 .exact λh _ L f=>.tup (s.tup h) (L f)
 .exact λh _ L f=>.lst (s _ _ h) (L f)
 .intro a kvs aS h e _ L f;refine .bh (Rd.same s h) e (L ?_);rw[lq,zr]at f;exact f
 .exact λh f=>nomatch f
 .intro a kvs aS h e _ L f;refine .vm (s _ _ h) e (L ?_);rw[lq,zt]at f;exact f
 .intro a c dx I fs h e _ L f;refine .ob (s _ _ h) e (L ?_);rw[lq,zu]at f;exact f
 .exact λh c _=>.zc (s _ _ h) c
 .exact λ_=>.nil
 .intro v t vs ts _ _ q r f;rw[ff,bg]at f;exact .cons (q f.1) (r f.2)
theorem bb.Jd {W W':Vw}(s:aG W.H W'.H):∀{vs:List V} {ts:List Tr},bb K W vs ts->ff ts=true->bb K W' vs ts
 |[],_,r,_=>by cases r;exact .nil
 |_::_,_,r,f=>by
  cases r with
  |cons h r=>
   rw[ff,bg]at f;exact .cons (h.Jd s f.1) (bb.Jd s r f.2)
def Ul(A:Ab):Cell->Cell
 |.sh t=>.sh (aF 5 A t)
 |c=>c
def dJ(A:Ab)(Y:bS):bS:=Y.map (Ul A)
theorem bU.Qm (b:HA K B A H)(n:fA Y)(h:bU K B H Z Y):bU K B.un H Z (dJ A Y):=by
 have no:∀i ts,(dJ A Y)[i]? ≠some (Cell.ow ts):=λi ts e=>by
  unfold dJ at e;rw[bW]at e;cases q:Y[i]? with
  |none=>rw[q]at e;cases e
  |some c=>
   rw[q]at e;cases c with
   |no=>cases e
   |sh t=>cases e
   |ow us=>exact n i us q
 refine⟨by unfold dJ;rw[aP];exact h.len,λi t e=>?_,λi ts e=>absurd e (no i ts),λi j ts us D _ e=>absurd e (no i ts)⟩;unfold dJ at e;rw[bW]at e;cases q:Y[i]? with
 |none=>rw[q]at e;cases e
 |some c=>
  rw[q]at e;cases c with
  |no=>cases e
  |ow us=>exact absurd q (n i us)
  |sh u=>
   obtain⟨v,L,r⟩:=h.sh i u q;have I:aF 5 A u=t:=by
    have M:=Option.some.inj e;exact(Cell.sh.inj M)
   rw[<-I];exact⟨v,L,ir b 5 r⟩
def bU.grow (h:bU K B H Z Y)(n:fA Y)(g:Grows B H B' H'):bU K B' H' Z Y:=
 ⟨h.len,λi t e=>by obtain⟨v,L,r⟩:=h.sh i t e;exact⟨v,L,r.same g.jv⟩,λi ts e=>absurd e (n i ts),λi j ts us D _ e=>absurd e (n i ts)⟩
theorem cB.get (x:cB P w H h a o):∃u,h.get? a=some u:=by
 cases o with
 |lst xs=>obtain⟨_,_,_,_,e⟩:=x;exact⟨_,e⟩
 |tup xs=>obtain⟨_,_,_,o,e,_⟩:=x;exact⟨o,e⟩
 |dK kvs=>obtain⟨_,_,_,_,o,_,_,e,_⟩:=x;exact⟨o,e⟩
 |dT kvs=>obtain⟨_,_,_,_,o,_,_,e,_⟩:=x;exact⟨o,e⟩
 |set S n=>obtain⟨o,_,_,_,e,_⟩:=x;exact⟨o,e⟩
 |ins C dx fs=>obtain⟨_,_,_,e,_⟩:=x;exact⟨_,e⟩
 |own y=>exact x
 |xd fs=>obtain⟨_,⟨_,_,_,e,_⟩,_⟩:=x;exact⟨_,e⟩
 |Lf lo hi=>obtain⟨_,_,_,e⟩:=x;exact⟨_,e⟩
 |ll L u=>obtain⟨e,_⟩:=x;exact⟨_,e⟩
 |NL ps=>exact⟨_,(show h.get? a=some _ from x)⟩
 |met f y=>exact⟨_,(show h.get? a=some _ from x)⟩
 |ext b=>obtain⟨_,e,_⟩:=x;exact e
structure Om(h0:Heap)(H:Hp)(h:Heap)(a:Addr)(cls:Value):Prop where
 ob:∃oe vs a0,h.get? a=some oe/\oe.cls=cls/\oe.data=.fields vs/\vs[0]?=some a0/\
  (vs[1]?=some .none\/∃T oT ts,vs[1]?=some (.ref T)/\T≠a/\h0.get? T=none/\H T=none/\h.get? T=some oT/\oT.data=.fields ts/\ts[3]?=some .none)
 fr:H a=none
 nw:h0.get? a=none
def XS(X:Cx)(H:Hp)(cls e:Value)(s:Shared):Prop:=∃a U Z h0,e=.ref a/\Inv X U Z H s/\Om h0 H s.heap a cls/\(∀b,h0.get? b=none->X.hU.heap.get? b=none)/\(∀p∈X.pn,∃o,h0.get? p.1=some o)/\∀b,s.heap.get? b=none->h0.get? b=none
def EX(X:Cx):XK:=λcls _ H=>∀e s,XS X H cls e s->X.xe e s
def zv(P:Program)(w:World):Ly:=λouter H s E e L=>∃a cls H',e=.ref a/\L.os=s.os/\AllBare L.gens/\Un (jK outer) [] H H' s.heap L.heap/\rP P w H' L.heap/\Om s.heap H' L.heap a cls/\E cls none H'
def Om.Um {h0:Heap}(u:Om h1 H h a cls)(k:∀b,h1.get? b=none->h0.get? b=none):Om h0 H h a cls:=by
 obtain⟨⟨q,vs,a0,r,I,M,S,L⟩,f,n⟩:=u;refine⟨⟨q,vs,a0,r,I,M,S,?_⟩,f,k a n⟩;rcases L with L|⟨T,oT,ts,q1,q2,q3,q4⟩
 .exact .inl L
 .exact .inr ⟨T,oT,ts,q1,q2,k T q3,q4⟩
def Inv.Co (I:Inv X U Z H s)(r:X.ex=[]){b:Addr}(n:s.heap.get? b=none):X.hU.heap.get? b=none:=by
 cases q:X.hU.heap.get? b with
 |none=>rfl
 |some o=>
  obtain⟨L,e⟩:=I.base.there b o q (by rw[r];simp);rw[n]at e;cases e
def nj{X:Cx}(r:X.ex=[]):Passes (zv X.prog X.w) X (EX X):=by
 intro U Z H s e s' I z;obtain⟨a,cls,H',rfl,os,bare,un,cy,FW,q⟩:=z;have ce:CE X.stack X.prog X.w H s (λ_ H2=>H2=H') .none s':=⟨.bM,H',os,bare,un,cy,rfl,rfl⟩;obtain⟨v,H2,L,_,rfl⟩:=I.after ce;exact q (.ref a) s' ⟨a,U,Z,s.heap,rfl,L,FW,λb n=>I.Co r n,λp M=>⟨_,(I.pin p (jX _ M)).1⟩,λb n=>by
  cases z:s.heap.get? b with
  |none=>rfl
  |some o=>obtain⟨S,e⟩:=un.there b o z *...*;rw[n]at e;cases e⟩
theorem Je(x:XS (oX (zv P w) P w K mg base N qual scope f cd A outer s H E) H' cls e s')(q:E cls none H'):(oX (zv P w) P w K mg base N qual scope f cd A outer s H E).xe e s':=by
 obtain⟨a,U,Z,h00,rfl,I,XF,old,_,_⟩:=x;have FW:=XF.Um (h0:=s.heap) old;obtain⟨⟨oe,vs,a0,he,z7,hd,h0,h1⟩,fr,nw⟩:=FW
 let env:=envOfC qual scope `a f cd
 have Zj:(A.deeper env).frames=some (env::outer):=I.ok.frames;have hk:s'.heap.FunFrames base (env::outer):=I.stack;have Sv:∀L∈jK (env::outer),H' L=none/\∃o,s'.heap.get? L=some o/\∀ws,o.data≠ .fields ws:=λL hL=>⟨I.v5 L hL,(hk.mem hL).2⟩;have haf:a∉jK (env::outer):=λm=>by
  obtain⟨_,o,r,M⟩:=Sv a m;rw[he]at r;cases r;exact M vs hd
 have fin:∀(hs:List Addr) (h':Heap),(∀b∈hs,H' b=none/\(b∈jK (env::outer)\/s.heap.get? b=none))->(∀b∈jK (env::outer),b∈hs)->a∈hs->(∀b∈hs,b∈jK (env::outer)\/b=a\/H' b=none)->
   Heap.LeftW (PySem.W.hideAll s'.heap hs) (env::outer) a cls a0 s'.heap h'->zv P w outer H s E (.ref a) {s' with heap:=h'}:=by
  intro hs h' hh aag aah _ ⟨k1,k2,k3,k4⟩;have kp:∀b o,b∉hs->s'.heap.get? b=some o->h'.get? b=some o:=λb o nb e=>k1 b o (qD _ e nb);have old:∀b o,s.heap.get? b=some o->b∉jK outer->b∉hs:=λb o e S m=>by
   rcases(hh b m).2 with z|z
   .unfold jK at z;rw[pd]at z;have z':b∈`a::jK outer:=z;rcases aZ.mp z' with z'|z'
    .exact absurd (bC e) (by rw[z'];exact eN _)
    .exact S z'
   .rw[e]at z;cases z
  have sl:∀b o,s'.heap.get? b=some o->b∈jK outer->∃sl,h'.get? b=some {o with slots:=sl}:=λb o e m=>by
   obtain⟨_,o2,M,S⟩:=Sv b (by unfold jK at m⊢;rw[pd];exact bG _ m);rw[e]at M;cases M;exact k4 b o e S
  have pins:Un (jK outer) [] H H' s.heap s'.heap:=I.base;refine⟨a,cls,H',rfl,I.os,I.bare,⟨λb o e n S nx=>?_,λb o e n m nx=>?_,pins.free,λb o e nx=>?_,pins.oW,pins.mZ,pins.pL⟩,λb o e=>?_,⟨?_,fr,nw⟩,q⟩
  .exact kp b o (old b o e S) (pins.keep b o e n S nx)
  .obtain⟨s1,r⟩:=pins.slot b o e n m nx;obtain⟨s2,M⟩:=sl b _ r m;exact⟨s2,M⟩
  .obtain⟨o1,r⟩:=pins.there b o e nx;by_cases m:b∈jK outer
   .obtain⟨s2,M⟩:=sl b o1 r m;exact⟨_,M⟩
   .exact⟨o1,kp b o1 (old b o e m) r⟩
  .refine(I.cy b o e).tB (λc u hc z=>kp c u (λm=>?_) z) (λ_ z=>z) λ_ _ z=>z;have n:=(hh c m).1;rcases hc with rfl|hc
   .rw[n]at e;cases e
   .rw[n]at hc;cases hc
  .obtain⟨oe2,XG,T,oT,ts,q1,⟨q2,q3⟩,q4,q5,q6,q7,q8,q9,XH⟩:=k3;refine⟨oe2,XG,a0,q1,q2,q4,q3,.inr ⟨T,oT,ts,q5,q7,?_,?_,q8,q9,XH⟩⟩
   .by_cases m:T∈hs
    .rcases(hh T m).2 with z|z
     .obtain⟨o3,e3,n3⟩:=(k2.mem z).2;rw[q8]at e3;cases e3;exact absurd q9 (n3 ts)
     .exact z
    .cases z:s.heap.get? T with
     |none=>rfl
     |some o=>
      obtain⟨o1,r⟩:=pins.there T o z *...*;rw[qD _ r m]at q6;cases q6
   .by_cases m:T∈hs
    .exact(hh T m).1
    .cases z:H' T with
     |none=>rfl
     |some o=>
      obtain⟨u,r⟩:∃u,s'.heap.get? T=some u:=(I.cy T o z).get;rw[qD _ r m]at q6;cases q6
 have rV:∀e∈(env::outer),∀b,e.frame=some b->b∈jK (env::outer):=λe he b hb=>nG.mpr ⟨e,he,hb⟩;show wpAny (model P w) (A.deeper env) (leaving env (.ref a)) (λ_ Pk=>zv P w outer H s E (.ref a) Pk) _ s';rcases h1 with h1|⟨T,oT,ts,h1,XI,XJ,Wc,hT,Wd,h3⟩
 .let hs:=a::jK (env::outer)
  refine wpAny_leaving_firstW (base:=PySem.W.hideAll s'.heap hs) Zj (o_ hk λe he b hb=>bG _ (rV e he b hb)) rfl he (λb o z=>mK _ z) (lA _ (bF ..)) hd h1 h0 λh' hL=>?_
  rw[z7]at hL;refine fin hs h' (λb m=>?_) (λb m=>bG _ m) (bF ..) (λb m=>?_) hL
  .rcases aZ.mp m with rfl|m
   .exact⟨fr,.inr nw⟩
   .exact⟨(Sv b m).1,.inl m⟩
  .rcases aZ.mp m with rfl|m
   .exact .inr (.inl rfl)
   .exact .inl m
 .let hs:=a::T::jK (env::outer)
  refine wpAny_leaving_nextW (base:=PySem.W.hideAll s'.heap hs) (cls:=cls) (a0:=a0) Zj (o_ hk λe he b hb=>bG _ (bG _ (rV e he b hb))) rfl
   ⟨oe,vs,T,oT,ts,he,⟨z7,h0⟩,hd,h1,lA _ (bG _ (bF ..)),XI,hT,Wd,h3⟩ (λb o z=>mK _ z) (lA _ (bF ..)) λh' hL=>?_
  refine fin hs h' (λb m=>?_) (λb m=>bG _ (bG _ m)) (bF ..) (λb m=>?_) hL
  .rcases aZ.mp m with rfl|m
   .exact⟨fr,.inr nw⟩
   .rcases aZ.mp m with rfl|m
    .exact⟨Wc,.inr XJ⟩
    .exact⟨(Sv b m).1,.inl m⟩
  .rcases aZ.mp m with rfl|m
   .exact .inr (.inl rfl)
   .rcases aZ.mp m with rfl|m
    .exact .inr (.inr Wc)
    .exact .inl m
inductive Rz(α:Type) where
 |bad|ok (a:α) (A:Ab)|exc (c:Tr) (A:Ab)
noncomputable def Rz.bind {α β:Type}(r:Rz α)(f:α->Ab->Rz β):Rz β:=match r with
 |.ok a A=>f a A
 |.exc c A=>.exc c A
 |.bad=>.bad
def gq(b:Tr->Ab->Prop){α:Type}(r:Rz α)(k:α->Ab->Prop):Prop:=match r with
 |.ok a A=>k a A
 |.exc c A=>b c A
 |.bad=>False
def gq.mono {r:Rz α}{k k':α->Ab->Prop}(h:gq b r k)(w:∀a A,k a A->k' a A):gq b r k':=by
 cases r with
 |ok a A=>exact w a A h
 |_=>exact h
def gq.imp {r:Rz α}{k:α->Ab->Prop}{b:Tr->Ab->Prop}(h:gq xc r k)(w:∀c A,xc c A->b c A):gq b r k:=by
 cases r with
 |ok a A=>exact h
 |exc c A=>exact w c A h
 |bad=>exact h
theorem gq.bind {β:Type}{r:Rz α}{f:α->Ab->Rz β}{k:β->Ab->Prop}(h:gq b (r.bind f) k):gq b r λa A=>gq b (f a A) k:=by
 cases r with
 |_=>exact h
def kJ{α:Type}(r:Rs α)(A:Ab):Rz α:=match r with
 |.ok a=>.ok a A
 |_=>.bad
def pY{r:Rs α}{k:α->Ab->Prop}(q:gq b (kJ r A) k):Fi X H r λa=>k a A:=by
 cases r with
 |ok a=>exact q
 |exc c=>exact fe q
 |bad=>exact q
def Uo(K:Frag):Tr->Value
 |.str x=>.ref (clsAt K x)
 |_=>.none
def XE(X:Cx)(B:eX)(H:Hp):Tr->Ab->Prop:=λc A=>∀B' H',Grows B H B' H'->HA X.K B' A H'->EX X (Uo X.K c) none H'
def XE.grow (hb:HB B H)(h:XE X B H c A)(g:Grows B H B' H'):XE X B' H' c A:=λB2 H2 g2 L=>h B2 H2 (g.trans hb g2) L
inductive tE(X:Cx)(F:bS->Ab->Rz Tr)(Z:St)(H:Hp)(Q:VK):Prop
 |mk (B:eX) (A:Ab) (Y:bS):HA X.K B A H->bU X.K B H Z Y->fA Y->(gq (XE X B H) (F Y A) λt A'=>∀v B' H',Grows B H B' H'->HA X.K B' A' H'->Rep X.K (bK B' H') v t->Q v H')->tE X F Z H Q
structure ZE(X:Cx)(e:Expr)(F:bS->Ab->Rz Tr):Prop where
 h:PE X e (tE X F)
structure ZO(X:Cx)(e:Expr)(F:bS->Ab->Rz Tr):Prop where
 h:PE X e (tE X F)
inductive XM(X:Cx)(F:bS->Ab->Rz Bool)(Z:St)(H:Hp)(Q:Bool->Hp->Prop):Prop
 |mk (B:eX) (A:Ab) (Y:bS):HA X.K B A H->bU X.K B H Z Y->fA Y->(gq (XE X B H) (F Y A) λb A'=>∀B' H',Grows B H B' H'->HA X.K B' A' H'->Q b H')->XM X F Z H Q
structure ZT(X:Cx)(e:Expr)(F:bS->Ab->Rz Bool):Prop where
 h:PT X e (XM X F)
inductive Sw(X:Cx)(F:bS->Ab->Rz (List Tr))(Z:St)(H:Hp)(Q:List V->Hp->Prop):Prop
 |mk (B:eX) (A:Ab) (Y:bS):HA X.K B A H->bU X.K B H Z Y->fA Y->(gq (XE X B H) (F Y A) λts A'=>∀vs B' H',Grows B H B' H'->HA X.K B' A' H'->bb X.K (bK B' H') vs ts->Q vs H')->Sw X F Z H Q
structure ZL(X:Cx)(e:List Expr)(F:bS->Ab->Rz (List Tr)):Prop where
 h:PA X e (Sw X F)
def Qn(H H':Hp)(p:Addr):Prop:=H p=none/\∀o u,H' p≠some (.ll o u)
theorem Qn.lst {H:Hp}(h:H p=none)(r:Rep K (bK B H') (.ref p) (.lst ts)):Qn H H' p:=by
 cases r with
 |lst e _=>exact⟨h,λo u z=>by rw[bz _ _ e]at z;cases z⟩
theorem Qn.upd {H:Hp}{x:HO}(h:H p=none)(b:∀o u,x≠ .ll o u):Qn H (L2.upd H1 p x) p:=⟨h,λo u z=>by rw[bp]at z;cases z;exact b _ _ rfl⟩
inductive tF(X:Cx)(F:bS->Rs Tr)(Z:St)(H:Hp)(Q:VK):Prop
 |mk (B:eX) (Y:bS):HB B H->bU X.K B H Z Y->(Fi X H (F Y) λt=>∀v H',aG H H'->Rep X.K (bK B H') v t->(∀p,v=.ref p->Qn H H' p)->Q v H')->tF X F Z H Q
structure NE(X:Cx)(e:Expr)(F:bS->Rs Tr):Prop where
 h:PE X e (tF X F)
def mH(r:Rs Tr)(A:Ab):Rz Tr:=match r with
 |.ok t=>if G9 t=true then .ok t A else .bad
 |_=>.bad
def uS(r:Rs Tr)(A:Ab):Rz Tr:=match r with
 |.ok (.lst ts)=>if jy ts=true then .ok (.at A.length) (A++[.lst ts])else .bad
 |.ok (.bh aS)=>if jy (aS.map (·.2))=true then .ok (.at A.length) (A++[.bh aS])else .bad
 |.ok (.vm aS)=>if jy (aS.map (·.2))=true then .ok (.at A.length) (A++[.vm aS])else .bad
 |_=>.bad
def N_p(h:NE X e F):QE X e F:=⟨h.h.weak λZ H Q ⟨B,Y,hb,r,q⟩=>⟨B,Y,hb,r,q.mono λt k v H' s L _=>k v H' s L⟩⟩
def Cp{F:bS->Rs Tr}(q:tE X (λY A=>kJ (F Y) A) Z H Q):tP X F Z H Q:=by
 obtain⟨B,A,Y,ha,r,_,q⟩:=q;exact⟨B,Y,ha.hb,r,(pY q).mono λt L v H' s b=>L v B H' (.of s) (ha.same s) b⟩
def au(h:QE X e F):ZE X e (λY A=>kJ (F Y) A):=⟨h.h.weak λZ H Q q=>Cp q⟩
def az(h:QE X e F):ZE X e (λY A=>mH (F (dJ A Y)) A):=⟨h.h.weak λZ H Q ⟨B,A,Y,ha,r,n,q⟩=>⟨B.un,dJ A Y,Cm ha.hb,r.Qm ha n,by
  have q:gq (XE X B H) (mH (F (dJ A Y)) A) _:=q;cases e:F (dJ A Y)with
  |bad=>rw[e]at q;exact q
  |exc c=>rw[e]at q;exact fe q
  |ok t=>
   rw[e]at q;intro v H' s b;by_cases f:G9 t=true
   .have L:gq _ (if G9 t=true then Rz.ok t A else .bad) _:=q;rw[av f]at L;exact L v B H' (.of s) (ha.same s) (uR (ha.same s) b f)
   .have L:gq _ (if G9 t=true then Rz.ok t A else .bad) _:=q;rw[aA f]at L;exact fe L⟩⟩
def ba(h:QT X e P):ZT X e (λY A=>kJ (P (dJ A Y)) A):=⟨h.h.weak λZ H Q ⟨B,A,Y,ha,r,n,q⟩=>⟨B.un,dJ A Y,Cm ha.hb,r.Qm ha n,(pY q).mono λt L H' s=>L B H' (.of s) (ha.same s)⟩⟩
def g7{c:Prop}[Decidable c]{r:Rz α}{k:α->Ab->Prop}(h:gq b (if c then r else .bad) k):c/\gq b r k:=by
 by_cases q:c
 .rw[av q]at h;exact⟨q,h⟩
 .rw[aA q]at h;exact fe h
def rZ{F:bS->Rs Tr}(q:tE X (λY A=>uS (F (dJ A Y)) A) Z H Q):tF X F Z H Q:=by
  obtain⟨B,A,Y,ha,r,n,q⟩:=q;refine⟨B.un,dJ A Y,Cm ha.hb,r.Qm ha n,?_⟩;have q:gq (XE X B H) (uS (F (dJ A Y)) A) _:=q;cases e:F (dJ A Y)with
  |bad=>rw[e]at q;exact q
  |exc c=>rw[e]at q;exact fe q
  |ok t=>
   rw[e]at q;intro v H' s rv fr;have M:=ha.same s;cases rv with
   |@lst p vs ts h b=>
    have L:=(fr p rfl).1;obtain⟨f,I⟩:=g7 q;have h1:H' p=some (.lst vs):=bz _ _ h;obtain⟨g,h2⟩:=ha.push (o:=.lst ts) L s ⟨qK,vs,h1,ue ((nh.un M).trans (.new (ha.free L) h1 (λ_ z=>by cases z) λ_ _ z=>by cases z)) b f⟩;exact I _ _ H' g h2 (.at ip)
   |@bh p kvs aS h S b=>
    have L:=(fr p rfl).1;obtain⟨f,I⟩:=g7 q;have h1:H' p=some (.dK kvs):=by
     rcases h.same bz with h|⟨o,h⟩
     .exact h
     .exact((fr p rfl).2 _ _ h).elim
    obtain⟨g,h2⟩:=ha.push (o:=.bh aS) L s ⟨qK,kvs,h1,S,ue ((nh.un M).trans (.new (ha.free L) h1 (λ_ z=>by cases z) λ_ _ z=>by cases z)) b f⟩;exact I _ _ H' g h2 (.at ip)
   |@vm p kvs aS h S b=>
    have L:=(fr p rfl).1;obtain⟨f,I⟩:=g7 q;have h1:H' p=some (.dT kvs):=bz _ _ h;obtain⟨g,h2⟩:=ha.push (o:=.vm aS) L s ⟨qK,kvs,h1,S,ue ((nh.un M).trans (.new (ha.free L) h1 (λ_ z=>by cases z) λ_ _ z=>by cases z)) b f⟩;exact I _ _ H' g h2 (.at ip)
   |_=>exact fe q
def fu(h:NE X e F):ZE X e (λY A=>uS (F (dJ A Y)) A):=⟨h.h.weak λZ H Q q=>rZ q⟩
def uf(X:Cx)(D:Ends)(B0:eX)(H0:Hp):Out->Ab->Prop
 |.nx Y,A=>∀L B' H',Grows B0 H0 B' H'->HA X.K B' A H'->bU X.K B' H' L Y->fA Y->D.nx L H'
 |.ret t,A=>∀v B' H',Grows B0 H0 B' H'->HA X.K B' A H'->Rep X.K (bK B' H') v t->D.rt v H'
 |.bk Y,A=>∀L B' H',Grows B0 H0 B' H'->HA X.K B' A H'->bU X.K B' H' L Y->fA Y->D.bk L H'
 |.ct Y,A=>∀L B' H',Grows B0 H0 B' H'->HA X.K B' A H'->bU X.K B' H' L Y->fA Y->D.ct L H'
inductive tZ(X:Cx)(G:bS->Ab->Rz Out)(D:Ends)(Z:St)(H:Hp):Prop
 |mk (B0:eX) (H0:Hp) (B:eX) (A:Ab) (Y:bS):HB B0 H0->Grows B0 H0 B H->HA X.K B A H->bU X.K B H Z Y->fA Y->gq (XE X B0 H0) (G Y A) (uf X D B0 H0)->tZ X G D Z H
structure ZS(X:Cx)(e:Stmt)(F:bS->Ab->Rz Out):Prop where
 h:PS X e (tZ X F)
structure ZB(X:Cx)(e:List Stmt)(F:bS->Ab->Rz Out):Prop where
 h:yF X e (tZ X F)
def Av(r:Rz Out)(G:bS->Ab->Rz Out):Rz Out:=r.bind λo A=>match o with
 |.nx Y=>G Y A
 |.ret t=>.ok (.ret t) A
 |.bk Y=>.ok (.bk Y) A
 |.ct Y=>.ok (.ct Y) A
def bZ:ZB X [] (λY A=>.ok (.nx Y) A):=⟨Fl.weak λD Z H ⟨B0,H0,B,A,Y,hb,g,ha,r,n,q⟩=>q Z B H g ha r n⟩
def aE(h1:ZS X st G)(h2:ZB X b I):ZB X (st::b) (λY A=>Av (G Y A) I):=⟨(BC h1.h h2.h).weak λD Z H ⟨B0,H0,B,A,Y,hb,g,ha,r,n,q⟩=>⟨B0,H0,B,A,Y,hb,g,ha,r,n,q.bind.mono λo M L=>by
  cases o with
  |nx fk=>exact λcU B' H' g' S r' n'=>⟨B0,H0,B',M,fk,hb,g',S,r',n',L⟩
  |ret t=>exact L
  |bk fk=>exact L
  |ct fk=>exact L⟩⟩
def aO(h1:ZS X st G):ZB X [st] G:=⟨Fm h1.h⟩
def Jf:ZE X e (λ_ _=>.bad):=⟨λ_ _ _ _ _ _ ⟨_,_,_,_,_,_,q⟩=>(show False from q).elim⟩
def pZ{X:Cx}{F:bS->Ab->Rz Tr}{B0:eX}(hb:HB B0 H0)(g:Grows B0 H0 B H)(ha:HA X.K B A H)(r:bU X.K B H Z Y)(n:fA Y)(q:gq (XE X B0 H0) (F Y A) k){Q:VK}
  (b:∀t A' v B' H',k t A'->Grows B0 H0 B' H'->HA X.K B' A' H'->bU X.K B' H' Z Y->Rep X.K (bK B' H') v t->Grows B H B' H'->Q v H'):tE X F Z H Q:=
 ⟨B,A,Y,ha,r,n,(q.imp λc A' x=>x.grow hb g).mono λt A' L v B' H' g' I M=>b t A' v B' H' L (g.trans hb g') I (r.grow n g') M g'⟩
def Qo{X:Cx}{P:bS->Ab->Rz Bool}{B0:eX}(hb:HB B0 H0)(g:Grows B0 H0 B H)(ha:HA X.K B A H)(r:bU X.K B H Z Y)(n:fA Y)(q:gq (XE X B0 H0) (P Y A) k){Q:Bool->Hp->Prop}
  (b:∀t A' B' H',k t A'->Grows B0 H0 B' H'->HA X.K B' A' H'->bU X.K B' H' Z Y->Q t H'):XM X P Z H Q:=
 ⟨B,A,Y,ha,r,n,(q.imp λc A' x=>x.grow hb g).mono λt A' L B' H' g' I=>b t A' B' H' L (g.trans hb g') I (r.grow n g')⟩
def G_(i:Nat)(r:Rz Tr)(Y:bS):Rz Out:=r.bind λt A=>.ok (.nx (Y.set i (.sh t))) A
def eY{i:Nat}(he:ZE X e F)(hN:autoParam X.N.Nodup Asz) (hi:autoParam (X.N[i]?=some x) Rfz) (b:autoParam (Loc X.env.scope x) Olz) (hs:autoParam (xN e=false) Rfz) (hf:autoParam (DH X x) Ilz):ZS X (.Assign [.Name x pos'] e pos) (λY A=>G_ i (F Y A) Y):=⟨(DP hN hi b he.h (t5 hs) hf).weak λD Z H ⟨B0,H0,B,A,Y,hb,g,ha,r,n,q⟩=>pZ hb g ha r n q.bind λt A' v B' H' L g' I M S _=>L _ B' H' g' I (M.set i S) (n.set i t)⟩
def Ha(r:Rz Tr):Rz Out:=r.bind λt A=>.ok (.ret t) A
def d_(he:ZE X e F):ZS X (.Return (some e) pos) (λY A=>Ha (F Y A)):=⟨(Ic he.h).weak λD Z H ⟨B0,H0,B,A,Y,hb,g,ha,r,n,q⟩=>pZ hb g ha r n q.bind λt A' v B' H' L g' b M I _=>L v B' H' g' b I⟩
def Qp:ZS X (.Return none pos) (λ_ A=>.ok (.ret .bM) A):=⟨Ln.weak λD Z H ⟨B0,H0,B,A,Y,hb,g,ha,r,n,q⟩=>q .bM B H g ha .bM⟩
def oF(r:Rz Tr)(Y:bS):Rz Out:=r.bind λ_ A=>.ok (.nx Y) A
def bf(he:ZE X e F)(hs:autoParam (xN e=false) Rfz):ZS X (.Expr e pos) (λY A=>oF (F Y A) Y):=⟨(Fo he.h (t5 hs)).weak λD Z H ⟨B0,H0,B,A,Y,hb,g,ha,r,n,q⟩=>pZ hb g ha r n q.bind λt A' v B' H' L g' b I M _=>L _ B' H' g' b I n⟩
def We(c:Rz Bool)(a b:Ab->Rz Out):Rz Out:=c.bind λk A=>if k then a A else b A
def dv(M:ZT X c P)(h1:ZB X ys G)(h2:ZB X ns S):ZS X (.If c ys ns pos) (λY A=>We (P Y A) (G Y) (S Y)):=⟨(NQ M.h h1.h h2.h).weak λD Z H ⟨B0,H0,B,A,Y,hb,g,ha,r,n,q⟩=>Qo hb g ha r n q.bind λk A' B' H' L g' b I=>by
  cases k with
  |true=>exact PN ⟨B0,H0,B',A',Y,hb,g',b,I,n,L⟩
  |false=>exact PM ⟨B0,H0,B',A',Y,hb,g',b,I,n,L⟩⟩
def Mw(T:xR)(r:Rz Tr)(Y:bS):Rz Out:=r.bind λt A=>(kJ (T t Y) A).bind λL A=>.ok (.nx L) A
def Jg{X:Cx}{B0:eX}(M:pR T)(hb:HB B0 H0)(g:Grows B0 H0 B H)(ha:HA X.K B A H)(r:bU X.K B H Z Y)(n:fA Y)(rv:Rep X.K (bK B H) v t)(q:gq xc (kJ (T t Y) A) k){Q:St->Hp->Prop}
  (S:∀b I H',k b A->Grows B0 H0 B H'->HA X.K B A H'->bU X.K B H' I b->fA b->aG H H'->Q I H'):tG X T v Z H Q:=by
 refine⟨B,Y,t,ha.hb,r,rv,?_⟩;cases e:T t Y with
 |ok b=>rw[e]at q;exact λI H' s L=>S b I H' q (g.trans hb (.of s)) (ha.same s) L (M t Y b n e) s
 |exc c=>rw[e]at q;exact fe q
 |bad=>rw[e]at q;exact q
def Oo(b:QG X tg T)(I:pR T)(he:ZE X e F)(hs:autoParam (swapsWithSole [tg] e b9.line X.env=pure false) Rfz) (hw:autoParam (swappedStores [tg] e X.env=pure none) Rfz) (h1:autoParam ((assignEach [tg] X.env).map (·.2)=[assign tg X.env]) Rfz):ZS X (.Assign [tg] e b9) (λY A=>Mw T (F Y A) Y):=⟨(O5 he.h b.h hs hw h1).weak λD Z H ⟨B0,H0,B,A,Y,hb,g,ha,r,n,q⟩=>pZ hb g ha r n q.bind λt A' v B' H' L g' M S rv _=>
  Jg I hb g' M S n rv (gq.bind L) λdM v7 H2 q2 g2 p4 r2 n2 _=>q2 v7 B' H2 g2 p4 r2 n2⟩
def mv(T:xR)(G:bS->Ab->Rz Out):List Tr->bS->Ab->Rz Out
 |[],Y,A=>.ok (.nx Y) A
 |t::ts,Y,A=>(kJ (T t Y) A).bind λb A=>(G b A).bind λo A=>match o with
  |.nx L=>mv T G ts L A
  |.ct L=>mv T G ts L A
  |.bk L=>.ok (.nx L) A
  |.ret t=>.ok (.ret t) A
def FX(T:xR)(G:bS->Ab->Rz Out)(l:Rz (List Tr))(Y:bS):Rz Out:=l.bind λts A=>mv T G ts Y A
theorem xX(hi:QI X tg c5 W)(hg:QG X tg T)(hT:pR T)(hb:ZB X body G)(hp:PassesOwn `c X.A X.env X.xe:=by first|exact PassesOwn.never|exact PassesOwn.leaving) (hc:autoParam (X.calm=true) Rfz) (hs:autoParam (isSet c5=false) Rfz):ZS X (.For tg c5 body [] pos) (λY A=>FX T G (kJ (W Y) A) Y):=⟨have hi:=hi.h;(DR hp hc hi hg.h hb.h (fZ hs)).weak λD Z H ⟨B0,H0,B,A,Y,Aw,g,ha,r,n,q⟩=>⟨B,Y,ha.hb,r,(pY (gq.bind q)).mono λts qt J H1 s1 gt=>by
  have g1:Grows B0 H0 B H1:=g.trans Aw (.of s1);have Qq:HB B H1:=ha.hb.same s1;refine⟨λi m cU H'=>m=ts.length - i/\i<=ts.length/\∃B' A' fk,Grows B H1 B' H'/\HA X.K B' A' H'/\bU X.K B' H' cU fk/\fA fk/\gq (XE X B0 H0) (mv T G (ts.drop i) fk A') (uf X D B0 H0),⟨_,rfl,gH _,B,A,Y,.refl,ha.same s1,r.same s1,n,qt⟩,?_⟩
  rintro i m cU H' ⟨rfl,hi,B',A',fk,g',kn,r',n',q'⟩
  by_cases hV:i<ts.length
  .rw[qB hV]at q';refine .inr ⟨gt.go i B' H' hV g'.jv kn.hb,λv7 H2=>∃B2 A2 L,Grows B H1 B2 H2/\HA X.K B2 A2 H2/\bU X.K B2 H2 v7 L/\fA L/\gq (XE X B0 H0) (mv T G (ts.drop (i+1)) L A2) (uf X D B0 H0),
    λv7 H2 x=>⟨ts.length - (i+1),∎,rfl,hV,x⟩,λx H2 hx=>?_⟩
   obtain⟨s2,t,et,rt⟩:=gt.GO i B' H' x H2 hV g'.jv kn.hb hx;have P6:ts[i]=t:=by rw[cj hV]at et;exact Option.some.inj et
   rw[P6]at q';have g2:Grows B H1 B' H2:=g'.trans Qq (.of s2);refine Jg hT Qq g2 (kn.same s2) (r'.same s2) n' rt (gq.bind q') λhW Lq H3 q1 g3 FY r3 n3 _=>?_
   refine⟨B,H1,B',A',hW,Qq,g3,FY,r3,n3,((gq.bind q1).imp λc A'' x=>x.grow Aw g1).mono λo A4 qo=>?_⟩;cases o with
   |nx L=>exact λIV b H4 I M S n4=>⟨b,A4,L,I,M,S,n4,qo⟩
   |ct L=>exact λIV b H4 I M S n4=>⟨b,A4,L,I,M,S,n4,qo⟩
   |bk L=>exact λIV b H4 I M S n4=>qo IV b H4 (g1.trans Aw I) M S n4
   |ret t=>exact λv b H4 I M S=>qo v b H4 (g1.trans Aw I) M S
  .have e:i=ts.length:=∎
   subst e;rw[pw]at q';exact .inl ⟨gt.stop B' H' g'.jv,q' cU B' H' (g1.trans Aw g') kn r' n'⟩⟩⟩
def FZ(r:Rz Tr)(l:Ab->Rz (List Tr)):Rz (List Tr):=r.bind λx A=>(l A).bind λxs A=>.ok (x::xs) A
def Jh:PA X [] (Sw X λ_ A=>.ok [] A):=xA.weak λZ H Q ⟨B,A,Y,ha,r,n,q⟩=>q [] B H .refl ha .nil
def F0(h1:PE X ag (tE X F))(b:PA X es (Sw X L))(hs:autoParam (isStar ag=false) Rfz):PA X (ag::es) (Sw X λY A=>FZ (F Y A) (L Y)):=
 (qG h1 b (bA _ _ hs)).weak λZ H Q ⟨B,A,Y,ha,r,n,q⟩=>⟨B,A,Y,ha,r,n,q.bind.mono λx I M v B1 H1 g1 S r1=>⟨B1,I,Y,S,r.grow n g1,n,((gq.bind M).imp λc A' x=>x.grow ha.hb g1).mono λxs A2 qs vs B2 H2 g2 p4 r2=>qs _ B2 H2 (g1.trans ha.hb g2) p4 (.cons (r1.same g2.jv) r2)⟩⟩
def Zk(X:Cx)(r:V->List V->Hp->VK->Prop)(h:Nat->List Tr->Ab->Rz Tr):Prop:=
 ∀(B:eX) (A:Ab) (H:Hp) (a:Addr) (i:Nat) (xs:List V) (ts:List Tr) (Q:VK),HA X.K B A H->B.ix a=some i->bb X.K (bK B H) xs ts->
  gq (XE X B H) (h i ts A) (λt A'=>∀v B' H',Grows B H B' H'->HA X.K B' A' H'->Rep X.K (bK B' H') v t->Q v H')->r (.ref a) xs H Q
def Up(A:Ab)(i:Nat):Bool:=match A[i]? with
 |some (.lst _)=>true
 |_=>false
def Qr(b:HA K B A H)(e:B.ix a=some i)(h:Up A i=true):∃xs,H a=some (.lst xs):=by
 obtain⟨o,L,q⟩:=b.ex e;unfold Up at h;rw[L]at h;cases o with
 |lst ts=>obtain⟨_,vs,h1,_⟩:=q;exact⟨vs,h1⟩
 |_=>cases h
def Zl(h:Nat->List Tr->Ab->Rz Tr)(r:Rz Tr)(l:Ab->Rz (List Tr)):Rz Tr:=r.bind λt A=>match t with
 |.at i=>if Up A i=true then(l A).bind λts A=>h i ts A else .bad
 |_=>.bad
theorem xY{cN:Pos}{id:String}(slot:Slot "list" name id)(S:typeOf (.builtin id)=pure (.type "method_descriptor"))(hm:W3 X id r)(hz:Zk X r h)(ho:ZO X o F)(ha:ZL X (ag::af) L)(pa:PlainAttrs "list":=by exact PySem.F.plainAttrs_list) (xB:autoParam (isCall o=false) Rfz) (cJ:autoParam (bL (ag::af)=true) Rfz) (hn:autoParam ((ag::af).length<30) Dcz) (pP:autoParam ((b9.endLine==cN.line)=true) Rfz):ZE X (.Call (.Attribute o name b9) (ag::af) [] cN) (λY A=>Zl h (F Y A) (L Y)):=⟨have ha:=ha.h;(BJ pa slot S hm ho.h ha (ig xB) (by rw[ib cJ,jb (show(ag::af).length+([]:List Keyword).length+(if([]:List Keyword).isEmpty then 0 else 1)<30 from hn)];rfl) pP (bA _ _ (aI cJ).1) (b_ (aI cJ).2)).weak λZ H Q ⟨B,A,Y,ha,r,n,q⟩=>⟨B,A,Y,ha,r,n,q.bind.mono λt A1 b v B1 H1 g1 I rv=>by
  split at b
  .rename_i i;obtain⟨a,rfl,M⟩:=rv.nN;obtain⟨hl,q2⟩:=g7 b;obtain⟨xs,XN⟩:=Qr I M hl;exact⟨.inl ⟨rfl,xs,lI.of XN⟩,B1,A1,Y,I,r.grow n g1,n,((gq.bind q2).imp λc A' x=>x.grow ha.hb g1).mono λts A2 qs vs B2 H2 g2 p4 rs=>hz B2 A2 H2 a i vs ts Q p4 (g2.jv.x _ _ M) rs ((qs.imp λc A' x=>x.grow ha.hb (g1.trans ha.hb g2)).mono λt A3 b v B3 H3 g3 FY r3=>b v B3 H3 ((g1.trans ha.hb g2).trans ha.hb g3) FY r3)⟩
  .exact b.elim⟩⟩
def Qs(i:Nat):List Tr->Ab->Rz Tr
 |[t],A=>match A[i]? with
  |some (.lst ts)=>if ts.length<dy then .ok .bM (A.set i (.lst (ts++[t])))else .bad
  |_=>.bad
 |_,_=>.bad
def r6:Zk X Fv Qs:=by
 intro B A H a i xs ts Q L b rs q;unfold Qs at q;split at q
 .obtain⟨y,rfl,r1⟩:=fM rs;split at q
  .rename_i r;obtain⟨I,q⟩:=g7 q;obtain⟨hd,vs,h1,h2⟩:=L.get b r;obtain⟨g,h3⟩:=L.write (o:=.lst (_++[_])) (u:=.lst (vs++[y])) b ⟨hd,_,bp,by rw[jg hd];exact h2.append (.cons r1 .nil)⟩;exact⟨a,vs,y,rfl,rfl,h1,by rwa[h2.length,<-iR],q .bM B _ g h3 .bM⟩
  .exact q.elim
 .exact q.elim
def nk(r:Rz Out):Rs Tr:=match r with
 |.ok (.nx _) _=>.ok .bM
 |.ok (.ret t) A=>if lq (aF 3 A t)=true then .ok (aF 3 A t)else .bad
 |_=>.bad
def xZ:fA (startT n ts):=λi us e=>by
 rcases qI e with q|⟨u,_,q⟩<;>cases q
theorem yH.okZ {fd:FuncData}{h:List Tr->Rs Tr}(Fn:yH K x qual st f fd)(S:gJ N ps (aL st))(len:∀ts t,h ts=.ok t->ts.length=ps.length)
  (kG:∀(I:Value) (A:Around) (outer:List Env) (s:Shared) (H:Hp) (E:XK),cQ k (A.deeper (envOfC qual (aL st) `a f I))->
   ∃G,yF (oX rj P w K mg base N qual (aL st) f I A outer s H E).HQ (fG st) (tZ (oX rj P w K mg base N qual (aL st) f I A outer s H E).HQ G)/\∀ts t,h ts=.ok t->ff ts=true/\nk (G (startT N.length ts) [])=.ok t):fK P w K mg base rj (k+1) f fd ps (spT K h):=by
 refine Fn.ok S (λvs H Q E q=>?_) (λI A outer s H vs Q E hr q=>?_)
 .obtain⟨B,ts,hb,r,t,e,_⟩:=q;rw[r.length];exact len ts t e
 .obtain⟨B,ts,hb,r,t,e,q⟩:=q;obtain⟨G,hG,hE⟩:=kG I A outer s H E hr;obtain⟨na,L⟩:=hE ts t e
  let B0:eX:=⟨B.hd,λ_=>none⟩
  have Aw:HB B0 H:=hb;have ha0:HA K B0 [] H:=⟨Aw,λi o z=>by simp at z,(λa b i z=>by cases(show(none:Option Nat)=some i from z)),(λa i z=>by cases(show(none:Option Nat)=some i from z))⟩;have r0:bb K (bK B0 H) vs ts:=bb.Jd (W:=bK B H) (W':=bK B0 H) (λ_ _ e=>e) r na;have sm:∀{B':eX} {H':Hp},Grows B0 H B' H'->aG H H':=λg b o z=>g.kp b o rfl z;refine⟨_,hG,B0,H,B0,[],startT N.length ts,Aw,.refl,ha0,bU.start r0,xZ,?_⟩;cases eo:G (startT N.length ts) []with
  |ok o A1=>
   rw[eo]at L;cases o with
   |nx Y=>cases L;exact λcU B' H' g ha r' n'=>q .bM H' (sm g) .bM
   |ret u=>
    have M:(if lq (aF 3 A1 u)=true then Rs.ok (aF 3 A1 u)else .bad)=.ok t:=L;by_cases z:lq (aF 3 A1 u)=true
    .rw[av z]at M;cases M;intro v B' H' g ha r';refine q v H' (sm g) (Rep.Jd (λb o z=>?_) (ir ha 3 r') z);have z1:=bz b o z;cases hB:B.hd b with
     |false=>rwa[gS hB]
     |true=>
      have h2:B'.hd b=true:=g.hd b rfl hB;have h3:B'.ix b=none:=by
       cases h4:B'.ix b with
       |none=>rfl
       |some i=>have h5:=g.nw b i h4 rfl;obtain⟨o2,h6⟩:=hb b hB;rw[h5]at h6;cases h6
      have z2:(if B'.un.hd b=true then none else H' b)=some o:=z;rw[show B'.un.hd b=(B'.hd b&&(B'.ix b).isNone)from rfl,h2,h3]at z2;cases z2
    .rw[aA z]at M;cases M
   |_=>cases L
  |_=>rw[eo]at L;cases L
def vQ(n m:Nat)(G:bS->Ab->Rz Out)(ts:List Tr):Rs Tr:=if ts.length=n/\ff ts=true then nk (G (startT m ts) [])else .bad
def Ji(h:vQ n m G ts=.ok t):ts.length=n:=by
 unfold vQ at h;split at h
 .rename_i z;exact z.1
 .cases h
def Mx(h:vQ n m G ts=.ok t):ff ts=true/\nk (G (startT m ts) [])=.ok t:=by
 unfold vQ at h;split at h
 .rename_i z;exact⟨z.2,h⟩
 .cases h
def x6(h:QA X es L):NE X (.List es pos) (λY=>Aj (L Y)):=⟨(Ip h.h).weak λZ H Q ⟨B,Y,hb,r,q⟩=>⟨B,Y,hb,r,q.bind.mono λts b vs H1 s1 M=>by
  by_cases S:ts.length<=dy
  .rw[av S]at b;refine⟨by rwa[M.length,<-iR],λp I=>b (.ref p) _ (s1.BS (s1.free I)) (.lst ((hb.same s1).new I) (M.same (bj (aG.upd I)))) λp' e=>by cases e;exact .upd (s1.free I) (λ_ _ z=>by cases z)⟩
  .rw[aA S]at b;exact b.elim⟩⟩
def kK:NE X (.Dict [] [] pos) (λ_=>.ok (.bh [])):=⟨IC.weak λZ H Q ⟨B,Y,hb,r,q⟩ p L=>q (.ref p) _ (aG.upd L) (.bh (.inl (hb.new L)) rfl .nil) λb e=>by cases e;exact .upd L (λ_ _ z=>by cases z)⟩
def zw{W:bS->Rs (List Tr)}(S:pR T)(q:tF X (λY=>zh ix T A F (W Y) Y) Z H Q):Sr (tI X W) ix (Oc X.K T) (Ob X.K A) (Oa X.K F) Z H Q:=by
 obtain⟨B,Y,hb,r,q⟩:=q;refine⟨B,Y,hb,r,q.bind.mono λts L J H1 s1 gt D b=>?_⟩;by_cases I:ts.length<=dy
 .rw[av I]at L;exact v_ S (v9 ix Y) (hb.same s1) gt I ((r.same s1).comp ix (kI b)) b (Fi.bind L) λys H' k s' M=>k _ H' (s1.trans s') M λp e=>by cases e;exact .lst (s1.free b) M
 .rw[aA I]at L;exact L.elim
def Qt(b:fy X N' ix scope)(hi:QI X tg c5 W)(r:B7 X scope N' tg elt ifs T A F)(I:pR T)(M:autoParam (X.calm=true) Rfz) (hs:autoParam (isSet c5=false) Rfz):NE X (.ListComp elt [⟨tg,c5,ifs,0⟩] scope pos) (λY=>zh ix T A F (W Y) Y):=⟨(IJ b M hi.h r.to.Su (fZ hs)).weak λZ H Q q=>zw I q⟩
def My{i:Nat}(b:fy X N' ix scope)(hit:QI X tg c5 W)(I:B7 X scope N' tg elt ifs T A F)(M:pR T)(hN:autoParam X.N.Nodup Asz) (S:autoParam (X.calm=true) Rfz) (hi:autoParam (X.N[i]?=some x) Rfz) (hx:autoParam (Loc X.env.scope x) Olz) (PU:autoParam (swapsWith (.ListComp elt [⟨tg,c5,ifs,0⟩] scope pos) (some (.Name x px)) b9.line X.env=pure true) Rfz) (hs:autoParam (isSet c5=false) Rfz) (hf:autoParam (DH X x) Ilz):ZS X (.Assign [.Name x px] (.ListComp elt [⟨tg,c5,ifs,0⟩] scope pos) b9) (λY A'=>G_ i (uS (zh ix T A F (W (dJ A' Y)) (dJ A' Y)) A') Y):=⟨(xK b S hN hi hx hit.h I.to.Su PU (fZ hs) hf).weak λD Z H ⟨B0,H0,B,A',Y,hb,g,ha,r,n,q⟩=>zw M (rZ (F:=λY=>zh ix T A F (W Y) Y) (pZ (F:=λY A'=>uS (zh ix T A F (W (dJ A' Y)) (dJ A' Y)) A') hb g ha r n q.bind λt A2 v B' H' L g' kn r' rv _=>L _ B' H' g' kn (r'.set i rv) (n.set i t)))⟩
inductive rF(X:Cx)(h:List Tr->Rs Tr)(xs:List V)(H:Hp)(Q:VK):Prop
 |mk (B:eX) (ts:List Tr):HB B H->bb X.K (bK B H) xs ts->(Fi X H (h ts) λt=>∀v H',aG H H'->Rep X.K (bK B H') v t->(∀p,v=.ref p->Qn H H' p)->Q v H')->rF X h xs H Q
def ug{e:Expr}(I:gZ X (.type T) (rF X h))(hm:X.mg x=none)(M:QA X (e::af) L)(S:autoParam (bootBuiltins x=some (.type T)) Rfz) (hg:autoParam (Gl X x) Rfz) (hn:autoParam (x≠"__name__") Dcz) (iJ:autoParam (Db x) Dcz) (cJ:autoParam (bL (e::af)=true) Rfz):NE X (.Call (.Name x p) (e::af) [] pos) (λY=>d9 h (L Y)):=⟨(qH I hg hm S M.h hn iJ (bA _ _ (aI cJ).1) (b_ (aI cJ).2)).weak λZ H Q ⟨B,Y,hb,r,q⟩=>⟨B,Y,hb,r,q.bind.mono λts b vs H1 s1 r1=>⟨B,ts,hb.same s1,r1,(b.same s1).mono λt b v H2 s2 r2 fr=>b v H2 (s1.trans s2) r2 λp e=>⟨s1.free (fr p e).1,(fr p e).2⟩⟩⟩⟩
def Mz:gZ X (.type "list") (rF X Od):=by
 intro U s Z H xs us Q I b ⟨B,ts,hb,r,q⟩;unfold Od at q;split at q
 .obtain⟨x,e,r1⟩:=fM r;obtain⟨a,vs,rfl,h,rr⟩:=r1.dY;exact tN U s Z H _ us Q I b ⟨_,_,e,.inr h.up,λp L=>q _ _ (aG.upd L) (.Al hb L rr) λM e=>by cases e;exact .upd L (λ_ _ z=>by cases z)⟩
 .obtain⟨x,e,r1⟩:=fM r;obtain⟨a,vs,rfl,h,rr⟩:=r1.lst_inv;exact tN U s Z H _ us Q I b ⟨_,_,e,.inl (.of (dD h)),λp L=>q _ _ (aG.upd L) (.Al hb L rr) λM e=>by cases e;exact .upd L (λ_ _ z=>by cases z)⟩
 .exact q.elim
theorem Inv.frozen (I:Inv X U Z H s)(r:H a=some (.dK kvs))(M:s.heap.get? a=some o):Inv X U Z (upd H a (.ll o (.dK kvs))) s:=by
 have ne:∀{b:Addr} {u:HO},H b=some u->u≠ .dK kvs->b≠a:=λ{b u} e d z=>by subst z;rw[r]at e;cases e;exact d rfl
 have nn:∀{b:Addr},H b=none->b≠a:=λ{b} e z=>by subst z;rw[r]at e;cases e
 refine⟨I.ok,I.os,I.bare,⟨I.base.keep,I.base.slot,λb L e n S=>?_,I.base.there,λb xs e=>?_,λb L u e=>?_,λb ps e=>?_⟩,I.loc,I.cell,?_,λx c e=>?_,λp hp=>?_,λb u e=>?_,I.len⟩
 .have q:=I.base.free b L e n S;rwa[aM (nn q)]
 .have q:=I.base.oW b xs e;rwa[aM (ne q (λz=>by cases z))]
 .have q:=I.base.mZ b L u e;rwa[aM (ne q (λz=>by cases z))]
 .obtain⟨m,q⟩:=I.base.pL b ps e;exact⟨m,by rwa[aM (ne q (λz=>by cases z))]⟩
 .rw[aM (nn I.free)];exact I.free
 .rw[aM (nn (I.gx x c e))];exact I.gx x c e
 .obtain⟨p1,p2,p3⟩:=I.pin p hp;exact⟨p1,by rwa[aM (nn p2)],p3⟩
 .have ow:∀c d,H c=some (.own d)->upd H a (.ll o (.dK kvs)) c=some (.own d):=λc d q=>by rwa[aM (ne q (λz=>by cases z))]
  have tu:∀c xs,H c=some (.tup xs)->upd H a (.ll o (.dK kvs)) c=some (.tup xs):=λc d q=>by rwa[aM (ne q (λz=>by cases z))]
  by_cases z:b=a
  .subst z;rw[bp]at e;cases e;exact⟨M,(I.cy b _ r).tB (λ_ _ _ q=>q) (λc q=>ow c b q) tu⟩
  .rw[aM z]at e;exact(I.cy b u e).tB (λ_ _ _ q=>q) (λc q=>ow c b q) tu
theorem Inv.Qu (I:Inv X U Z H s)(r:H a=some (.ll o (.dK kvs)))(h0:∀M u,X.Bz a≠some (.ll M u)):Inv X U Z (upd H a (.dK kvs)) s:=by
 have ne:∀{b:Addr} {u:HO},H b=some u->u≠ .ll o (.dK kvs)->b≠a:=λ{b u} e d z=>by subst z;rw[r]at e;cases e;exact d rfl
 have nn:∀{b:Addr},H b=none->b≠a:=λ{b} e z=>by subst z;rw[r]at e;cases e
 refine⟨I.ok,I.os,I.bare,⟨I.base.keep,I.base.slot,λb L e n S=>?_,I.base.there,λb xs e=>?_,λb L u e=>?_,λb ps e=>?_⟩,I.loc,I.cell,?_,λx c e=>?_,λp hp=>?_,λb u e=>?_,I.len⟩
 .have q:=I.base.free b L e n S;rwa[aM (nn q)]
 .have q:=I.base.oW b xs e;rwa[aM (ne q (λz=>by cases z))]
 .have q:=I.base.mZ b L u e;rwa[aM (λz=>by subst z;exact h0 _ _ e)]
 .obtain⟨m,q⟩:=I.base.pL b ps e;exact⟨m,by rwa[aM (ne q (λz=>by cases z))]⟩
 .rw[aM (nn I.free)];exact I.free
 .rw[aM (nn (I.gx x c e))];exact I.gx x c e
 .obtain⟨p1,p2,p3⟩:=I.pin p hp;exact⟨p1,by rwa[aM (nn p2)],p3⟩
 .have ow:∀c d,H c=some (.own d)->upd H a (.dK kvs) c=some (.own d):=λc d q=>by rwa[aM (ne q (λz=>by cases z))]
  have tu:∀c xs,H c=some (.tup xs)->upd H a (.dK kvs) c=some (.tup xs):=λc d q=>by rwa[aM (ne q (λz=>by cases z))]
  by_cases z:b=a
  .subst z;rw[bp]at e;cases e;exact(I.cy b _ r).2.tB (λ_ _ _ q=>q) (λc q=>ow c b q) tu
  .rw[aM z]at e;exact(I.cy b u e).tB (λ_ _ _ q=>q) (λc q=>ow c b q) tu
structure zx(H H':Hp)(a:Addr)(u u':HO)(kvs:List (Key×V)):Prop where
 fr:H a=some u
 to:H'=upd H a u'
 ok:(u=.dK kvs/\∃o,u'=.ll o (.dK kvs))\/(u'=.dK kvs/\∃o,u=.ll o (.dK kvs))
def zx.uh (w:zx H H' a u u' kvs)(e:H b=some x)(h1:∀k,x≠ .dK k)(h2:∀o k,x≠ .ll o (.dK k)):H' b=some x:=by
 rw[w.to,aM ?_]
 .exact e
 .intro z;subst z;rw[w.fr]at e;cases e;rcases w.ok with⟨L,_⟩|⟨_,o,L⟩
  .exact h1 _ L
  .exact h2 _ _ L
def mw{H':Hp}(e:(bK B H).H b=some x)(h:H b=some x->H' b=some x):(bK B H').H b=some x:=by
 have L:(if B.hd b=true then none else H b)=some x:=e;show(if B.hd b=true then none else H' b)=some x;split at L
 .cases L
 .rename_i n;rw[aA n];exact h L
def zx.seq (w:zx H H' a u u' kvs)(h:lI K (bK B H).H b xs):lI K (bK B H').H b xs:=by
 rcases h with(h|⟨o,h⟩)|h
 .exact .inl (.inl (mw h λe=>w.uh e (λ_ z=>by cases z) λ_ _ z=>by cases z))
 .exact .inl (.inr ⟨o,mw h λe=>w.uh e (λ_ z=>by cases z) λ_ _ z=>by cases z⟩)
 .exact .inr h
def zx.tup (w:zx H H' a u u' kvs)(h:mj K (bK B H).H b xs):mj K (bK B H').H b xs:=by
 rcases h with(h|⟨o,h⟩)|h
 .exact .inl (.inl (mw h λe=>w.uh e (λ_ z=>by cases z) λ_ _ z=>by cases z))
 .exact .inl (.inr ⟨o,mw h λe=>w.uh e (λ_ z=>by cases z) λ_ _ z=>by cases z⟩)
 .exact .inr h
def zx.bh (w:zx H H' a u u' kvs)(h:Rd (bK B H).H b (.dK ks)):Rd (bK B H').H b (.dK ks):=by
 by_cases z:b=a
 .subst z;have hb:B.hd b=false:=by
   cases q:B.hd b with
   |false=>rfl
   |true=>
    have n:(bK B H).H b=none:=by show(if B.hd b=true then none else H b)=none;rw[av q]
    rcases h with h|⟨o,h⟩<;>(rw[n]at h;cases h)
  have h':Rd H b (.dK ks):=by unfold Rd at h⊢;rw[gS hb]at h;exact h
  have r:ks=kvs:=by
   rcases h' with h|⟨o,h⟩<;>rw[w.fr]at h<;>rcases w.ok with⟨L,_⟩|⟨_,o',L⟩<;>rw[L]at h<;>cases h<;>rfl
  subst r;unfold Rd;rw[gS hb,w.to,bp];rcases w.ok with⟨_,o',L⟩|⟨L,_⟩
  .rw[L];exact .inr ⟨o',rfl⟩
  .rw[L];exact .inl rfl
 .have I:(bK B H').H b=(bK B H).H b:=by
   show(if B.hd b=true then none else H' b)=(if B.hd b=true then none else H b);rw[w.to,aM z]
  unfold Rd;rwa[I]
def zx.rep (w:zx H H' a u u' kvs)(h:Rep K (bK B H) v t):Rep K (bK B H') v t:=by
 refine Rep.rec (motive_1:=λv t _=>Rep K (bK B H') v t) (motive_2:=λvs ts _=>bb K (bK B H') vs ts) ?_ ?_ ?_ ?_ ?_ ?_ ?_ ?_ ?_ ?_ ?_ ?_ ?_ ?_ ?_ h
 .exact .bM
 .exact λb=>.bl b
 .exact λi=>.int i
 .exact λz h=>.str z h
 .exact λn=>.ty n
 .exact λh=>.uI (w.seq h)
 .exact λh _ r=>.tup (w.tup h) r
 .exact λh _ r=>.lst (mw h λe=>w.uh e (λ_ z=>by cases z) λ_ _ z=>by cases z) r
 .exact λh e _ r=>.bh (w.bh h) e r
 .exact λh=>.at h
 .exact λh e _ r=>.vm (mw h λe=>w.uh e (λ_ z=>by cases z) λ_ _ z=>by cases z) e r
 .exact λh e _ r=>.ob (mw h λe=>w.uh e (λ_ z=>by cases z) λ_ _ z=>by cases z) e r
 .exact λh c=>.zc (mw h λe=>w.uh e (λ_ z=>by cases z) λ_ _ z=>by cases z) c
 .exact .nil
 .exact λ_ _ h r=>.cons h r
theorem zx.Uq (w:zx H H' a u u' kvs):∀{vs:List V} {ts:List Tr},bb K (bK B H) vs ts->bb K (bK B H') vs ts
 |[],_,h=>by cases h;exact .nil
 |_::_,_,h=>by cases h with|cons h r=>exact .cons (w.rep h) (zx.Uq w r)
def zx.Jj (w:zx H H' a u u' kvs)(h:bU K B H Z Y):bU K B H' Z Y:=
 ⟨h.len,λi t e=>by obtain⟨v,L,r⟩:=h.sh i t e;exact⟨v,L,w.rep r⟩,
   λi ts e=>by obtain⟨D,ys,L,b,q,r⟩:=h.ow i ts e;exact⟨D,ys,L,b,w.uh q (λ_ z=>by cases z) (λ_ _ z=>by cases z),w.Uq r⟩,h.ap⟩
def zx.hb (w:zx H H' a u u' kvs)(h:HB B H):HB B H':=λb e=>by
 obtain⟨o,q⟩:=h b e;by_cases z:b=a
 .subst z;rw[w.to];exact⟨_,bp⟩
 .exact⟨o,by rwa[w.to,aM z]⟩
def Hb(X:Cx)(B:eX)(H H':Hp):Prop:=aG H H'\/∃H1 a o kvs,aG H H1/\B.hd a=false/\H1 a=some (.dK kvs)/\H'=upd H1 a (.ll o (.dK kvs))/\∀o u,X.Bz a≠some (.ll o u)
def kL(X:Cx)(H:Hp)(k:Hp->Prop):Prop:=k H\/∃a o kvs,H a=some (.ll o (.dK kvs))/\(∀o u,X.Bz a≠some (.ll o u))/\k (upd H a (.dK kvs))
def kL.inv (q:kL X H k)(I:Inv X U Z H s):∃H',Inv X U Z H' s/\k H':=by
 rcases q with q|⟨a,o,kvs,e,h0,q⟩
 .exact⟨H,I,q⟩
 .exact⟨_,I.Qu e h0,q⟩
def PE.Ur (h:PE X e t):PE X e (λZ H Q=>t Z H λv H'=>kL X H' (Q v)):=λU s Z H Q I q=>
 d7 (h U s Z H _ I q) λu S ⟨v,H',L,r,z⟩=>by
  obtain⟨H2,b,M⟩:=z.inv L;exact⟨v,H2,b,r,M⟩
def Ends.Ur (X:Cx)(D:Ends):Ends:=⟨λZ H=>kL X H (D.nx Z),λv H=>kL X H (D.rt v),λZ H=>kL X H (D.bk Z),λZ H=>kL X H (D.ct Z)⟩
theorem PS.Ur (h:PS X st t):PS X st (λD Z H=>t (D.Ur X) Z H):=λU s Z H D I q=>
 d7 (h U s Z H _ I q) λf S z=>by
  cases f with
  |next=>obtain⟨cU,H',L,z⟩:=z;obtain⟨H2,b,M⟩:=kL.inv z L;exact⟨cU,H2,b,M⟩
  |brk=>obtain⟨cU,H',L,z⟩:=z;obtain⟨H2,b,M⟩:=kL.inv z L;exact⟨cU,H2,b,M⟩
  |cont=>obtain⟨cU,H',L,z⟩:=z;obtain⟨H2,b,M⟩:=kL.inv z L;exact⟨cU,H2,b,M⟩
  |ret u=>obtain⟨v,cU,H',L,r,z⟩:=z;obtain⟨H2,b,M⟩:=kL.inv z L;exact⟨v,cU,H2,b,r,M⟩
theorem Hb.Jj (h:Hb X B H H')(r:bU K B H Z Y):bU K B H' Z Y:=by
 rcases h with s|⟨H1,a,o,kvs,s,L,ha,rfl,h0⟩
 .exact r.same s
 .exact zx.Jj (u:=.dK kvs) ⟨ha,rfl,.inl ⟨rfl,o,rfl⟩⟩ (r.same s)
theorem Hb.hb (h:Hb X B H H')(r:HB B H):HB B H':=by
 rcases h with s|⟨H1,a,o,kvs,s,L,ha,rfl,h0⟩
 .exact r.same s
 .exact zx.hb (u:=.dK kvs) ⟨ha,rfl,.inl ⟨rfl,o,rfl⟩⟩ (r.same s)
theorem Hb.free (h:Hb X B H H')(e:H' p=none):H p=none:=by
 rcases h with s|⟨H1,a,o,kvs,s,L,ha,rfl,h0⟩
 .exact s.free e
 .refine s.free ?_
  by_cases z:p=a
  .subst z;rw[bp]at e;cases e
  .rw[aM z]at e;exact e
def Hb.back (h:Hb X B H H')(I:d8 C B H' B2 H2):∃M,d8 C B H B2 M/\(∀{K:Frag} {B3:eX} {v:V} {t:Tr},Rep K (bK B3 H2) v t->Rep K (bK B3 M) v t)/\(∀{K:Frag} {Z:St} {Y:bS},bU K B2 H2 Z Y->bU K B2 M Z Y)/\∀k:Hp->Prop,k M->kL X H2 k:=by
 rcases h with s|⟨H1,a,o,kvs,s,hv,ha,rfl,h0⟩
 .exact⟨H2,⟨λb o c e=>I.kp b o c (s _ _ e),(bj s).trans I.jv,I.sub,I.hb⟩,λr=>r,λr=>r,λk q=>.inl q⟩
 .have e1:(bK B (upd H1 a (.ll o (.dK kvs)))).H a=some (.ll o (.dK kvs)):=by rw[gS hv];exact bp
  have L:=I.jv.h _ _ e1;have e3:H2 a=some (.ll o (.dK kvs)):=bz _ _ L;have w:zx H2 (upd H2 a (.dK kvs)) a (.ll o (.dK kvs)) (.dK kvs) kvs:=⟨e3,rfl,.inr ⟨rfl,o,rfl⟩⟩;have S:B2.hd a=false:=by
   cases q:B2.hd a with
   |false=>rfl
   |true=>
    have n:(bK B2 H2).H a=none:=by show(if B2.hd a=true then none else H2 a)=none;rw[av q]
    rw[n]at L;cases L
  refine⟨upd H2 a (.dK kvs),⟨λb ob c e=>?_,⟨λb ob e=>?_,λb i e=>?_⟩,I.sub,w.hb I.hb⟩,λr=>w.rep r,λr=>w.Jj r,λk q=>.inr ⟨a,o,kvs,e3,h0,q⟩⟩
  .have q:=s _ _ e;by_cases z:b=a
   .subst z;rw[ha]at q;cases q;exact bp
   .rw[aM z];exact I.kp b ob c (by rw[aM z];exact q)
  .by_cases z:b=a
   .subst z;have q:=s _ _ (bz _ _ e);rw[ha]at q;cases q;rw[gS S];exact bp
   .have q:(bK B (upd H1 a (.ll o (.dK kvs)))).H b=some ob:=mw e λe=>by rw[aM z];exact s _ _ e
    exact mw (I.jv.h _ _ q) λe=>by rw[aM z];exact e
  .exact I.jv.x b i e
def Hb.Oq (h:Hb X B H H')(hb:HB B H)(s2:aG H' H2):∃q,aG H q/\(∀{K:Frag} {I:eX} {v:V} {t:Tr},Rep K (bK I H2) v t->Rep K (bK I q) v t)/\∀k:Hp->Prop,k q->kL X H2 k:=by
 obtain⟨q,L,r,_,k⟩:=h.back (C:=B) (B2:=B) (H2:=H2) ⟨λb o _ e=>s2 _ _ e,bj s2,.refl,(h.hb hb).same s2⟩;exact⟨q,L.same,r,k⟩
def XO(a:Addr)(o:Obj)(kvs:List (Key×V)):It:=
 ⟨λi H=>H a=some (.ll o (.dK kvs))/\i<kvs.length,λi H x H'=>H'=H/\∃k v,kvs[i]?=some (k,v)/\x=kV k,λi H=>H a=some (.ll o (.dK kvs))/\kvs.length<=i⟩
def Eo(r:KV kvs vs){k:Key}{v:V}(e:kvs[aa]?=some (k,v)):∃u,vs[aa]?=some (k,u):=by
 have L:Paired _ kvs vs:=r
 clear r
 induction L generalizing aa with
 |nil=>simp at e
 |cons h t b=>
  cases aa with
  |zero=>
   simp at e;subst e;rename_i q _ _;obtain⟨M,I⟩:=q;cases h.1;exact⟨I,rfl⟩
  |succ j=>exact b (by simpa using e)
def uT{kvs:List (α×V)}{vs:List (α×Value)}(r:KV kvs vs):kvs.length=vs.length:=by
 have L:Paired _ kvs vs:=r
 clear r
 induction L with
 |nil=>rfl
 |cons h t b=>rw[cY,cY,b]
theorem Hc(a it:Addr)(o:Obj)(kvs:List (Key×V))(es:Array DictEntry)(ep:Nat)(hd:o.data=.dict es ep):Turn P w K tg (XO a o kvs) [it] it (λi h=>h.IsKeyIter it a i kvs.length ep) where
 mem:=by simp
 obj:=λi h st b hb=>by
  have e:b=it:=by simpa using hb
  subst e;obtain⟨o,e,c,d⟩:=st;exact⟨o,e,λv z=>by rw[d]at z;cases z⟩
 keep:=λi h h' st k=>by
  obtain⟨o,e,c⟩:=st;exact⟨o,k it *...* o e,c⟩
 item:=by
  intro X r hw hK hc i U s Z H E I hf st ⟨M,hi⟩;subst r hw hK;obtain⟨L,hz,hs,vs,rv,o',S4,OX,h1,h2,h3,h4⟩:=(show cB X.prog X.w H s.heap a (.ll o (.dK kvs))from I.cy a _ M);rw[L]at h1;cases h1;rw[hd]at h3;cases h3;obtain⟨f0,f1,f2,S,f4,f5⟩:=hf it *...*;have q:=uT rv;have ex:kvs[i]?=some (kvs[i].1,kvs[i].2):=by simp[hi]
  obtain⟨u,hu⟩:=Eo rv ex;rw[q]at st;refine wpAny_pyNext_dict_item (knd:=bI X.prog X.w) st ⟨o,es,L,h2,hd,h4⟩ hu λkey h' hk z9 sb=>?_
  have I1:Inv X U Z H {s with heap:=h'}:=I.turned (t':=s.toks) (λb o hb e=>(sb.2 b hb).trans e) f0 f1 S f4 f5;obtain⟨oi,e,c,d⟩:=id z9;refine⟨key,rfl,y3 (s:={s with heap:=h'}) e c d ∅ ⟨kV kvs[i].1,H,I1,?_,⟨rfl,_,_,ex,rfl⟩,by rwa[q],λb hb=>(hf b hb).1⟩⟩;rcases dt hk with⟨j,t,e1,e2⟩|⟨y,t,e1,e2⟩
  .rw[e1,e2];exact⟨t,rfl⟩
  .rw[e1,e2];exact⟨t,rfl⟩
 done:=by
  intro X r hw hK hc i U s Z H E I hf st ⟨M,hi⟩;subst r hw hK;obtain⟨L,hz,hs,vs,rv,o',S4,OX,h1,h2,h3,h4⟩:=(show cB X.prog X.w H s.heap a (.ll o (.dK kvs))from I.cy a _ M);rw[L]at h1;cases h1;rw[hd]at h3;cases h3;obtain⟨f0,f1,f2,S,f4,f5⟩:=hf it *...*;have q:=uT rv;rw[q]at st;exact wpAny_pyNext_dict_end (knd:=bI X.prog X.w) (I.ok.hd hc) st ⟨o,es,L,h2,hd,h4⟩ (List.getElem?_eq_none (by rwa[<-q])) λh' eb=>⟨rfl,I.turned (t':=s.toks) (λb o hb e=>eb b o hb e) f0 f1 S f4 f5⟩
 self:=λ_ _ _ _ _ st h=>wpAny_pyIter_keyiter st h
def zy:Key->Tr
 |.inl i=>.int i
 |.inr z=>.str z
def keyOk:Key->Bool
 |.inl _=>true
 |.inr z=>decide (z.length<=cH)
def zz(h:keyOk k=true):Rep K W (kV k) (zy k):=by
 cases k with
 |inl i=>exact .int i
 |inr z=>exact .str z (fg h)
def Cq(aS:List (Key×Tr)):Rs (List Tr):=if aS.all (λp=>keyOk p.1)=true then .ok (aS.map λp=>zy p.1)else .bad
def Us(r:Rs Tr):Rs (List Tr):=r.bind λt=>match t with
 |.bh aS=>Cq aS
 |_=>.bad
inductive tJ(X:Cx)(W:bS->Rs (List Tr))(Z:St)(H:Hp)(R:It->Hp->Prop):Prop
 |mk (B:eX) (Y:bS):HB B H->bU X.K B H Z Y->(Fi X H (W Y) λts=>∀J H',Hb X B H H'->oC X.K B J H' ts->R J H')->tJ X W Z H R
structure QJ(X:Cx)(tg e:Expr)(F:bS->Rs (List Tr)):Prop where
 h:PI X tg e (tJ X F)
theorem Ep(h:(bK B H).H a=some (.ll o (.dK kvs)))(e:kvs.map (·.1)=ch.map (·.1))(M:ch.all (λp=>keyOk p.1)=true):oC K B (XO a o kvs) H (ch.map λp=>zy p.1):=by
 have r:kvs.length=ch.length:=by have q:=cF List.length e;rw[aP,aP]at q;exact q
 refine⟨λi B' H' hi s hb=>⟨bz _ _ (s.h _ _ h),by rw[aP]at hi;rwa[r]⟩,λi B' H' x L4 hi s hb ⟨S,k,v,ek,ex⟩=>?_,λB' H' s=>⟨bz _ _ (s.h _ _ h),by rw[aP,r];exact aK _⟩⟩;subst S ex;have L:(kvs.map (·.1))[i]?=some k:=by rw[bW,ek];rfl
 rw[e,bW]at L;cases b:ch[i]? with
 |none=>rw[b]at L;cases L
 |some p=>
  rw[b]at L;have I:p.1=k:=Option.some.inj L;refine⟨aG.refl _,zy k,by rw[bW,b,<-I];rfl,zz ?_⟩;rw[<-I];exact fh.mp M p (eK b)
theorem Jk(hl:QE X l F):QJ X tg l (λY=>Us (F Y)):=⟨by
 have hl:=hl.h;intro U s Z H R I ⟨B,Y,hb,r,q⟩;refine d7 (hl U s Z H (λx H1=>∃(a:Addr) (kvs:List (Key×V)) (aS:List (Key×Tr)),x=.ref a/\aG H H1/\Rd (bK B H1).H a (.dK kvs)/\kvs.map (·.1)=aS.map (·.1)/\aS.all (λp=>keyOk p.1)=true/\∀J H',Hb X B H H'->oC X.K B J H' (aS.map λp=>zy p.1)->R J H') I ⟨B,Y,hb,r,q.bind.mono λt qt v H1 s1 r1=>?_⟩) λv s1 ⟨x,H1,M,r1,a,kvs,aS,ex,sm,rd,ek,hk,k⟩=>?_
 .skip
  split at qt
  .obtain⟨a,kvs,e0,h,e,rr⟩:=r1.nM;obtain⟨z,q1⟩:=ik qt;exact⟨a,kvs,_,e0,s1,h,e,z,q1⟩
  .exact qt.elim
 .subst ex;cases r1;have Zm:Rd H1 a (.dK kvs):=rd.same bz;have hv:B.hd a=false:=by
   cases z:B.hd a with
   |false=>rfl
   |true=>
    have n:(bK B H1).H a=none:=by show(if B.hd a=true then none else H1 a)=none;rw[av z]
    rcases rd with h|⟨o,h⟩<;>(rw[n]at h;cases h)
  obtain⟨hz,hs,vs,rv,o,es,ep,h1,h2,h3,h4⟩:=(show cB X.prog X.w H1 s1.heap a (.dK kvs)from Zm.ok M.cy);refine wpAny_pyIter_dict (knd:=bI X.prog X.w) hs ⟨o,es,h1,h2,h3,h4⟩ ?_
  have fin:∀{H2:Hp},Inv X U Z H2 s1->H2 a=some (.ll o (.dK kvs))->Hb X B H H2->VX X U Z tg R (.ref s1.heap.objs.size) {s1 with heap:=s1.heap.push {cls:=.type "dict_keyiterator",data:=.fields #[.ref a,.int 0 0,.int vs.length 0,.int ep 0]}}:=λ{H2} I2 e2 tf=>
   ⟨s1.heap.objs.size,[s1.heap.objs.size],_,XO a o kvs,H2,rfl,I2.kept (t':=s1.toks) λb o e=>bY _ e,Hc a _ o kvs es ep h3,⟨_,cA _ rfl,rfl,by rw[uT rv];rfl⟩,λb hb=>by
    have e:b=s1.heap.objs.size:=by simpa using hb
    subst e;exact I2.BD (aK _) (I2.cy.fresh (aK _)),k _ H2 tf (Ep (by rwa[gS hv]) ek hk)⟩
  rcases Zm with L|⟨S,L⟩
  .refine fin (M.frozen L h1) bp (.inr ⟨H1,a,o,kvs,sm,hv,L,rfl,λS u e0=>?_⟩);have q:=M.base.mZ a S u e0;rw[L]at q;cases q
  .have eo:S=o:=by
    have q:=(show cB X.prog X.w H1 s1.heap a (.ll S (.dK kvs))from M.cy a _ L).1;rw[h1]at q;cases q;rfl
   subst eo;exact fin M L (.inl sm)⟩
def Hd{W:bS->Rs (List Tr)}(S:pR T)(q:tP X (λY=>zh ix T A F (W Y) Y) Z H Q):Sr (tJ X W) ix (Oc X.K T) (Ob X.K A) (Oa X.K F) Z H (λv H'=>kL X H' (Q v)):=by
 obtain⟨B,Y,hb,r,q⟩:=q;refine⟨B,Y,hb,r,q.bind.mono λts L J H1 b gt D M=>?_⟩;by_cases I:ts.length<=dy
 .rw[av I]at L;exact v_ S (v9 ix Y) (b.hb hb) gt I ((b.Jj r).comp ix (kI M)) M (Fi.bind L) λys H' k s' rp=>by
   obtain⟨Hu,su,ru,ku⟩:=b.Oq hb s';exact ku _ (k _ Hu su (ru rp))
 .rw[aA I]at L;exact L.elim
def Ot(b:fy X N' ix scope)(hi:QJ X tg c5 W)(r:B7 X scope N' tg elt ifs T A F)(I:pR T)(M:autoParam (X.calm=true) Rfz) (hs:autoParam (isSet c5=false) Rfz):QE X (.ListComp elt [⟨tg,c5,ifs,0⟩] scope pos) (λY=>zh ix T A F (W Y) Y):=⟨(IJ b M hi.h r.to.Su (fZ hs)).Ur.weak λZ H Q q=>Hd I q⟩
noncomputable def Cr(a b:Str):Bool:=!decide (b.cps.toList<a.cps.toList)
def wc:Cr a b=true↔a.cps.toList<=b.cps.toList:=by
 unfold Cr;rw[pj,ly];exact Iff.rfl
theorem zA(h1:Cr a b=true)(h2:Cr b c=true):Cr a c=true:=by
 rw[wc]at*;exact List.le_trans h1 h2
theorem He(a b:Str):(Cr a b||Cr b a)=true:=by
 rw[Bool.or_eq_true,wc,wc];exact List.le_total _ _
theorem Jl(h1:Cr a b=true)(h2:Cr b a=true):a=b:=by
 rw[wc]at*;exact ext_toList (List.le_antisymm h1 h2)
def eJ(ss:List Str):List Str:=ss.mergeSort Cr
def iU(ss:List Str):(eJ ss).Perm ss:=List.mergeSort_perm ss _
def Er(ss:List Str):(eJ ss).Pairwise (λa b=>Cr a b=true):=List.pairwise_mergeSort (le:=Cr) (λa b c h1 h2=>zA h1 h2) He ss
theorem vt:∀(p:Str) (l:List Str),risingS p l=true->(p::l).Pairwise (λa b=>Cr a b=true)
 |p,[],_=>List.pairwise_singleton _ _
 |p,x::r,h=>by
  have h':(!ltCps x.cps.toList p.cps.toList&&risingS x r)=true:=h;rw[bg,ltCps_eq]at h';have q:=vt x r h'.2;have I:Cr p x=true:=h'.1;refine List.pairwise_cons.mpr ⟨λy L=>?_,q⟩;rcases aZ.mp L with rfl|L
  .exact I
  .exact zA I (List.rel_of_pairwise_cons q L)
theorem Cs:∀l:List Str,sortedS l=true->l.Pairwise (λa b=>Cr a b=true)
 |[],_=>List.Pairwise.nil
 |x::r,h=>vt x r h
def Ct{a b:List Str}(q:a.Perm b)(r:a.Pairwise (λa b=>Cr a b=true))(hb:b.Pairwise (λa b=>Cr a b=true)):a=b:=
 q.eq_of_pairwise (λx y _ _ h1 h2=>Jl h1 h2) r hb
def Cu{b:List Str}(q:b.Perm ss)(hs:sortedS b=true):b=eJ ss:=Ct (q.trans (iU ss).symm) (Cs _ hs) (Er ss)
theorem uU:∀{vs:List Value} {ss:List Str},StrsAre vs ss->Vals (ss.map V.str) vs
 |_,_,.nil=>.nil
 |_,_,.cons y t r=>.cons ⟨t,rfl⟩ (uU r)
theorem uV:∀{ss:List Str} {vs:List Value},Vals (ss.map V.str) vs->StrsAre vs ss
 |[],_,.nil=>.nil
 |y::r,_,.cons L b=>by
  obtain⟨t,rfl⟩:=(show∃t,_=Value.str y t from L);exact .cons y t (uV b)
theorem Ax:gZ X (.builtin "sorted") (λxs H Q=>∃(a:Addr) (ss:List Str),xs=[.ref a]/\lI X.K H a (ss.map V.str)/\ss.length<64/\∀D,H D=none->Q (.ref D) (upd H D (.lst ((eJ ss).map V.str)))):=by
 intro U s Z H xs us Q I r h;obtain⟨a,ss,rfl,ha,Qv,q⟩:=h;obtain⟨u,rfl,M⟩:=vals1 r;cases(show u=Value.ref a from M);obtain⟨bJ,rv,pl,_⟩:=I.list ha;have cJ:=uV rv;have c4:bJ.length=ss.length:=by have e:=rv.length;rw[aP]at e;exact e.symm
 refine sorted_strs pl.isList cJ ∎ λout Jm h1 h2 h3=>?_
 have e:=Cu h2 h3;subst e;obtain⟨n,hg⟩:=sortedAll_at s.heap bJ out;have L:`a<=`a+1:=Nat.le_succ _;have hf:H (`a+1)=none:=I.cy.fresh L;have S:((eJ ss).map V.str).length<=sizeLine:=by
  rw[aP,(iU ss).length_eq,eO];omega
 exact⟨.ref (`a+1),_,I.laid (t':=s.toks) (o:=.lst ((eJ ss).map V.str)) (λb o e=>sortedAll_old e) L ⟨S,out.toList,n,uU h1,by rwa[sN]⟩,rfl,q _ hf⟩
def Inv.uW {h':Heap}{ch:List Addr}{t':Nat}(I:Inv X U Z H s)(r:∀b∈ch,pN X U H b)(k:∀b o,b∉ch->s.heap.get? b=some o->h'.get? b=some o):Inv X U Z H {s with heap:=h',toks:=t'}:=by
 have M:∀b u,H b=some u->b∉ch:=λb u e m=>by rw[(r b m).1]at e;cases e
 refine I.step (g':=s.gens) (d':=s.drawn) (ch:=ch) (λb hb=>?_) (λb o _ _ L e _=>k b o L e) (λb o _ _ L e _=>⟨o.slots,k b o L e⟩) (λb o _ e n=>n) (λb o L e=>⟨o,k b o L e⟩) (λb xs e=>e) (λb o u e=>e) (λb ps e=>⟨#[],by rw[e];simp⟩) (λm hm=>?_) (λb u e=>?_) I.bare
 .obtain⟨_,S,_,x3,x4,x5⟩:=r b hb;exact⟨x3,S,x4,x5⟩
 .exact hm.at' λo e=>k _ o (λz=>(r _ z).2.1 rfl) e
 .refine(I.cy b u e).tB (λc v L q=>k c v ?_ q) (λc q=>q) λc xs q=>q;rcases L with rfl|L
  .exact M c u e
  .exact M c _ L
def MA:Tr->Rs Tr
 |.str z=>.ok (.str z)
 |.int i=>if i.natAbs.log2<1920/\(Str.ofString (toString i)).length<=cH then .ok (.str (Str.ofString (toString i)))else .bad
 |_=>.bad
theorem dQ(h:QE X v F):QE X (.FormattedValue v (-1) none pos) (λY=>(F Y).bind MA):=⟨by
 intro U s Z H Q I ⟨B,Y,hb,r,q⟩;refine FormattedValue_plain (d7 (h.h U s Z H (λx H1=>∃t,Rep X.K (bK B H1) x t/\aG H H1/\Fi X H (MA t) λt=>∀v H',aG H H'->Rep X.K (bK B H') v t->Q v H') I ⟨B,Y,hb,r,q.bind.mono λt qt v H1 s1 r1=>⟨t,r1,s1,qt⟩⟩) λu s1 ⟨x,H1,L,b,t,rt,M,k⟩=>?_);cases rt with
 |str z S=>
  obtain⟨tk,rfl⟩:=(show∃t,u=Value.str z t from b);exact formatField_str (λt' yI=>⟨.str z,H1,L.tok _,⟨_,rfl⟩,k _ H1 M (.str z S)⟩) (aV S lK)
 |int i=>
  obtain⟨tk,rfl⟩:=(show∃t,u=Value.int i t from b);obtain⟨⟨k1,k2⟩,k⟩:=ik k;exact formatField_int_small k1 ⟨.str _,H1,(L.tok _).tok _,⟨_,rfl⟩,k _ H1 M (.str _ k2)⟩
 |_=>exact fe k⟩
def PJ(X:Cx)(es:List Expr)(J:bS->Str->Rs Tr):Prop:=∀(U:List (Addr×Obj)) (s:Shared) (Z:St) (H:Hp) (acc:Str) (Q:VK),Inv X U Z H s->tP X (λY=>J Y acc) Z H Q->wpAny `c X.A (joinParts acc (evalEach es X.env)) (EP X U Z Q) X.xe s
structure JQ(X:Cx)(es:List Expr)(J:bS->Str->Rs Tr):Prop where
 h:PJ X es J
def uX(acc:Str):Rs Tr:=if acc.length<=cH then .ok (.str acc)else .bad
def jP:JQ X [] λ_ acc=>uX acc:=⟨by
 intro U s Z H acc Q I ⟨B,Y,hb,r,q⟩;obtain⟨h1,k⟩:=ik q;exact joinParts_nil ⟨.str acc,H,I.tok _,⟨_,rfl⟩,k _ H (aG.refl H) (.str acc h1)⟩ (aV h1 lK)⟩
def gi(r:Rs Tr)(J:Str->Rs Tr)(acc:Str):Rs Tr:=r.bind λt=>match t with
 |.str y=>if(acc++y).length<=cH then J (acc++y)else .bad
 |_=>.bad
theorem bV(h:QE X c5 F)(S:JQ X es J):JQ X (c5::es) λY acc=>gi (F Y) (J Y) acc:=⟨by
 intro U s Z H acc Q I ⟨B,Y,hb,r,q⟩;refine joinParts_cons (d7 (h.h U s Z H (λx H1=>∃y,x=.str y/\(acc++y).length<=cH/\aG H H1/\Fi X H (J Y (acc++y)) λt=>∀v H',aG H H'->Rep X.K (bK B H') v t->Q v H') I ⟨B,Y,hb,r,q.bind.mono λt L v H1 s1 r1=>?_⟩) λu s1 ⟨x,H1,I1,rx,y,ex,b,M,k⟩=>?_)
 .cases r1 with
  |str y hy=>
   by_cases b:(acc++y).length<=cH
   .exact⟨y,rfl,b,s1,by have k:Fi X H (if(acc++y).length<=cH then J Y (acc++y)else .bad) _:=L;rw[av b]at k;exact k⟩
   .have k:Fi X H (if(acc++y).length<=cH then J Y (acc++y)else .bad) _:=L;rw[aA b]at k;exact fe k
  |_=>exact fe L
 .subst ex;obtain⟨tk,rfl⟩:=(show∃t,u=Value.str y t from rx);exact⟨aV b lK,S.h U s1 Z H1 _ Q I1 ⟨B,Y,hb.same M,r.same M,(k.same M).mono λt L v H2 s2 r2=>L v H2 (M.trans s2) r2⟩⟩⟩
def MB(h:PJ X (c5::ag::af) J):PE X (.JoinedStr (c5::ag::af) pos) (tP X λY=>J Y Str.empty):=λU s Z H Q I q=>JoinedStr_many (h U s Z H Str.empty Q I q)
open PySem.Calls
theorem ui:∀{xs:List V} {bJ:List Value},xs.length=bJ.length->(∀(i:Nat) (x:V) (u:Value),xs[i]?=some x->bJ[i]?=some u->RelV x u)->Vals xs bJ
 |[],[],_,_=>.nil
 |[],_::_,h,_=>by cases h
 |_::_,[],h,_=>by cases h
 |x::xs,u::us,h,k=>.cons (k 0 x u rfl rfl) (ui (by simpa using h) λi y w L b=>k (i+1) y w (by simpa using L) (by simpa using b))
def uY(h:mY k v=true):RelV (kV k) v:=by
 rcases dt h with⟨j,t,L,b⟩|⟨y,t,L,b⟩
 .rw[L,b];exact⟨t,rfl⟩
 .rw[L,b];exact⟨t,rfl⟩
def Hf(q:KV kvs vs)(hi:ItemsOf (λi v=>∃k x,vs[i]?=some (k,x)/\mY k v=true) acc vs.length):Vals (kvs.map λp=>kV p.1) acc.toList:=by
 refine ui (by have e:=hi.1;rw[aP,uT q,<-e,qE]) λi x u L r=>?_
 rw[sL]at r;obtain⟨k,y,I,M⟩:=hi.2 i u r;rw[bW]at L;cases b:kvs[i]? with
 |none=>rw[b]at L;cases L
 |some p=>
  rw[b]at L;cases L;obtain⟨z,S⟩:=Eo q (k:=p.1) (v:=p.2) b;rw[S]at I;cases I;exact uY M
def Ay{A:Around}{s:Shared}{a:Addr}{R:List Value->Shared->Prop}(hh:A.handled=none)(hd:(a==sysModules)=false)(hm:s.heap.DictAt (bI prog w) a vs ep)(hn:vs.length<=sizeLine)
  (h:∀(h':Heap) (tk:Nat) (acc:Array Value),ItemsOf (λi v=>∃k x,vs[i]?=some (k,x)/\mY k v=true) acc vs.length->(∀b o,s.heap.get? b=some o->h'.get? b=some o)->`a<=h'.objs.size->R acc.toList {s with heap:=h',toks:=tk}):wpAny (model prog w) A (collect (.ref a)) R E s:=by
 have hV:a<s.heap.objs.size:=hm.lt_size;unfold collect;refine aH (wpAny_runValue (lH entry_proto_collect' ?_));rw[nF PySem.F.plain_proto_collect _];show wpAny _ A.in1 (newList []>>=λl=>again (.builtin "list.__iadd__" ⟨[l,.ref a],[]⟩)) _ _ s;refine aH (wpAny_newObj_type ?_);refine aR ⟨kE PySem.F.plain_list_iadd _,lH entry_list_iadd' ?_⟩;rw[nF PySem.F.plain_list_iadd _];have hL:(s.heap.push {cls:=.type "list",data:=.seq ([]:List Value).toArray}).get? `a=some {cls:=.type "list",data:=.seq #[]}:=cA _ rfl;show wpAny _ A.in1 (Builtin.List.listExtendWith (.ref `a) (.ref a) (.ref `a)) _ _ _;have key:=PySem.W.kdl_extend (prog:=prog) (A:=A) (s:={s with heap:=s.heap.push {cls:=.type "list",data:=.seq ([]:List Value).toArray}})
  (R:=λ(q:Result) (s':Shared)=>∃(h':Heap) (tk:Nat) (L:Array Value) (I:Nat),q=.ok (.ret (.ref `a))/\s'={s with heap:=h',toks:=tk}/\
   (∀b o,s.heap.get? b=some o->h'.get? b=some o)/\h'.get? `a=some {cls:=.type "list",dict:=none,data:=.seq L I,slots:=#[]}/\ItemsOf (λi v=>∃k x,vs[i]?=some (k,x)/\mY k v=true) L vs.length)
  (PySem.W.kdl_dict (knd:=bI prog w) (kvs:=vs) (ep:=ep) hd) hh (hm.push _) `a (h_ hV) (h_ hV) (.ref `a) 0 hL
  (λh' tk L I M r S=>⟨h',tk,L,I,rfl,rfl,λb o e=>M b o (c_ (bC e)) (bY _ e),r,S⟩) hn
 refine dX key (λfin s' x=>?_) λe s' x=>?_
 .cases fin with
  |done f=>
   obtain⟨h',tk,L,I,e,rfl,M,r,S⟩:=x;cases e;show wpAny _ A (load `a>>=_) _ _ _;refine aH (wpAny_load r ?_);exact aR (h h' tk L S M (cP (bC r)))
  |again c₁=>
   refine⟨x.1,pI x.2 λq yM y=>?_⟩;obtain⟨h',tk,L,I,rfl,rfl,M,r,S⟩:=y;show wpAny _ A (load `a>>=_) _ _ _;refine aH (wpAny_load r ?_);exact aR (h h' tk L S M (cP (bC r)))
 .obtain⟨_,_,_,_,e',_⟩:=x;cases e'
def Cv{A:Around}{s:Shared}{a:Addr}{ss:List Str}(hh:A.handled=none)(hd:(a==sysModules)=false)(hm:s.heap.DictAt (bI prog w) a vs ep)(hv:vs.map (·.1)=ss.map Sum.inr)(Qv:ss.length<64)
  (h:∀h' I D out n r,(∀b o,s.heap.get? b=some o->h'.get? b=some o)->`a<=D->h'.get? D=some {cls:=.type "list",data:=.seq out n}->StrsAre out.toList r->r.Perm ss->sortedS r=true->
   ae (.ref D) {s with heap:=h',toks:=I}):wpAny (model prog w) A (call (.builtin "sorted") [.ref a]) ae E s:=by
 have hl:vs.length=ss.length:=by have q:=cF List.length hv;rw[aP,aP]at q;exact q
 have hz:vs.length<=sizeLine:=by rw[eO];omega
 refine call_function_entry kind_sorted plain_sorted entry_sorted (args_sorted1 _) ?_
 unfold Builtin.«sorted»;refine aH (m:=checkCount "sorted" 1 1 _) (aR ?_);refine aH (Ay (A:=A.in1) hh hd hm hz λM I acc hi hk hle=>?_);have Zn:StrsAre acc.toList ss:=by
  refine uV (ui (by have e:=hi.1;rw[aP,<-hl,<-e,qE]) λi x u L e2=>?_);rw[sL]at e2;obtain⟨k,y,e3,e4⟩:=hi.2 i u e2;have S:(vs.map (·.1))[i]?=some k:=by rw[bW,e3];rfl
  rw[hv,bW]at S;rw[bW]at L;cases e6:ss[i]? with
  |none=>rw[e6]at L;cases L
  |some z=>rw[e6]at L S;cases L;cases S;exact uY e4
 have c4:acc.toList.length=ss.length:=by rw[qE,hi.1,hl]
 refine aH (wpAny_newList ?_ (by rw[c4,eO];omega));have Sk:(M.push (seqObj "list" acc.toList.toArray 0)).get? M.objs.size=some (seqObj "list" acc.toList.toArray 0):=cA _ rfl;refine aH (h8 (wpAny_call_entry slot_list_sort ⟨_,Sk,rfl⟩ entry_list_sort
  (list_sort_treeK strKind_oneLt Sk Zn.keysOf (λaai aaj c9 e=>keyKind_strs (by rwa[<-e])) (by rw[c4];omega) λz9 a1 a2=>⟨_,rfl,?_⟩) (args_list_sort _)))
 refine aR ⟨_,rfl,?_⟩;obtain⟨r,q1,q2,q3⟩:=sorted_out_str Zn a1 a2;obtain⟨e,he⟩:=sortedHeap_at (out:=(arrOf z9).map (·.2)) Sk;refine h _ I M.objs.size ((arrOf z9).map (·.2)) e r (λb o q=>?_) hle he q1 q2 q3;have hb:=hk b o q;have hV:=bC hb;rw[sortedHeap_old (c_ hV) (by rw[jr];exact wZ hV)];exact bY _ hb
theorem Es{X:Cx}(b:X.calm=true):gZ X (.type "list") (λxs H Q=>∃(a:Addr) (kvs:List (Key×V)),xs=[.ref a]/\Rd H a (.dK kvs)/\∀D,H D=none->Q (.ref D) (upd H D (.lst (kvs.map λp=>kV p.1)))):=by
 intro U s Z H xs us Q I r h;obtain⟨a,kvs,rfl,ha,q⟩:=h;obtain⟨u,rfl,L⟩:=vals1 r;cases(show u=Value.ref a from L);obtain⟨hz,hs,vs,rv,hm⟩:=(show cB X.prog X.w H s.heap a (.dK kvs)from ha.ok I.cy);obtain⟨ep,hm⟩:=hm.dictAt;have M:=uT rv;refine PySem.W.kdl_call (PySem.W.kdl_dict (knd:=bI X.prog X.w) (kvs:=vs) (ep:=ep) hs) (I.ok.hd b) hm (by rwa[<-M]) λh' S yT c' hk hD Az=>?_
 have hf:H `a=none:=I.fresh;exact⟨.ref `a,_,I.laid (t':=S) (o:=.lst (kvs.map λp=>kV p.1)) hk (aK _) ⟨by rwa[aP],yT.toList,c',Hf rv Az,by rwa[sN]⟩,rfl,q _ hf⟩
theorem AA{X:Cx}(S:X.calm=true):gZ X (.builtin "sorted") (λxs H Q=>∃(a:Addr) (kvs:List (Key×V)) (ss:List Str),xs=[.ref a]/\Rd H a (.dK kvs)/\kvs.map (·.1)=ss.map Sum.inr/\ss.length<64/\∀D,H D=none->Q (.ref D) (upd H D (.lst ((eJ ss).map V.str)))):=by
 intro U s Z H xs us Q I r h;obtain⟨a,kvs,ss,rfl,ha,L,Qv,q⟩:=h;obtain⟨u,rfl,ru⟩:=vals1 r;cases(show u=Value.ref a from ru);obtain⟨b,hs,vs,rv,hm⟩:=(show cB X.prog X.w H s.heap a (.dK kvs)from ha.ok I.cy);obtain⟨ep,hm⟩:=hm.dictAt;have hv:vs.map (·.1)=ss.map Sum.inr:=by
  rw[<-L];refine List.ext_getElem? λi=>?_
  rw[bW,bW];cases e:kvs[i]? with
  |none=>
   have h1:vs[i]?=none:=List.getElem?_eq_none_iff.mpr (by rw[<-uT rv];exact List.getElem?_eq_none_iff.mp e)
   rw[h1];rfl
  |some p=>
   obtain⟨z,e6⟩:=Eo rv (k:=p.1) (v:=p.2) e;rw[e6];rfl
 refine Cv (I.ok.hd S) hs hm hv Qv λh' tk D out n Jm L M hg cJ hp hs=>?_
 have e:=Cu hp hs;subst e;have hf:H D=none:=I.cy.fresh M;have b:((eJ ss).map V.str).length<=sizeLine:=by
  rw[aP,(iU ss).length_eq,eO];omega
 exact⟨.ref D,_,I.laid (t':=tk) (o:=.lst ((eJ ss).map V.str)) L M ⟨b,out.toList,n,uU cJ,by rwa[sN]⟩,rfl,q _ hf⟩
noncomputable def Cw:List Tr->Option (List Str)
 |[]=>some []
 |.str z::ts=>(Cw ts).map λr=>z::r
 |_=>none
theorem zB:∀{vs:List V} {ts:List Tr} {ss:List Str},bb K W vs ts->Cw ts=some ss->vs=ss.map V.str/\∀z∈ss,z.length<=cH
 |[],[],ss,_,e=>by cases e;exact⟨rfl,λz h=>by cases h⟩
 |[],_::_,_,h,_=>by cases h
 |v::vs,ts,ss,h,e=>by
  cases h with
  |cons h r=>
   cases h with
   |str z I=>
    rename_i ts;have L:(Cw ts).map (λr=>z::r)=some ss:=e;cases q:Cw ts with
    |none=>rw[q]at L;cases L
    |some rs=>
     rw[q]at L;cases L;obtain⟨h1,h2⟩:=zB r q;exact⟨by rw[h1];rfl,λy b=>by
      rcases aZ.mp b with rfl|b
      .exact I
      .exact h2 y b⟩
   |_=>cases e
def vv:List (Key×Tr)->Option (List Str)
 |[]=>some []
 |(.inr z,_)::ts=>if z.length<=cH then(vv ts).map λr=>z::r else none
 |_=>none
theorem Cy:∀{aS:List (Key×Tr)} {ss:List Str},vv aS=some ss->aS.map (·.1)=ss.map Sum.inr/\∀z∈ss,z.length<=cH
 |[],ss,e=>by cases e;exact⟨rfl,λz h=>by cases h⟩
 |(.inl _,_)::_,_,e=>by cases e
 |(.inr z,t)::ts,ss,e=>by
  have L:(if z.length<=cH then(vv ts).map λr=>z::r else none)=some ss:=e;by_cases b:z.length<=cH
  .rw[av b]at L;cases q:vv ts with
   |none=>rw[q]at L;cases L
   |some rs=>
    rw[q]at L;cases L;obtain⟨h1,h2⟩:=Cy q;exact⟨by rw[a_,a_,h1],λy I=>by
     rcases aZ.mp I with rfl|I
     .exact b
     .exact h2 y I⟩
  .rw[aA b]at L;cases L
def Cz(o:Option (List Str)):Rs Tr:=match o with
 |some ss=>if ss.length<64 then .ok (.lst ((eJ ss).map .str))else .bad
 |none=>.bad
def AB:List Tr->Rs Tr
 |[.lst ts]=>Cz (Cw ts)
 |[.bh aS]=>Cz (vv aS)
 |_=>.bad
def CA{ss:List Str}(h:∀z∈ss,z.length<=cH):bb K W ((eJ ss).map V.str) ((eJ ss).map Tr.str):=zd λz L=>h z ((iU ss).mem_iff.mp L)
def zC(q:Fi X H (Cz o) k):∃ss,o=some ss/\ss.length<64/\k (.lst ((eJ ss).map .str)):=by
 unfold Cz at q;split at q
 .have f:=ik q;exact⟨_,rfl,f.1,f.2⟩
 .exact q.elim
def Jn{X:Cx}(hc:X.calm=true):m9 X (.builtin "sorted") AB:=by
 intro U s Z H xs us Q I rv ⟨B,ts,hb,r,q⟩;unfold AB at q;split at q
 .obtain⟨x,rfl,b⟩:=fM r;obtain⟨a,vs,rfl,h,rr⟩:=b.lst_inv;obtain⟨ss,M,S,k⟩:=zC q;obtain⟨rfl,hs⟩:=zB rr M;exact Ax U s Z H _ us Q I rv ⟨_,ss,rfl,.of (dD h),S,λp L=>k _ _ (aG.upd L) (.Al hb L (CA hs))⟩
 .obtain⟨x,rfl,b⟩:=fM r;obtain⟨a,kvs,rfl,h,ek,rr⟩:=b.nM;obtain⟨ss,M,S,k⟩:=zC q;obtain⟨e2,hs⟩:=Cy M;exact AA hc U s Z H _ us Q I rv ⟨_,_,ss,rfl,h.same bz,ek.trans e2,S,λp L=>k _ _ (aG.upd L) (.Al hb L (CA hs))⟩
 .exact q.elim
def Et:List Tr->Rs Tr
 |[.bh aS]=>(Cq aS).bind λts=>.ok (.lst ts)
 |_=>.bad
theorem CB:∀{kvs:List (Key×V)} {aS:List (Key×Tr)},kvs.map (·.1)=aS.map (·.1)->aS.all (λp=>keyOk p.1)=true->bb K W (kvs.map λp=>kV p.1) (aS.map λp=>zy p.1)
 |[],[],_,_=>.nil
 |[],_::_,e,_=>by cases e
 |_::_,[],e,_=>by cases e
 |(k1,v)::kvs,(k2,t)::aS,e,h=>by
  rw[a_,a_]at e;injection e with L b
  have q:k1=k2:=L;subst q;rw[jd,bg]at h;exact .cons (zz h.1) (CB b h.2)
def MC{X:Cx}(b:X.calm=true):m9 X (.type "list") Et:=by
 intro U s Z H xs us Q I M ⟨B,ts,hb,r,q⟩;unfold Et at q;split at q
 .obtain⟨x,rfl,S⟩:=fM r;obtain⟨a,kvs,rfl,h,ek,rr⟩:=S.nM;have f:=ik (Fi.bind q);exact Es b U s Z H _ us Q I M ⟨_,_,rfl,h.same bz,λp L=>f.2 _ _ (aG.upd L) (.Al hb L (CB ek f.1))⟩
 .exact q.elim
def yU(ts:List Tr)(x:Tr):Rs Tr:=if pT x=true/\ts.all rb=true then(match ts.findIdx? (λy=>eqT y x)with|some j=>.ok (.int j)|none=>.bad)else .bad
def MD(ts:List Tr)(x:Tr):Rs Tr:=if pT x=true/\ts.all rb=true then .ok (.int (ts.countP λy=>eqT y x:Nat))else .bad
theorem F1:∀{vs:List V} {ts:List Tr} {us:List Value},bb K W vs ts->ts.all rb=true->Vals vs us->us.map (eU x)=ts.map λy=>eqT y x
 |[],_,_,r,_,rv=>by cases r;cases rv;rfl
 |_::_,_,_,r,f,rv=>by
  cases r with
  |cons h r=>
   cases rv with
   |cons h1 rv=>
    rw[jd,bg]at f;rw[a_,a_,Ej h f.1 h1,F1 r f.2 rv]
theorem F2{ts:List Tr}(e:ah.map (eU x)=ts.map λy=>eqT y x)(h:ts.findIdx? (λy=>eqT y x)=some j):∃b:j<ah.length,eU x ah[j]=true/\∀m (hm:m<ah.length),m<j->eU x ah[m]=false:=by
 obtain⟨b,h1,h2⟩:=List.findIdx?_eq_some_iff_getElem.mp h;have L:ah.length=ts.length:=by have q:=cF List.length e;rw[aP,aP]at q;exact q
 have at_:∀(i:Nat) (h1:i<ah.length) (h2:i<ts.length),eU x ah[i]=eqT ts[i] x:=λi h1 h2=>by
  have q:=cF (λl:List Bool=>l[i]?) e;simp only[bW,cj h1,cj h2]at q;exact Option.some.inj q
 refine⟨by rwa[L],by rwa[at_ j _ b],λm hm r=>?_⟩;rw[at_ m hm (by rwa[<-L])];have q:=h2 m r;cases z:eqT ts[m] x with
 |false=>rfl
 |true=>exact absurd z q
def CC(q:Fi X H (yU ts x) k):pT x=true/\ts.all rb=true/\∃j:Nat,ts.findIdx? (λy=>eqT y x)=some j/\k (.int j):=by
 unfold yU at q;by_cases z:pT x=true/\ts.all rb=true
 .rw[av z]at q;cases e:ts.findIdx? (λy=>eqT y x)with
  |none=>rw[e]at q;exact fe q
  |some j=>rw[e]at q;exact⟨z.1,z.2,j,rfl,q⟩
 .rw[aA z]at q;exact fe q
def Jo(q:Fi X H (MD ts x) k):pT x=true/\ts.all rb=true/\k (.int (ts.countP λy=>eqT y x:Nat)):=by
 unfold MD at q;by_cases z:pT x=true/\ts.all rb=true
 .rw[av z]at q;exact⟨z.1,z.2,q⟩
 .rw[aA z]at q;exact fe q
def count_at{ts:List Tr}(e:ah.map (eU x)=ts.map λy=>eqT y x):ah.countP (eU x)=ts.countP λy=>eqT y x:=by
 have a:ah.countP (eU x)=(ah.map (eU x)).countP id:=by rw[List.countP_map];rfl
 have b:(ts.countP λy=>eqT y x)=(ts.map λy=>eqT y x).countP id:=by rw[List.countP_map];rfl
 rw[a,b,e]
def Qx{X:Cx}{W:Vw}{tq:Addr->Option Nat}{Q:VK}(hu:X.A.units+1<cLine)(I:Inv X U Z H s)(h:mj X.K H a vs)(r:bb X.K (⟨H,tq⟩:Vw) vs ts)(rx:Rep X.K (⟨H,tq⟩:Vw) v b)(ru:RelV v u)(q:Fi X H (yU ts b) k)(hk:∀j:Nat,k (.int j)->Q (.int j) H):
  wpAny `c X.A (call (.builtin "tuple.index") [.ref a,u]) (EP X U Z Q) X.xe s:=by
 obtain⟨p1,L,j,e,q⟩:=CC q;obtain⟨bJ,rv,pl,hz⟩:=I.tuple h
 .obtain⟨hj,h1,h2⟩:=F2 (F1 r L rv) e;obtain⟨⟨cls,dd,data,sl⟩,M,S,n,hd⟩:=(show s.heap.IsTuple a bJ.toArray from pl);simp only at S hd;subst S hd;refine kF wD ⟨_,M,rfl⟩ PySem.F.entry_tuple_index (PySem.F.args_tuple_index_2 _ _) (SeqAt.yJ a bJ.toArray n dd sl u (eU b) j (by simpa using hj) (by simpa using h1) λm hm Ut=>by simpa using h2 m (by simpa using hm) Ut) ⟨M,λy hy=>pW I (A:=X.A.in1) hu rx p1 ru r L rv y (by simpa using hy),?_⟩;exact⟨.int j,H,I.tok _,⟨_,rfl⟩,hk j q⟩
def Qy{X:Cx}{tq:Addr->Option Nat}{Q:VK}(hu:X.A.units+1<cLine)(I:Inv X U Z H s)(h:lI X.K H a vs)(r:bb X.K (⟨H,tq⟩:Vw) vs ts)(rx:Rep X.K (⟨H,tq⟩:Vw) v b)(ru:RelV v u)(q:Fi X H (yU ts b) k)(hk:∀j:Nat,k (.int j)->Q (.int j) H):
  wpAny `c X.A (call (.builtin "list.index") [.ref a,u]) (EP X U Z Q) X.xe s:=by
 obtain⟨p1,L,j,e,q⟩:=CC q;obtain⟨bJ,rv,pl,hz⟩:=I.list h
 .obtain⟨hj,h1,h2⟩:=F2 (F1 r L rv) e;have hs:(j:Int)<2 ^63 - 1:=by
   have:=rv.length;rw[eO]at hz;omega
  obtain⟨⟨cls,dd,data,sl⟩,n,M,S,Uu,hd⟩:=id pl;simp only at S hd Uu;have Uv:=hd;subst S;subst Uv;refine kF PySem.F.slot_list_index ⟨_,M,rfl⟩ PySem.F.entry_list_index (PySem.F.args_list_index_2 _ _) (SeqAt.list_indexAt a bJ.toArray n dd sl u (eU b) j (by simpa using hj) hs (by simpa using h1) λm hm Ut=>by simpa using h2 m (by simpa using hm) Ut) ⟨M,λy hy=>pW I (A:=X.A.in1) hu rx p1 ru r L rv y (by simpa using hy),?_⟩;exact⟨.int j,H,I.tok _,⟨_,rfl⟩,hk j q⟩
def Qz{X:Cx}{tq:Addr->Option Nat}{Q:VK}(hu:X.A.units+1<cLine)(I:Inv X U Z H s)(h:lI X.K H a vs)(r:bb X.K (⟨H,tq⟩:Vw) vs ts)(rx:Rep X.K (⟨H,tq⟩:Vw) v b)(ru:RelV v u)(q:Fi X H (MD ts b) k)(hk:∀j:Nat,k (.int j)->Q (.int j) H):
  wpAny `c X.A (call (.builtin "list.count") [.ref a,u]) (EP X U Z Q) X.xe s:=by
 obtain⟨p1,L,q⟩:=Jo q;obtain⟨bJ,rv,pl,hz⟩:=I.list h;rw[<-count_at (F1 r L rv)]at q;obtain⟨⟨cls,dd,data,sl⟩,n,M,S,Uu,hd⟩:=id pl;simp only at S hd Uu;have Uv:=hd;subst S;subst Uv;refine kF PySem.F.slot_list_count ⟨_,M,rfl⟩ PySem.F.entry_list_count (PySem.F.args_list_count_2 _ _) (SeqAt.list_countAt a bJ.toArray n dd sl u (eU b)) ⟨M,λy hy=>pW I (A:=X.A.in1) hu rx p1 ru r L rv y (by simpa using hy),?_⟩;exact⟨.int (bJ.countP (eU b):Nat),H,I.tok _,⟨_,rfl⟩,hk _ q⟩
def lmR(h:List Tr->Tr->Rs Tr)(r:Rs Tr)(a:Rs Tr):Rs Tr:=r.bind λt=>match t with
 |.lst ts=>a.bind λx=>h ts x
 |_=>.bad
inductive Wf(X:Cx)(h:List Tr->Tr->Rs Tr)(x:V)(xs:List V)(H:Hp)(Q:VK):Prop
 |mk (B:eX) (ts:List Tr) (y:V) (ty:Tr):HB B H->Rep X.K (bK B H) x (.lst ts)->xs=[y]->Rep X.K (bK B H) y ty->(Fi X H (h ts ty) λt=>∀v H',aG H H'->Rep X.K (bK B H') v t->Q v H')->Wf X h x xs H Q
def QC{X:Cx}(b:X.A.units+1<cLine):NY X "list.index" (Wf X yU):=by
 intro U s Z H x xs v us Q I L M ⟨B,ts,y,ty,hb,r,e,S,q⟩;subst e;obtain⟨u,rfl,ru⟩:=vals1 M;cases r with
 |lst h rr=>
  cases L;exact Qy (tq:=B.ix) b I (.of (dD h)) (rr.same fj) (S.same fj) ru q λj z=>z _ H (aG.refl H) (.int _)
def QH{X:Cx}(b:X.A.units+1<cLine):NY X "list.count" (Wf X MD):=by
 intro U s Z H x xs v us Q I L M ⟨B,ts,y,ty,hb,r,e,S,q⟩;subst e;obtain⟨u,rfl,ru⟩:=vals1 M;cases r with
 |lst h rr=>
  cases L;exact Qz (tq:=B.ix) b I (.of (dD h)) (rr.same fj) (S.same fj) ru q λj z=>z _ H (aG.refl H) (.int _)
def Uw{cN:Pos}{id:String}(slot:Slot "list" name id)(S:typeOf (.builtin id)=pure (.type "method_descriptor"))(hm:NY X id (Wf X h))(ho:QE X o F)(he:QE X e G)(pa:PlainAttrs "list":=by exact PySem.F.plainAttrs_list) (xB:autoParam (isCall o=false) Rfz) (cJ:autoParam (bL [e]=true) Rfz) (pP:autoParam ((b9.endLine==cN.line)=true) Rfz):QE X (.Call (.Attribute o name b9) [e] [] cN) (λY=>lmR h (F Y) (G Y)):=⟨(BJ pa slot S hm ho.h (Ai he.h FG (aI cJ).1) (ig xB) (by rw[ib cJ];rfl) pP (bA _ _ (aI cJ).1) (b_ (aI cJ).2)).weak λZ H Q ⟨B,Y,hb,r,q⟩=>⟨B,Y,hb,r,q.bind.mono λt b v H1 s1 r1=>by
  split at b
  .rename_i ts;obtain⟨a,vs,rfl,I,rr⟩:=r1.lst_inv;refine⟨.inl ⟨rfl,vs,.of (dD I)⟩,B,Y,hb.same s1,r.same s1,?_⟩;have L:=(Fi.bind b).same s1;refine Fi.mono (r:=rq (G Y) (.ok [])) (k:=λzs=>∃x,zs=[x]/\Fi X H (h ts x) λt=>∀v H',aG H H'->Rep X.K (bK B H') v t->Q v H') ?_ λzs ⟨x,ez,qx⟩ ws H2 s2 r2=>?_
   .cases M:G Y with
    |ok x=>rw[M]at L;exact⟨x,rfl,L⟩
    |_=>rw[M]at L;exact L
   .subst ez;obtain⟨y,rfl,ry⟩:=fM r2;exact⟨B,ts,_,x,hb.same (s1.trans s2),.lst ((bj s2).h _ _ I) (rr.same (bj s2)),rfl,ry,(qx.same (s1.trans s2)).mono λt k v H3 s3 r3=>k v H3 ((s1.trans s2).trans s3) r3⟩
  .exact b.elim⟩⟩
structure Ou(K:Frag)(mg:Str->Option Value)(x:Str)(ts:List Tr):Prop where
 g:TX K mg x (.tup ts)
 nd:∃a o,mg x=some (.ref a)/\K.lookup a=some o/\o.cls=.type "tuple"/\o.dict=none
inductive XQ(X:Cx)(x:V)(xs:List V)(H:Hp)(Q:VK):Prop
 |mk (B:eX) (ts:List Tr) (y:V) (ty:Tr):HB B H->Rep X.K (bK B H) x (.tup ts)->xs=[y]->Rep X.K (bK B H) y ty->(Fi X H (yU ts ty) λt=>∀v H',aG H H'->Rep X.K (bK B H') v t->Q v H')->XQ X x xs H Q
def Jp{X:Cx}(b:X.A.units+1<cLine):NY X "tuple.index" (XQ X):=by
 intro U s Z H x xs v us Q I L M ⟨B,ts,y,ty,hb,r,e,S,q⟩;subst e;obtain⟨u,rfl,ru⟩:=vals1 M;cases r with
 |tup h rr=>
  cases L;exact Qx (W:=bK B H) (tq:=B.ix) b I (aG.tup bz h) (rr.same fj) (S.same fj) ru q λj z=>z _ H (aG.refl H) (.int _)
def Ux{G:bS->Rs Tr}{B:eX}(s1:aG H H1)(q:Fi X H (G Y) k):Fi X H1 (rq (G Y) (.ok [])) λzs=>∃x,zs=[x]/\k x:=by
 have L:=Fi.same q s1;cases b:G Y with
 |ok x=>rw[b]at L;exact⟨x,rfl,L⟩
 |_=>rw[b]at L;exact L
def Uy{X:Cx}{cN:Pos}(I:X.A.units+1<cLine)(g:Ou X.K X.mg x ts)(he:QE X e G)(M:autoParam (Gl X x) Rfz) (hd:autoParam (Db x) Dcz) (cJ:autoParam (bL [e]=true) Rfz) (S:autoParam ((b9.endLine==cN.line)=true) Rfz):QE X (.Call (.Attribute (.Name x p) "index" b9) [e] [] cN) (λY=>(G Y).bind (yU ts)):=⟨by
 obtain⟨⟨v,u,hm,r,L⟩,a,ob,b,hk,hc,hn⟩:=g;rw[hm]at b;cases b;obtain⟨a',_,rfl,_⟩:=(L ⟨λ_=>none,λ_=>none⟩).dY;cases r;refine(BJ PySem.F.plainAttrs_tuple wD PySem.F.type_tuple_index (Jp I) (z8 (v:=.ref a) M hm rfl hd) (Ai he.h FG (aI cJ).1) (ig rfl) (by rw[ib cJ];rfl) S (bA _ _ (aI cJ).1) (b_ (aI cJ).2)).weak λZ H Q ⟨B,Y,hb,r,q⟩=>?_
 refine⟨.inr (.inl ⟨rfl,ob,hk,hc,hn⟩),B,Y,hb,r,(Ux (B:=B) (aG.refl H) (Fi.bind q)).mono λzs ⟨x,ez,qx⟩ ws H2 s2 r2=>?_⟩;subst ez;obtain⟨y,rfl,ry⟩:=fM r2;exact⟨B,ts,_,x,hb.same s2,L _,rfl,ry,(Fi.same qx s2).mono λt k v H3 s3 r3=>k v H3 (s2.trans s3) r3⟩⟩
def Uz{X:Cx}{cN:Pos}{x1}(hu:X.A.units+1<cLine)(S:QA X es L)(he:QE X e G)(cJ:autoParam (bL [e]=true) Rfz) (pP:autoParam ((b9.endLine==cN.line)=true) Rfz):QE X (.Call (.Attribute (.Tuple es x1 XR) "index" b9) [e] [] cN) (λY=>(L Y).bind λts=>if ts.length<=dy then(G Y).bind (yU ts)else .bad):=⟨by
 have S:=S.h;have he:=he.h;intro U s Z H Q I ⟨B,Y,hb,r,q⟩;refine wpAny_Call_method_late (ig rfl) (by rw[ib cJ];rfl) pP rfl (wpAny_Tuple_spliced (d7 (S XR U s Z H _ I ⟨B,Y,hb,r,q.bind.mono λts M vs H1 s1 r1=>(⟨ts,M,s1,r1⟩:∃ts,Fi X H (if ts.length<=dy then(G Y).bind (yU ts)else .bad) _/\aG H H1/\bb X.K (bK B H1) vs ts)⟩) λus s1 ⟨xs,H1,I1,rv,ts,M,sm,r1⟩=>?_));by_cases hz:ts.length<=dy
 .rw[av hz]at M;have hz1:us.length<=sizeLine:=by rwa[<-rv.length,r1.length,<-iR]
  refine⟨hz1,?_⟩;have hf:H1 s1.heap.objs.size=none:=I1.cy.fresh (aK _);have ho:=cA s1.heap (o:={cls:=.type "tuple",data:=.seq us.toArray}) rfl;have I2:Inv X U Z (upd H1 s1.heap.objs.size (.tup xs)) {s1 with heap:=s1.heap.push {cls:=.type "tuple",data:=.seq us.toArray}}:=I1.laid (t':=s1.toks) (λb u e=>bY _ e) (aK _) ⟨by rwa[rv.length],us,rv,⟨_,ho,rfl,_,rfl,rfl⟩⟩;have s2:aG H (upd H1 s1.heap.objs.size (.tup xs)):=sm.trans (aG.upd hf);have rt:Rep X.K (bK B (upd H1 s1.heap.objs.size (.tup xs))) (.ref s1.heap.objs.size) (.tup ts):=.tup (.inl (.inl ((hb.same sm).new hf))) (r1.same (bj (aG.upd hf)));refine⟨"tuple","tuple.index",PySem.F.plainAttrs_tuple,wD,PySem.F.type_tuple_index,⟨_,ho,rfl⟩,λa ea=>by cases ea;exact⟨_,ho,rfl⟩,?_⟩;have hA:=(Ai he FG (aI cJ).1) cN U _ Z _ (λvs H3=>XQ X (.ref s1.heap.objs.size) vs H3 Q) I2 ⟨B,Y,hb.same s2,r.same s2,(Ux (B:=B) s2 (Fi.bind M)).mono λzs ⟨x,ez,qx⟩ ws H3 s3 r3=>by
   subst ez;obtain⟨y,rfl,ry⟩:=fM r3;exact⟨B,ts,_,x,hb.same (s2.trans s3),rt.same (bj s3),rfl,ry,(Fi.same qx (s2.trans s3)).mono λt k v H4 s4 r4=>k v H4 ((s2.trans s3).trans s4) r4⟩⟩
  rw[bA _ _ (aI cJ).1]at hA⊢;refine pb (by show(false||(backTo cN (starEach [] X.env)).any (·.1))=false;rw[b_ (es:=[]) rfl];rfl) (mJ ?_);exact d7 hA λus s4 ⟨vs,H4,I4,r4,q4⟩=>Jp hu U s4 Z H4 (.ref s1.heap.objs.size) vs _ us Q I4 rfl r4 q4
 .rw[aA hz]at M;exact fe M⟩
noncomputable def UA:List Tr->Rs Tr
 |[.int i]=>.ok (.int i)
 |[.bl b]=>.ok (.int (if b then 1 else 0))
 |_=>.bad
def UB:m9 X (.type "int") UA:=by
 intro U s Z H xs us Q I L ⟨B,ts,hb,r,q⟩;unfold UA at q;split at q
 .obtain⟨x,e,r⟩:=fM r;exact y4 U s Z H _ us Q I L (.inl ⟨_,by rw[e,r.int_inv],q _ H (aG.refl H) (.int _)⟩)
 .obtain⟨x,e,r⟩:=fM r;exact y4 U s Z H _ us Q I L (.inr ⟨_,by rw[e,r.rW],q _ H (aG.refl H) (.int _)⟩)
 .exact q.elim
structure MethAt(K:Frag)(c m:Str)(st:Stmt)(ps:List Str)(f:Addr)(fd:FuncData):Prop where
 fn:∃qual,yH K m qual st f fd
 bd:Binds K fd ps []
 mt:Meth K (clsAt K c) m f
 cl:DX K (clsAt K c)
def DK(fs:List (Str×Tr))(m:Str):Bool:=(fs.lookup m).isNone
theorem nV(f:Str):∀{g6:List (Str×V)} {fs:List (Str×Tr)},g6.map (·.1)=fs.map (·.1)->bb K W (g6.map (·.2)) (fs.map (·.2))->(fs.lookup f=none/\g6.lookup f=none)\/∃t v,fs.lookup f=some t/\g6.lookup f=some v/\Rep K W v t
 |[],[],_,_=>.inl ⟨rfl,rfl⟩
 |[],_::_,e,_=>by cases e
 |_::_,[],e,_=>by cases e
 |(k1,v1)::g6,(k2,L)::fs,e,r=>by
  rw[a_,a_]at e;injection e with b q
  have I:k1=k2:=b;subst I;cases r with
  |cons M r=>
   by_cases z:f=k1
   .subst z;exact .inr ⟨L,v1,by rw[bT,bD],by rw[bT,bD],M⟩
   .rw[bT,j8 z,bT,j8 z];exact nV f q r
def vw(c m:Str)(h:List Tr->Rs Tr)(r:Rs Tr)(l:Rs (List Tr)):Rs Tr:=r.bind λt=>match t with
 |.ob x fs=>if x=c/\DK fs m=true then l.bind λts=>h (.ob x fs::ts)else .bad
 |_=>.bad
def AD{g6:List (Str×V)}{fs:List (Str×Tr)}(e:g6.map (·.1)=fs.map (·.1))(r:bb K W (g6.map (·.2)) (fs.map (·.2)))(hm:DK fs m=true):g6.lookup m=none:=by
 rcases nV m e r with⟨_,z⟩|⟨t,v,z,_⟩
 .exact z
 .unfold DK at hm;rw[z]at hm;cases hm
def QK{X:Cx}{e:Expr}(D:MethAt X.K c m st ps f ai)(G:fK X.prog X.w X.K X.mg X.base rj k f ai ps (spT X.K h))(hr:cQ k X.A)(ho:QE X o F)(ha:QA X (e::af) L)(cJ:autoParam (bL (e::af)=true) Rfz) (ht:autoParam (eval (.Call (.Attribute o m b9) (e::af) [] pos) X.env=yK pos b9 o m (e::af) X.env pl) Rfz):QE X (.Call (.Attribute o m b9) (e::af) [] pos) (λY=>vw c m h (F Y) (L Y)):=⟨(Ft (pl:=pl) ho.h D.cl D.mt G hr D.bd .nil IH ha.h (cJ:=bA _ _ (aI cJ).1) (Aa:=b_ (aI cJ).2) ht).weak λZ H Q ⟨B,Y,hb,r,q⟩=>⟨B,Y,hb,r,q.bind.mono λt I v H1 s1 rv=>by
  split at I
  .rename_i x fs;obtain⟨a,dx,g6,rfl,M,S,rr⟩:=rv.Ag;split at I
   .rename_i z;obtain⟨rfl,hm⟩:=z;refine⟨a,dx,g6,rfl,dD M,AD S rr hm,B,Y,hb.same s1,r.same s1,(Fi.same (Fi.bind I) s1).mono λts b vs H2 s2 r2=>?_⟩;cases e:h (.ob x fs::ts)with
    |ok t=>
     rw[e]at b;exact⟨B,.ob x fs::ts,hb.same (s1.trans s2),by
      show bb X.K (bK B H2) (V.ref a::(vs++[])) (.ob x fs::ts);rw[j6];exact .cons ((Rep.ob M S rr).same (bj s2)) r2,t,e,λv H3 s3 r3=>b v H3 ((s1.trans s2).trans s3) r3⟩
    |exc c=>rw[e]at b;exact(b _ (aG.refl _)).elim
    |bad=>rw[e]at b;exact fe b
   .exact I.elim
  .exact I.elim⟩⟩
def ME{X:Cx}(D:MethAt X.K c m st ps f ai)(G:fK X.prog X.w X.K X.mg X.base rj k f ai ps (spT X.K h))(S:cQ k X.A)(ho:QE X o F)(ht:autoParam (eval (.Call (.Attribute o m b9) [] [] pos) X.env=yK pos b9 o m [] X.env pl) Rfz):QE X (.Call (.Attribute o m b9) [] [] pos) (λY=>vw c m h (F Y) (.ok [])):=⟨(BF (pl:=pl) ho.h D.cl D.mt G S D.bd .nil IH ht).weak λZ H Q ⟨B,Y,hb,r,q⟩=>⟨B,Y,hb,r,q.bind.mono λt b v H1 s1 rv=>by
  split at b
  .rename_i x fs;obtain⟨a,dx,g6,rfl,I,M,rr⟩:=rv.Ag;split at b
   .rename_i z;have L:Fi X H (h [.ob x fs]) _:=b;obtain⟨rfl,hm⟩:=z;refine⟨a,dx,g6,rfl,dD I,AD M rr hm,?_⟩;cases e:h [.ob x fs]with
    |ok t=>
     rw[e]at L;exact⟨B,[.ob x fs],hb.same s1,.cons (.ob I M rr) .nil,t,e,λv H3 s3 r3=>L v H3 (s1.trans s3) r3⟩
    |exc c=>rw[e]at L;exact(L _ (aG.refl _)).elim
    |bad=>rw[e]at L;exact fe L
   .exact b.elim
  .exact b.elim⟩⟩
def Zp(K:Frag)(B:eX)(H:Hp)(E:XK):Tr->Ab->Prop:=λc A=>∀B' H',Grows B H B' H'->HA K B' A H'->E (Uo K c) none H'
inductive Bt(K:Frag)(f:List Tr->Ab->Rz Tr)(vs:List V)(H:Hp)(Q:VK)(E:XK):Prop
 |mk (B:eX) (A:Ab) (ts:List Tr):HA K B A H->bb K (bK B H) vs ts->(gq (Zp K B H E) (f ts A) λt A'=>∀v B' H',Grows B H B' H'->HA K B' A' H'->Rep K (bK B' H') v t->Q v H')->Bt K f vs H Q E
def bx(r:Rz Out):Rz Tr:=r.bind λo A=>match o with
 |.nx _=>.ok .bM A
 |.ret t=>.ok t A
 |_=>.bad
def yH.okS {fd:FuncData}{h:List Tr->Ab->Rz Tr}(M:yH K x qual st f fd)(S:gJ N ps (aL st))(len:∀ts A,h ts A≠ .bad->ts.length=ps.length)
  (kG:∀(fL:Value) (A:Around) (outer:List Env) (s:Shared) (H:Hp) (E:XK),cQ k (A.deeper (envOfC qual (aL st) `a f fL))->
   ∃G,yF (oX (zv P w) P w K mg base N qual (aL st) f fL A outer s H E) (fG st) (tZ (oX (zv P w) P w K mg base N qual (aL st) f fL A outer s H E) G)/\∀ts A,h ts A≠ .bad->h ts A=bx (G (startT N.length ts) A)):fK P w K mg base (zv P w) (k+1) f fd ps (Bt K h):=by
 obtain⟨oc,od,kV,doc,pm,an,fL,ct,Ir,rfl,lk,GH⟩:=M.ex;have nb:∀{B:eX} {A:Ab} {H:Hp} {E:XK} {ts:List Tr} {k:Tr->Ab->Prop},gq (Zp K B H E) (h ts A) k->h ts A≠ .bad:=λ{B A H E ts k} q z=>by rw[z]at q;exact q
 refine NX lk GH S (λvs H Q E ⟨B,A,ts,ha,r,q⟩=>by rw[r.length];exact len ts A (nb q)) λA outer s H vs Q E hr ⟨B,b,ts,ha,r,q⟩=>?_
 obtain⟨G,hG,hE⟩:=kG fL A outer s H E hr;refine⟨_,hG,B,H,B,b,startT N.length ts,ha.hb,.refl,ha,bU.start r,xZ,?_⟩;rw[hE ts b (nb q)]at q;refine(gq.bind q).imp (λc A2 z B' H' g L e s x=>Je x (z B' H' g L))|>.mono λo A2 z=>?_
 cases o with
 |nx Y=>exact λcU B' H' g L I n'=>z .bM B' H' g L .bM
 |ret t=>exact λv B' H' g L I=>z v B' H' g L I
 |_=>exact fe z
def dN(n m:Nat)(G:bS->Ab->Rz Out)(ts:List Tr)(A:Ab):Rz Tr:=if ts.length=n then bx (G (startT m ts) A)else .bad
def CD(h:dN n m G ts A≠ .bad):ts.length=n:=by
 unfold dN at h;by_cases z:ts.length=n
 .exact z
 .rw[aA z]at h;exact absurd rfl h
def MF(h:dN n m G ts A≠ .bad):dN n m G ts A=bx (G (startT m ts) A):=by
 unfold dN;rw[av (CD h)]
def Eu{X:Cx}{h:List Tr->Ab->Rz Tr}{B1:eX}{Q:VK}(hb:HB B H)(g:Grows B H B1 H1)(ha:HA X.K B1 b H1)(r:bb X.K (bK B1 H1) vs ts)(q:gq (XE X B H) (h ts b) λt A'=>∀v B' H',Grows B H B' H'->HA X.K B' A' H'->Rep X.K (bK B' H') v t->Q v H'):Bt X.K h vs H1 Q (EX X):=
 ⟨B1,b,ts,ha,r,(q.imp λc A' z=>z.grow hb g).mono λt A' z v B' H' g' L I=>z v B' H' (g.trans hb g') L I⟩
def UC{X:Cx}(D:FE X.K X.mg x st ps f ai)(G:fK X.prog X.w X.K X.mg X.base (zv X.prog X.w) k f ai ps (Bt X.K h))(b:cQ k X.A)(ha:ZL X (ag::af) L)(I:autoParam (X.ex=[]) Rfz) (M:autoParam (Gl X x) Rfz) (iJ:autoParam (Db x) Dcz) (cJ:autoParam (bL (ag::af)=true) Rfz):ZE X (.Call (.Name x p) (ag::af) [] pos) (λY A=>(L Y A).bind h):=⟨have ha:=ha.h;(Fs (p:=p) (pos:=pos) G b M D.mg D.fn.kp D.bd .nil (nj I) ha (iJ:=iJ) (he:=bA _ _ (aI cJ).1) (Aa:=b_ (aI cJ).2)).weak λZ H Q ⟨B,A,Y,ha,r,n,q⟩=>⟨B,A,Y,ha,r,n,q.bind.mono λts A1 S vs B1 H1 g1 jO r1=>by
  show Bt X.K h (vs++[]) H1 Q (EX X);rw[j6];exact Eu ha.hb g1 jO r1 S⟩⟩
def vx(c m:Str)(h:List Tr->Ab->Rz Tr)(r:Rz Tr)(l:Ab->Rz (List Tr)):Rz Tr:=r.bind λt A=>match t with
 |.at i=>match A[i]? with
  |some (.ins x fs)=>if x=c/\DK fs m=true then(l A).bind λts A=>h (.at i::ts) A else .bad
  |_=>.bad
 |_=>.bad
def F3(b:HA K B A H)(q:B.ix a=some i)(e:A[i]?=some (.ins x fs))(hm:DK fs m=true):∃dx g6,H a=some (.ins (clsAt K x) dx g6)/\g6.lookup m=none:=by
 obtain⟨_,dx,g6,h1,_,_,h4,L⟩:=b.get q e;refine⟨dx,g6,h1,?_⟩;rcases nV m h4 L with⟨_,z⟩|⟨t,v,z,_⟩
 .exact z
 .unfold DK at hm;rw[z]at hm;cases hm
def QL{X:Cx}(D:MethAt X.K c m st ps f ai)(G:fK X.prog X.w X.K X.mg X.base (zv X.prog X.w) k f ai ps (Bt X.K h))(S:cQ k X.A)(ho:ZO X o F)(ha:ZL X (ag::af) L)(hx:autoParam (X.ex=[]) Rfz) (cJ:autoParam (bL (ag::af)=true) Rfz) (ht:autoParam (eval (.Call (.Attribute o m b9) (ag::af) [] pos) X.env=yK pos b9 o m (ag::af) X.env pl) Rfz):ZE X (.Call (.Attribute o m b9) (ag::af) [] pos) (λY A=>vx c m h (F Y A) (L Y)):=⟨have ha:=ha.h;(Ft (pl:=pl) ho.h D.cl D.mt G S D.bd .nil (nj hx) ha (cJ:=bA _ _ (aI cJ).1) (Aa:=b_ (aI cJ).2) ht).weak λZ H Q ⟨B,A,Y,ha,r,n,q⟩=>⟨B,A,Y,ha,r,n,q.bind.mono λt A1 b v B1 H1 g1 I rv=>by
  split at b
  .obtain⟨a,rfl,M⟩:=rv.nN;split at b
   .rename_i eo;obtain⟨⟨rfl,hm⟩,q2⟩:=g7 b;obtain⟨dx,g6,k1,k2⟩:=F3 I M eo hm;refine⟨a,dx,g6,rfl,k1,k2,B1,A1,Y,I,r.grow n g1,n,((gq.bind q2).imp λc A' z=>z.grow ha.hb g1).mono λts A2 qs vs B2 H2 g2 p4 rs=>?_⟩;show Bt X.K h (.ref a::(vs++[])) H2 Q (EX X);rw[j6];exact Eu ha.hb (g1.trans ha.hb g2) p4 (.cons (.at (g2.jv.x _ _ M)) rs) qs
   .exact b.elim
  .exact b.elim⟩⟩
def MG{X:Cx}(D:MethAt X.K c m st ps f ai)(G:fK X.prog X.w X.K X.mg X.base (zv X.prog X.w) k f ai ps (Bt X.K h))(M:cQ k X.A)(S:ZO X o F)(hx:autoParam (X.ex=[]) Rfz) (ht:autoParam (eval (.Call (.Attribute o m b9) [] [] pos) X.env=yK pos b9 o m [] X.env pl) Rfz):ZE X (.Call (.Attribute o m b9) [] [] pos) (λY A=>vx c m h (F Y A) λA=>.ok [] A):=⟨(BF (pl:=pl) S.h D.cl D.mt G M D.bd .nil (nj hx) ht).weak λZ H Q ⟨B,A,Y,ha,r,n,q⟩=>⟨B,A,Y,ha,r,n,q.bind.mono λt A1 L v B1 H1 g1 b rv=>by
  split at L
  .obtain⟨a,rfl,I⟩:=rv.nN;split at L
   .rename_i eo;obtain⟨⟨rfl,hm⟩,q2⟩:=g7 L;obtain⟨dx,g6,k1,k2⟩:=F3 b I eo hm;refine⟨a,dx,g6,rfl,k1,k2,?_⟩;show Bt X.K h [.ref a] H1 Q (EX X);exact Eu ha.hb g1 b (.cons (.at I) .nil) q2
   .exact L.elim
  .exact L.elim⟩⟩
noncomputable abbrev Zq:List Value:=[.type "ValueError",.type "Exception",.type "BaseException",.type "object"]
structure rE(K:Frag)(mg:Str->Option Value)(x:Str):Prop where
 mg:mg x=some (.ref (clsAt K x))
 ex:PySem.W.excIn K (clsAt K x) Zq "ValueError.__new__"=true
def MH(X:K.In h)(q:PySem.W.excIn K C b newId=true):
  ∃bm N nm r bs hd sn sub ab col dd k0 k1 k2 k3 k5 mN,h.get? C=some (excClassObj nm r C N bs bm hd sn sub ab col dd k0 k1 k2 k3 k5 newId)/\h.Ns N mN/\mN "__init__"=none/\OwnTail h b bm:=by
 unfold PySem.W.excIn at q;split at q
 .rename_i S cd sl ho;split at q
  .rename_i C2 bm j0 j1 j2 j3 n j5 hm hs;simp only[bg,fF,pj]at q;obtain⟨⟨⟨⟨⟨e1,e2⟩,e3⟩,e4⟩,e5⟩,e6⟩:=q;subst e1 e2;obtain⟨nm,bs,mro,ns,r,hd,sn,sub,ab,col,del⟩:=cd;have L:mro=_:=hm;have Sq:del=false:=e3;have M:PySem.W.nsOkIn K ns=true:=e5;have I:PySem.W.nsIn K ns "__init__"=some none:=e6;subst L Sq;obtain⟨l⟩:=sl;have XT:l=_:=hs;subst XT;exact⟨bm,ns,nm,r,bs,hd,sn,sub,ab,col,S,j0,j1,j2,j3,j5,_,X _ _ ho,.of_isNs (PySem.W.isNs_of_in X M),PySem.W.nsMap_none_of_in X M I,PySem.W.tail_of_in X e4⟩
  .cases q
 .cases q
def Jq(x:Str)(l:Rz (List Tr)):Rz Out:=l.bind λts A=>if ts.length<=dy then .exc (.str x) A else .bad
def eP{X:Cx}(D:rE X.K X.mg x)(ha:ZL X (ag::af) L)(hx:autoParam (X.ex=[]) Rfz) (hc:autoParam (X.calm=true) Rfz) (hg:autoParam (Gl X x) Rfz) (iJ:autoParam (Db x) Dcz) (cJ:autoParam (bL (ag::af)=true) Rfz):ZS X (.Raise (some (.Call (.Name x np) (ag::af) [] cN)) none pos) (λY A=>Jq x (L Y A)):=⟨by
 intro U s Z H D' I ⟨B0,H0,B,A,Y,hb,g,hA,r,n,q⟩;obtain⟨bm,N,nm,qn,bs,hd,sn,sub,ab,col,dd,k0,k1,k2,k3,k5,mN,hC,hN,S,T⟩:=MH (h:=X.base) I.ok.mod.OW D.ex;have UD:starEach (ag::af) X.env=(false,eval ag X.env)::starEach af X.env:=bA _ _ (aI cJ).1;have Aa:(backTo cN (starEach af X.env)).any (·.1)=false:=b_ (aI cJ).2;refine wpAny_Raise_call_subU (C:=clsAt X.K x) (nm:=nm) (q:=qn) (N:=N) (bs:=bs) (bm:=bm) (hdct:=hd) (sn:=sn) (sub:=sub) (ab:=ab) (col:=col) (dd:=dd) (k0:=k0) (k1:=k1) (k2:=k2) (k3:=k3) (k5:=k5)
  Bv ∅ Bv (mN:=mN) (T.hasType ∅) (I.ok.hd hc) (by rw[UD];show(false||(backTo cN (starEach af X.env)).any (·.1))=false;rw[Aa];rfl) S
  (qF I hg D.mg ⟨rfl,?_⟩ iJ)
 have Zs:=ha.h cN U s Z H (λvs H2=>vs.length<=sizeLine/\EX X (.ref (clsAt X.K x)) none H2) I ⟨B,A,Y,hA,r,n,((gq.bind q).imp λc A' z=>z.grow hb g).mono λts A2 qt vs B2 H2 g2 p4 rs=>by
  obtain⟨hl,q2⟩:=g7 qt;exact⟨by rwa[rs.length,<-iR],(show XE X B0 H0 (.str x) A2 from q2) B2 H2 (g.trans hb g2) p4⟩⟩
 rw[UD]at Zs⊢;refine mJ (d7 Zs λus s2 ⟨vs,H2,M,rv,hl,hE⟩=>⟨rfl,by rwa[<-rv.length],M.bk _ _ hC,hN.keeps M.bk,T.keeps M.bk,λh' a hm=>hE _ _ ?_⟩);obtain⟨t,e1,e2,e3⟩:=hm.there;refine⟨a,U,Z,s2.heap,rfl,M.kept (t':=s2.toks) hm.keeps,⟨⟨_,_,_,e1,rfl,rfl,rfl,.inl rfl⟩,?_,hm.new⟩,λb n=>M.Co hx n,λp hp=>⟨_,(M.pin p (jX _ hp)).1⟩,λb nb=>by
  cases z:s2.heap.get? b with
  |none=>rfl
  |some o=>rw[hm.keeps b o z]at nb;cases nb⟩
 cases z:H2 a with
 |none=>rfl
 |some o=>
  obtain⟨u,e4⟩:=(M.cy a o z).get;rw[hm.new]at e4;cases e4⟩
def Hg:swapsWith e (some (.Subscript o i p)) n env=pure false:=by cases e<;>rfl
def Hh:swapsWith e (some (.Attribute o f p)) n env=pure false:=by cases e<;>rfl
noncomputable def zD(f:Str)(t:Tr):List (Str×Tr)->List (Str×Tr)
 |[]=>[(f,t)]
 |(g,x)::r=>if g=f then(g,t)::r else(g,x)::zD f t r
theorem CF(b:Rep K W v t):∀{g6:List (Str×V)} {fs:List (Str×Tr)},g6.map (·.1)=fs.map (·.1)->bb K W (g6.map (·.2)) (fs.map (·.2))->(m5 f v g6).map (·.1)=(zD f t fs).map (·.1)/\bb K W ((m5 f v g6).map (·.2)) ((zD f t fs).map (·.2))
 |[],[],_,_=>⟨rfl,.cons b .nil⟩
 |[],_::_,e,_=>by cases e
 |_::_,[],e,_=>by cases e
 |(k1,v1)::g6,(k2,t2)::fs,e,r=>by
  rw[a_,a_]at e;injection e with q L
  have I:k1=k2:=q;subst I;cases r with
  |cons M r=>
   unfold m5 zD;by_cases z:k1=f
   .rw[av z,av z];exact⟨by rw[a_,a_,L],.cons b r⟩
   .rw[aA z,aA z];obtain⟨p1,S⟩:=CF b L r;exact⟨by rw[a_,a_,p1],.cons M S⟩
def lookup_some{g6:List (Str×V)}{fs:List (Str×Tr)}(h:g6.map (·.1)=fs.map (·.1))(r:bb K W (g6.map (·.2)) (fs.map (·.2)))(e:fs.lookup f=some t):∃v,g6.lookup f=some v/\Rep K W v t:=by
 rcases nV f h r with⟨z,_⟩|⟨t',v,z,ev,rv⟩
 .cases e.symm.trans z
 .cases e.symm.trans z;exact⟨v,ev,rv⟩
structure kM(K:Frag)(xs:List Str)(f:Str):Prop where
 all:∀x∈xs,DX K (clsAt K x)/\rQ K (clsAt K x) f
def lP(xs:List Str)(f:Str):Tr->Rs Tr
 |.ob x fs=>if xs.contains x=true then jx (fs.lookup f)else .bad
 |_=>.bad
theorem cf{X:Cx}(T:kM X.K xs f)(he:QE X e F)(hb:attributeBase e f X.env (eval e X.env)=eval e X.env:=by first|exact ig rfl|rfl):QE X (.Attribute e f pos) (λY=>(F Y).bind (lP xs f)):=⟨(Io he.h hb).weak λZ H Q ⟨B,Y,hb,r,q⟩=>⟨B,Y,hb,r,q.bind.mono λt L v H1 s1 rv=>by
  unfold lP at L;split at L
  .obtain⟨a,dx,g6,rfl,h,b,rr⟩:=rv.Ag;split at L
   .rename_i I;obtain⟨t,M,k⟩:=il L;have c:=T.all _ (dz.mp I);obtain⟨v,ev,rv⟩:=lookup_some b rr M;exact⟨a,_,dx,g6,v,rfl,dD h,c.1,c.2,ev,k v H1 s1 rv⟩
   .exact L.elim
  .exact L.elim⟩⟩
def uZ(xs:List Str)(f:Str)(r:Rz Tr):Rz Tr:=r.bind λt A=>match t with
 |.at i=>match A[i]? with
  |some (.ins x fs)=>if xs.contains x=true then kJ (jx (fs.lookup f)) A else .bad
  |_=>.bad
 |_=>.bad
theorem kN{X:Cx}(T:kM X.K xs f)(he:ZE X e G)(hb:attributeBase e f X.env (eval e X.env)=eval e X.env:=by first|exact ig rfl|rfl):ZE X (.Attribute e f pos) (λY A=>uZ xs f (G Y A)):=⟨(Io he.h hb).weak λZ H Q ⟨B,A,Y,ha,r,n,q⟩=>⟨B,A,Y,ha,r,n,q.bind.mono λt A1 L v B1 H1 g1 b rv=>by
  split at L
  .obtain⟨a,rfl,I⟩:=rv.nN;split at L
   .rename_i M;obtain⟨S,q2⟩:=g7 L;obtain⟨_,dx,g6,h1,_,_,h4,h5⟩:=b.get I M;have c:=T.all _ (dz.mp S);obtain⟨t,et,k⟩:=il (pY (X:=X) (H:=H1) q2);obtain⟨v,ev,rv⟩:=lookup_some h4 h5 et;exact⟨a,_,dx,g6,v,rfl,h1,c.1,c.2,ev,k v B1 H1 g1 b rv⟩
   .exact L.elim
  .exact L.elim⟩⟩
def XU(xs:List Str)(f:Str)(v:Rz Tr)(o:Ab->Rz Tr)(Y:bS):Rz Out:=v.bind λL A=>(o A).bind λt A=>match t with
 |.at i=>match A[i]? with
  |some (.ins x fs)=>if xs.contains x=true/\fs.length<1000 then .ok (.nx Y) (A.set i (.ins x (zD f L fs)))else .bad
  |_=>.bad
 |_=>.bad
theorem p5{X:Cx}(T:kM X.K xs f)(M:ZE X o G)(S:ZE X value E):ZS X (.Assign [.Attribute o f pos'] value pos) (λY A=>XU xs f (E Y A) (G Y) Y):=⟨(Pe M.h S.h Hh).weak λD Z H ⟨B0,H0,B,A,Y,hb,g,ha,r,n,q⟩=>pZ hb g ha r n q.bind λtv A1 v B1 H1 q1 g1 jO r1 rv _=>pZ hb g1 jO r1 n (gq.bind q1) λt A2 w B2 H2 L g2 I r2 q_ XW=>by
  split at L
  .obtain⟨a,rfl,b⟩:=q_.nN;split at L
   .rename_i i _ x fs eo;obtain⟨⟨hx,hl⟩,q3⟩:=g7 L;obtain⟨hd,dx,g6,h1,h2,h3,h4,h5⟩:=I.get b eo;have c:=T.all x (dz.mp hx);have c4:g6.length=fs.length:=by have:=cF List.length h4;rw[aP,aP]at this;exact this
    obtain⟨p1,p2⟩:=CF (f:=f) (rv.same XW.jv) h4 h5;have XB:dx≠a:=λz=>by rw[z,show B2.ix a=some i from b]at h3;cases h3
    obtain⟨g3,h6⟩:=I.write (o:=.ins x (zD f tv fs)) (u:=.ins (clsAt X.K x) dx (m5 f v g6)) b ⟨hd,dx,_,bp,by rwa[aM XB],h3,p1,by rwa[jg hd]⟩;exact⟨a,_,dx,g6,rfl,h1,c.1,c.2,by rwa[c4],q3 Z B2 _ (g2.trans hb g3) h6 (r2.grow n g3) n⟩
   .exact L.elim
  .exact L.elim⟩
def F4(q:gq b (mH r A) k):Fi X H r λt=>G9 t=true/\k t A:=by
 cases r with
 |ok t=>exact g7 q
 |exc c=>exact fe q
 |bad=>exact q
def QM(h:Tr->Tr->Rs Tr)(a:Rz Tr)(b:Ab->Rz Tr):Rz Tr:=a.bind λx A=>(b A).bind λy A=>mH (h (aF 1 A x) (aF 1 A y)) A
def Hi{F G:bS->Ab->Rz Tr}(q:tE X (λY A=>QM h (F Y A) (G Y)) Z H Q):O6 (rT X h) (tE X F) (tE X G) Z H Q:=by
 obtain⟨B,A,Y,ha,r,n,q⟩:=q;refine⟨B,A,Y,ha,r,n,q.bind.mono λx I M v B1 H1 g1 S rv=>⟨B1,I,Y,S,r.grow n g1,n,((gq.bind M).imp λc A' z=>z.grow ha.hb g1).mono λy b qy u B2 H2 g2 L ru=>?_⟩⟩;refine⟨B2.un,aF 1 b x,aF 1 b y,Cm L.hb,ir L 1 (rv.same g2.jv),ir L 1 ru,(F4 qy).mono λt ⟨ft,k⟩ w H3 s3 q_=>?_⟩;exact k w B2 H3 ((g1.trans ha.hb g2).trans ha.hb (.of s3)) (L.same s3) (uR (L.same s3) q_ ft)
def uj{X:Cx}(r:X.A.units+1<cLine)(h1:ZO X a F)(h2:ZE X b G)(hs:Ae b:=by exact λ_ _=>rfl):ZE X (.Subscript a b pos) (λY A=>QM fU (F Y A) (G Y)):=⟨(NZ (T' r) h1.h h2.h hs).weak λ_ _ _ q=>Hi q⟩
def Ov(h:List Tr->Rs Tr)(l:Rz (List Tr)):Rz Tr:=l.bind λts A=>mH (h (ts.map (aF 1 A))) A
def Ew{L:bS->Ab->Rz (List Tr)}(q:tE X (λY A=>Ov h (L Y A)) Z H Q):V4 (rC X h) (Sw X L) Z H Q:=by
 obtain⟨B,A,Y,ha,r,n,q⟩:=q;refine⟨B,A,Y,ha,r,n,q.bind.mono λts I M vs B1 H1 g1 b rs=>?_⟩;exact⟨B1.un,ts.map (aF 1 I),Cm b.hb,ng (λr=>ir b 1 r) rs,(F4 M).mono λt ⟨S,k⟩ w H3 s3 q_=>k w B1 H3 (g1.trans ha.hb (.of s3)) (b.same s3) (uR (b.same s3) q_ S)⟩
def MI{id:String}(b:m9 X (.builtin id) h)(hm:X.mg x=none)(r:ZL X (ag::af) L)(I:autoParam (bootBuiltins x=some (.builtin id)) Rfz) (M:autoParam (Gl X x) Rfz) (S:autoParam (x≠"__name__") Dcz) (iJ:autoParam (Db x) Dcz) (cJ:autoParam (bL (ag::af)=true) Rfz):ZE X (.Call (.Name x p) (ag::af) [] pos) (λY A=>Ov h (L Y A)):=⟨(tM b M hm I r.h S iJ (bA _ _ (aI cJ).1) (b_ (aI cJ).2)).weak λ_ _ _ q=>Ew q⟩
def zE(A:Ab)(t b q:Tr):Option Ab:=match t,jw b with
 |.at i,some k=>match A[i]? with
  |some (.bh aS)=>if aS.length<dy then some (A.set i (.bh (fB aS k q)))else none
  |_=>none
 |_,_=>none
def UE(v:Rz Tr)(o k:Ab->Rz Tr)(Y:bS):Rz Out:=v.bind λL A=>(o A).bind λt A=>(k A).bind λb A=>match zE A t b L with
 |some A'=>.ok (.nx Y) A'
 |none=>.bad
theorem dE.length (h:dE K W kvs aS):kvs.length=aS.length:=by
 have e:=cF List.length h.keys;rw[aP,aP]at e;exact e
def Ex(e:zE A t b q=some A'):∃j aS key,t=.at j/\jw b=some key/\A[j]?=some (.bh aS)/\aS.length<dy/\A'=A.set j (.bh (fB aS key q)):=by
 unfold zE at e;split at e
 .rename_i L;split at e
  .rename_i r;split at e
   .rename_i I;cases e;exact⟨_,_,_,rfl,L,r,I,rfl⟩
   .cases e
  .cases e
 .cases e
def fD{X:Cx}(hu:X.A.units+1<cLine)(ho:ZO X o F)(hi:ZE X i G)(hv:ZE X value E):ZS X (.Assign [.Subscript o i pos'] value pos) (λY A=>UE (E Y A) (F Y) (G Y) Y):=⟨(LN hu ho.h hi.h hv.h Hg).weak λD Z H ⟨B0,H0,B,A,Y,hb,g,ha,r,n,q⟩=>pZ hb g ha r n q.bind λtv A1 v B1 H1 q1 g1 jO r1 rv _=>pZ hb g1 jO r1 n (gq.bind q1) λt A2 w B2 H2 q2 g2 p4 r2 q_ XW=>pZ hb g2 p4 r2 n (gq.bind q2) λtk A3 y B3 H3 L g3 I r3 ry M=>by
  have b:=q_.same M.jv;have Wg:=(rv.same XW.jv).same M.jv;split at L
  .rename_i ed;obtain⟨j,aS,key,rfl,ek,eo,hl,rfl⟩:=Ex ed;obtain⟨c,rfl,S⟩:=b.nN;obtain⟨hd,kvs,h1,h2⟩:=I.get S eo;cases nP ry ek;obtain⟨g4,h6⟩:=I.write (o:=.bh (fB aS key tv)) (u:=.dK (putK kvs key v)) S ⟨hd,_,bp,by rw[jg hd];exact h2.put key Wg⟩;exact⟨c,_,rfl,D6.k h1 (by rwa[h2.length,<-iR]),L Z B3 _ (g3.trans hb g4) h6 (r3.grow n g4) n⟩
  .exact L.elim⟩
noncomputable def iu(aS:List (Key×Tr))(k:Key):List (Key×Tr):=aS.filter λL=>decide (L.1≠k)
theorem dE.drop (k:Key):∀{kvs:List (Key×V)} {aS:List (Key×Tr)},dE K W kvs aS->dE K W (rh kvs k) (iu aS k)
 |[],[],_=>.nil
 |[],_::_,h=>by cases h.keys
 |_::_,[],h=>by cases h.keys
 |(k1,v1)::kvs,aS,h=>by
  obtain⟨t,r,rfl,rv,b⟩:=h.inv;have L:=dE.drop k b;unfold rh iu at L⊢;by_cases z:k1=k
  .rwa[i_ (by simp[z]),i_ (by simp[z])]
  .rw[jW (by simp[z]),jW (by simp[z])];exact .cons rv L
def nq(A:Ab)(i:Nat):Bool:=match A[i]? with
 |some (.bh _)=>true
 |_=>false
def qL(b:HA K B A H)(e:B.ix a=some i)(h:nq A i=true):∃aS kvs,A[i]?=some (.bh aS)/\B.hd a=true/\H a=some (.dK kvs)/\dE K (bK B H) kvs aS:=by
 obtain⟨o,L,q⟩:=b.ex e;unfold nq at h;rw[L]at h;cases o with
 |bh aS=>obtain⟨hd,kvs,h1,h2⟩:=q;exact⟨aS,kvs,L,hd,h1,h2⟩
 |_=>cases h
def Zu{α:Type}(o:Rz Tr)(k:Ab->Rz Tr)(f:Nat->Key->Ab->Rz α):Rz α:=o.bind λt A=>match t with
 |.at i=>if nq A i=true then(k A).bind λL A=>match jw L with
  |some key=>f i key A
  |none=>.bad
  else .bad
 |_=>.bad
def oZ(A:Ab)(i:Nat):List (Key×Tr):=match A[i]? with
 |some (.bh aS)=>aS
 |_=>[]
def Ow(o:Rz Tr)(k:Ab->Rz Tr):Rz Tr:=Zu o k λi key A=>if nq A i=true then match du (oZ A i) key with
 |some v=>.ok v (A.set i (.bh (iu (oZ A i) key)))
 |none=>.bad
 else .bad
def AE{A:Ab}(h:A[aa]?=some (.bh aS)):oZ A aa=aS:=by unfold oZ;rw[h]
def Ey{cN:Pos}(ho:ZO X o F)(he:ZE X e G)(hb:autoParam (isCall o=false) Rfz) (cJ:autoParam (bL [e]=true) Rfz) (hl:autoParam ((b9.endLine==cN.line)=true) Rfz):ZE X (.Call (.Attribute o "pop" b9) [e] [] cN) (λY A=>Ow (F Y A) (G Y)):=⟨(IE ho.h he.h (Uh hb cJ hl)).weak λZ H Q ⟨B,A,Y,ha,r,n,q⟩=>⟨B,A,Y,ha,r,n,q.bind.mono λt A1 I v B1 H1 g1 S rv=>by
  split at I
  .obtain⟨a,rfl,rf⟩:=rv.nN;rename_i i;obtain⟨hd,q2⟩:=g7 I;obtain⟨aS,kvs,e1,e2,e3,e4⟩:=qL S rf hd;refine⟨a,rfl,.inl ⟨_,.inl e3⟩,B1,A1,Y,S,r.grow n g1,n,((gq.bind q2).imp λc A' z=>z.grow ha.hb g1).mono λtk A2 b y B2 H2 g2 p4 ry=>?_⟩;have AF:=g2.jv.x _ _ rf;cases M:jw tk with
   |none=>simp only[M]at b;exact fe b
   |some key=>
    simp only[M]at b;obtain⟨hd2,L⟩:=g7 b;obtain⟨QN,Jr,f1,f2,f3,f4⟩:=qL p4 AF hd2;rw[AE f1]at L;have ey:=nP ry M;subst ey;rcases qJ key f4.keys f4.vals with⟨z,_⟩|⟨t,w,z,ev,q_⟩
    .simp only[z]at L;exact fe L
    .simp only[z]at L;obtain⟨g4,h6⟩:=p4.write (o:=.bh (iu QN key)) (u:=.dK (rh Jr key)) AF ⟨f2,_,bp,by rw[jg f2];exact f4.drop key⟩;exact⟨Jr,key,w,f3,rfl,ev,L w B2 _ ((g1.trans ha.hb g2).trans ha.hb g4) h6 (by rwa[jg f2])⟩
  .exact I.elim⟩⟩
def Ox(o:Rz Tr)(k x:Ab->Rz Tr):Rz Tr:=Zu o k λi key A=>(x A).bind λL A=>if nq A i=true then match du (oZ A i) key with
 |some v=>.ok v (A.set i (.bh (iu (oZ A i) key)))
 |none=>.ok L A
 else .bad
def QQ{cN:Pos}(ho:ZO X o F)(he:ZE X e G)(hf:ZE X f E)(hb:autoParam (isCall o=false) Rfz) (cJ:autoParam (bL [e,f]=true) Rfz) (hl:autoParam ((b9.endLine==cN.line)=true) Rfz):ZE X (.Call (.Attribute o "pop" b9) [e,f] [] cN) (λY A=>Ox (F Y A) (G Y) (E Y)):=⟨(IF ho.h he.h hf.h (Oh hb cJ hl)).weak λZ H Q ⟨B,A,Y,ha,r,n,q⟩=>⟨B,A,Y,ha,r,n,q.bind.mono λt A1 qt v B1 H1 g1 jO rv=>by
  split at qt
  .obtain⟨a,rfl,rf⟩:=rv.nN;rename_i i;obtain⟨hd,q2⟩:=g7 qt;obtain⟨aS,kvs,e1,e2,e3,e4⟩:=qL jO rf hd;refine⟨a,rfl,.inl ⟨_,.inl e3⟩,B1,A1,Y,jO,r.grow n g1,n,((gq.bind q2).imp λc A' z=>z.grow ha.hb g1).mono λtk A2 M y B2 H2 g2 p4 ry=>?_⟩;have S:=g1.trans ha.hb g2;cases ek:jw tk with
   |none=>simp only[ek]at M;exact fe M
   |some key=>
    simp only[ek]at M;refine⟨B2,A2,Y,p4,r.grow n S,n,((gq.bind M).imp λc A' z=>z.grow ha.hb S).mono λtx A3 qx z B3 H3 g3 FY rz=>?_⟩;have UG:=g3.jv.x _ _ (g2.jv.x _ _ rf);obtain⟨hd3,L⟩:=g7 qx;obtain⟨XX,UH,f1,f2,f3,f4⟩:=qL FY UG hd3;rw[AE f1]at L;have ey:=nP ry ek;subst ey;refine⟨UH,key,f3,rfl,λw ev=>?_,λev=>?_⟩
    .rcases qJ key f4.keys f4.vals with⟨_,b⟩|⟨t,w2,b,I,q_⟩
     .rw[ev]at b;cases b
     .rw[ev]at I;cases I;simp only[b]at L;obtain⟨g4,h6⟩:=FY.write (o:=.bh (iu XX key)) (u:=.dK (rh UH key)) UG ⟨f2,_,bp,by rw[jg f2];exact f4.drop key⟩;exact L w B3 _ ((S.trans ha.hb g3).trans ha.hb g4) h6 (by rwa[jg f2])
    .rcases qJ key f4.keys f4.vals with⟨z1,_⟩|⟨t,w2,b,I,_⟩
     .simp only[z1]at L;exact L z B3 H3 (S.trans ha.hb g3) FY rz
     .rw[ev]at I;cases I
  .exact qt.elim⟩⟩
def CG(c:Str)(h:List Tr->Ab->Rz Tr)(l:Rz (List Tr)):Rz Tr:=l.bind λts A=>(h (.at A.length::ts) (A++[.ins c []])).bind λt A'=>if T9 t=true then .ok (.at A.length) A' else .bad
structure Ez(K:Frag)(mg:Str->Option Value)(c:Str)(ps:List Str)(fa:Addr)(fd:FuncData):Prop where
 UJ:Mk K (clsAt K c) fa
 bd:Binds K fd ps []
 mg:mg c=some (.ref (clsAt K c))
def F5{X:Cx}{h:List Tr->Ab->Rz Tr}{B1:eX}{Q:VK}(hb:HB B H)(g:Grows B H B1 H1)(r:HA X.K B1 b H1)(rs:bb X.K (bK B1 H1) vs ts)
  (q:gq (XE X B H) ((h (.at b.length::ts) (b++[.ins c []])).bind λt A'=>if T9 t=true then .ok (.at b.length) A' else .bad) λt A'=>∀v B' H',Grows B H B' H'->HA X.K B' A' H'->Rep X.K (bK B' H') v t->Q v H')
  (x dx:Addr) (h1:H1 x=none) (h2:H1 dx=none) (h3:dx≠x):Bt X.K h (.ref x::vs) (upd (upd H1 dx (.own x)) x (.ins (clsAt X.K c) dx [])) (λv H2=>v=.bM/\Q (.ref x) H2) (EX X):=by
 have s1:aG H1 (upd (upd H1 dx (.own x)) x (.ins (clsAt X.K c) dx [])):=((aG.upd h2).trans (aG.upd (by rwa[aM (Ne.symm h3)])));obtain⟨g1,L⟩:=r.push (p:=x) (o:=.ins c []) h1 s1 ⟨qK,dx,[],bp,by rw[aM h3,bp],by rw[iq h3];exact r.free h2,rfl,.nil⟩;refine⟨_,_,_,L,.cons (.at ip) (rs.same g1.jv),((gq.bind q).imp λc A' z=>z.grow hb (g.trans hb g1)).mono λt A' z v B' H' g' I M=>?_⟩;obtain⟨S,z2⟩:=g7 z;refine⟨?_,z2 (.ref x) B' H' ((g.trans hb g1).trans hb g') I (.at (g'.jv.x _ _ ip))⟩;have e:=Ap M;rw[S]at e;exact fg e
def QR{X:Cx}(D:Ez X.K X.mg c ps fa ai)(G:fK X.prog X.w X.K X.mg X.base (zv X.prog X.w) k fa ai ps (Bt X.K h))(b:cQ (k+1) X.A)(ha:ZL X (ag::af) L)(I:autoParam (X.ex=[]) Rfz) (M:autoParam (Gl X c) Rfz) (iJ:autoParam (Db c) Dcz) (cJ:autoParam (bL (ag::af)=true) Rfz):ZE X (.Call (.Name c p) (ag::af) [] pos) (λY A=>CG c h (L Y A)):=⟨have ha:=ha.h;(Lz (p:=p) (pos:=pos) D.UJ G b M D.mg D.bd .nil (nj I) ha (iJ:=iJ) (he:=bA _ _ (aI cJ).1) (Aa:=b_ (aI cJ).2)).weak λZ H Q ⟨B,A,Y,ha,r,n,q⟩=>⟨B,A,Y,ha,r,n,q.bind.mono λts A1 S vs B1 H1 g1 jO rs x dx h1 h2 h3=>by
  show Bt X.K h (.ref x::(vs++[])) _ _ _;rw[j6];exact F5 ha.hb g1 jO rs S x dx h1 h2 h3⟩⟩
def MJ{X:Cx}(D:Ez X.K X.mg c ps fa ai)(G:fK X.prog X.w X.K X.mg X.base (zv X.prog X.w) k fa ai ps (Bt X.K h))(b:cQ (k+1) X.A)(I:autoParam (X.ex=[]) Rfz) (M:autoParam (Gl X c) Rfz) (iJ:autoParam (Db c) Dcz):ZE X (.Call (.Name c p) [] [] pos) (λ_ A=>CG c h (.ok [] A)):=⟨(Iq (p:=p) (pos:=pos) D.UJ G b M D.mg D.bd .nil (nj I) (iJ:=iJ)).weak λZ H Q ⟨B,A,Y,ha,r,n,q⟩ x dx h1 h2 h3=>F5 (vs:=[]) (ts:=[]) ha.hb .refl ha .nil q x dx h1 h2 h3⟩
def MK{X:Cx}(ok:X.Ok):∀b∈X.fs,b∈jK X.stack:=λb hb=>by
 rcases ok.K_ with e|⟨e,_⟩
 .rwa[e]
 .rw[e];obtain⟨v,L,hf⟩:=nG.mp hb;exact nG.mpr ⟨v,bG _ L,hf⟩
def Inv.QU {X:Cx}{hs:List Addr}(I:Inv X U Z H s)(hx:X.ex=[])
  (kp:∀b o,b∉hs->b∉jK X.stack->s.heap.get? b=some o->h'.get? b=some o) (sl:∀b o,b∈jK X.stack->s.heap.get? b=some o->∃sl,h'.get? b=some {o with slots:=sl})
  (hn:∀b∈hs,H b=none/\X.hU.heap.get? b=none/\(∀p∈X.pn++U,p.1≠b)/\((∃o ws,s.heap.get? b=some o/\o.data=.fields ws)\/s.heap.get? b=none)):Inv X U Z H {s with heap:=h'}:=by
 have XY:∀b:Addr,b∉X.ex:=λb=>by rw[hx];simp
 have any:∀b o,b∉hs->s.heap.get? b=some o->∃sl,h'.get? b=some {o with slots:=sl}:=λb o nb e=>by
  by_cases m:b∈jK X.stack
  .exact sl b o m e
  .exact⟨o.slots,kp b o nb m e⟩
 have Zv:∀b o,s.heap.get? b=some o->(∀ws,o.data≠ .fields ws)->b∉hs:=λb o e d m=>by
  rcases(hn b m).2.2.2 with⟨o2,ws,L,d2⟩|L
  .rw[e]at L;cases L;exact d ws d2
  .rw[e]at L;cases L
 have cellK:∀c v,s.heap.IsCell c v->h'.IsCell c v:=λc v ⟨o,ho,hd⟩=>by
  obtain⟨s1,M⟩:=any c o (Zv c o ho λws z=>by rw[hd]at z;cases z) ho;exact⟨_,M,hd⟩
 have old:∀b o,X.hU.heap.get? b=some o->b∉hs:=λb o e m=>by rw[(hn b m).2.1]at e;cases e
 refine⟨I.ok,I.os,I.bare,⟨λb o e n hb _=>?_,λb o e n hb _=>?_,I.base.free,λb o e _=>?_,I.base.oW,I.base.mZ,I.base.pL⟩,?_,λx c e=>?_,I.free,I.gx,λp hp=>?_,λb u e=>?_,I.len⟩
 .refine kp b o (old b o e) (λm=>?_) (I.base.keep b o e n hb (XY b));rcases aZ.mp (I.xo b m)with z|z
  .exact absurd (dA (bC e) I.ok.above) (by rw[z];exact eN _)
  .exact hb z
 .obtain⟨s1,M⟩:=I.base.slot b o e n hb (XY b);obtain⟨s2,L⟩:=sl b _ (MK I.ok b hb) M;exact⟨s2,L⟩
 .obtain⟨o1,M⟩:=I.base.there b o e (XY b);obtain⟨s2,L⟩:=any b o1 (old b o e) M;exact⟨_,L⟩
 .obtain⟨m,hm,hl⟩:=I.loc;refine⟨m,?_,λi x v M L e3=>?_⟩
  .obtain⟨o,es,ep,ho,hd,r⟩:=hm;obtain⟨s1,M⟩:=any _ o (Zv _ o ho λws z=>by rw[hd]at z;cases z) ho;exact⟨_,es,ep,M,hd,r⟩
  .obtain⟨u,r,l⟩:=hl i x v M L e3;refine⟨u,r,?_⟩;rcases l with l|⟨k,c,e,z⟩
   .exact .inl l
   .exact .inr ⟨k,c,e,cellK c _ z⟩
 .obtain⟨v,z⟩:=I.cell x c e;exact⟨v,cellK c v z⟩
 .obtain⟨e,n,ne,nf,d⟩:=I.pin p hp;refine⟨kp p.1 p.2 (λm=>(hn _ m).2.2.1 p hp rfl) (λm=>?_) e,n,ne,nf,d⟩;rcases aZ.mp (I.xo _ m)with z|z
  .exact ne z
  .exact nf z
 .refine(I.cy b u e).tB (λc v S q=>kp c v (λm=>?_) (λm=>?_) q) (λ_ q=>q) λ_ _ q=>q
  .have n:=(hn c m).1;rcases S with rfl|S
   .rw[n]at e;cases e
   .rw[n]at S;cases S
  .have n:=I.v5 c m;rcases S with rfl|S
   .rw[n]at e;cases e
   .rw[n]at S;cases S
def UK(h0:Heap)(H:Hp)(h:Heap)(a:Addr)(cls:Value):Prop:=∃L vs a0 T b ts,h.get? a=some L/\L.cls=cls/\L.data=.fields vs/\vs[0]?=some a0/\vs[1]?=some (.ref T)/\T≠a/\h0.get? T=none/\H T=none/\h.get? T=some b/\b.data=.fields ts/\ts[3]?=some .none
structure Lb(X:Cx)(h0:Heap)(Z:St)(H:Hp)(s:Shared)(a:Addr)(cls:Value):Prop where
 inv:Inv X [] Z H s
 FW:Om h0 H s.heap a cls
 old:∀b,h0.get? b=none->X.hU.heap.get? b=none
 pn:∀p∈X.pn,∃o,h0.get? p.1=some o
 gr:∀b,s.heap.get? b=none->h0.get? b=none
def XS.cau (x:XS X H cls e s):∃a Z h0,e=.ref a/\Lb X h0 Z H s a cls:=by
 obtain⟨a,U,Z,h0,rfl,I,FW,old,pn,gr⟩:=x;exact⟨a,Z,h0,rfl,I.ke (λp L=>I.pin p (jX _ (by simpa using L))),FW,old,pn,gr⟩
def Lb.step {X:Cx}{hs:List Addr}(C:Lb X h0 Z H s a cls)(hx:X.ex=[])(ha:a∈hs)(q:∀b∈hs,H b=none/\h0.get? b=none/\∃o ws,s.heap.get? b=some o/\o.data=.fields ws)
  (k1:(PySem.W.hideAll s.heap (hs++jK X.stack)).StaysIn h') (k4:∀b o,s.heap.get? b=some o->(∀ws,o.data≠ .fields ws)->∃r,h'.get? b=some {o with slots:=r})
  (k3:h'.TracedW (PySem.W.hideAll s.heap (hs++jK X.stack)) a cls a0) (M:∀b∈jK X.stack,∃o,h'.get? b=some o/\∀ws,o.data≠ .fields ws):Lb X h0 Z H {s with heap:=h'} a cls/\UK h0 H h' a cls:=by
 have hk:=C.inv.stack;have Sv:∀L∈jK X.stack,∃o,s.heap.get? L=some o/\∀ws,o.data≠ .fields ws:=λL hL=>(hk.mem hL).2;have gp:∀b,h0.get? b=none->∀p∈X.pn++[],p.1≠b:=λb n p hp z=>by
  obtain⟨o,e⟩:=C.pn p (by simpa using hp);rw[z,n]at e;cases e
 have kp:∀b o,b∉hs->b∉jK X.stack->s.heap.get? b=some o->h'.get? b=some o:=λb o n1 n2 e=>k1 b o (qD _ e λm=>(cE.mp m).elim n1 n2);have r:∀b o,b∈jK X.stack->s.heap.get? b=some o->∃r,h'.get? b=some {o with slots:=r}:=λb o m e=>by
  obtain⟨o2,e2,d2⟩:=Sv b m;rw[e]at e2;cases e2;exact k4 b o e d2
 have tr:UK h0 H h' a cls:=by
  obtain⟨S,vs,T,oT,ts,q1,⟨q2,q3⟩,q4,q5,I,q7,q8,q9,XH⟩:=k3;have hTf:T∉jK X.stack:=λm=>by
   obtain⟨o,e,d⟩:=M T m;rw[q8]at e;cases e;exact d ts q9
  have key:h0.get? T=none/\H T=none:=by
   by_cases m:T∈hs
   .exact⟨(q T m).2.1,(q T m).1⟩
   .have n:s.heap.get? T=none:=by
     cases z:s.heap.get? T with
     |none=>rfl
     |some o=>rw[qD _ z λmm=>(cE.mp mm).elim m hTf]at I;cases I
    refine⟨C.gr T n,?_⟩;cases z:H T with
    |none=>rfl
    |some o=>obtain⟨u,e⟩:=(C.inv.cy T o z).get;rw[n]at e;cases e
  exact⟨S,vs,a0,T,oT,ts,q1,q2,q4,q3,q5,q7,key.1,key.2,q8,q9,XH⟩
 refine⟨⟨C.inv.QU hx kp r λb m=>⟨(q b m).1,C.old b (q b m).2.1,gp b (q b m).2.1,.inl (q b m).2.2⟩,⟨?_,C.FW.fr,C.FW.nw⟩,C.old,C.pn,λb n=>?_⟩,tr⟩
 .obtain⟨S,vs,b0,T,oT,ts,q1,q2,q3,q4,q5,I⟩:=tr;exact⟨S,vs,b0,q1,q2,q3,q4,.inr ⟨T,oT,ts,q5,I⟩⟩
 .by_cases m:b∈hs
  .exact(q b m).2.1
  .refine C.gr b ?_
   cases z:s.heap.get? b with
   |none=>rfl
   |some o=>
    have n':h'.get? b=none:=n;by_cases m2:b∈jK X.stack
    .obtain⟨s1,e1⟩:=r b o m2 z;rw[n']at e1;cases e1
    .rw[kp b o m m2 z]at n';cases n'
theorem ML{A:Around}(C:Lb X h0 Z H s a cls)(hx:X.ex=[])(cJ:X.stack=X.env::X.outer)(hf:X.env.frame=some X.env.locals)(S:A.frames=some X.stack){Q:Unit->Shared->Prop}(q:∀r,Lb X h0 Z H r a cls->UK h0 H r.heap a cls->Q () r):
  wpAny M A (noteFrame (.ref a) X.env) (λ_ s2=>wpAny M A (setFlight (.ref a) none) Q E s2) E s:=by
 obtain⟨⟨oe,vs,a0,he,z7,hd,Zw,h1⟩,fr,nw⟩:=C.FW;have hk:s.heap.FunFrames X.base X.stack:=C.inv.stack;have rV:∀e∈X.stack,∀b,e.frame=some b->b∈jK X.stack:=λe he b hb=>nG.mpr ⟨e,he,hb⟩;have after:∀(hs:List Addr) (h':Heap),a∈hs->(∀b∈hs,H b=none/\h0.get? b=none/\∃o ws,s.heap.get? b=some o/\o.data=.fields ws)->Heap.NotedW (PySem.W.hideAll s.heap (hs++jK X.stack)) X.stack a cls a0 (rawInt X.env.locals) s.heap h'->wpAny M A (setFlight (.ref a) none) Q E {s with heap:=h'}:=by
  intro hs h' L hh ⟨k1,k2,k3,k4⟩;refine wpAny_setFlight_noneW (s:={s with heap:=h'}) k1 k2 k3 λh2 j1 j2 j3 j4=>?_
  obtain⟨c1,c2⟩:=C.step hx L hh j1 (λb o e d=>by obtain⟨sl,e1⟩:=k4 b o e d;exact⟨sl,j4 b _ e1 d⟩) j3 λb m=>(j2.mem m).2;exact q _ c1 c2
 rcases h1 with h1|⟨T,oT,ts,h1,XI,XJ,Wc,hT,Wd,h3⟩
 .have I:s.heap.FunFrames (PySem.W.hideAll s.heap ([a]++jK X.stack)) (X.env::X.outer):=by rw[<-cJ];exact o_ hk λe he b hb=>cX _ (rV e he b hb)
  unfold noteFrame;simp only[hf];refine aH (wpAny_field he hd h1 ?_);rw[aA ∅];refine wpAny_entryW (base:=PySem.W.hideAll s.heap ([a]++jK X.stack)) (by rw[S,cJ]) I hf he (λb o z=>mK _ z) (lA _ (jX _ (cn.mpr rfl))) hd (Array.getElem?_eq_some_iff.mp h1).1 Zw λh' hN=>?_
  rw[z7,<-cJ]at hN;refine after [a] h' (cn.mpr rfl) (λb m=>?_) hN;cases cn.mp m;exact⟨fr,nw,oe,vs,he,hd⟩
 .have I:s.heap.FunFrames (PySem.W.hideAll s.heap ([a,T]++jK X.stack)) (X.env::X.outer):=by rw[<-cJ];exact o_ hk λe he b hb=>cX _ (rV e he b hb)
  refine wpAny_noteFrame_onW (base:=PySem.W.hideAll s.heap ([a,T]++jK X.stack)) (cls:=cls) (a0:=a0) (by rw[S,cJ]) I hf ⟨oe,vs,T,oT,ts,he,⟨z7,Zw⟩,hd,h1,lA _ (jX _ *...*),XI,hT,Wd,h3⟩ (λb o z=>mK _ z) (lA _ (jX _ *...*)) λh' hN=>?_
  rw[<-cJ]at hN;refine after [a,T] h' *...* (λb m=>?_) hN;simp only[aZ,dF,dH]at m;rcases m with rfl|rfl
  .exact⟨fr,nw,oe,vs,he,hd⟩
  .exact⟨Wc,XJ,oT,ts,hT,Wd⟩
theorem Hj(C:Lb X h0 Z H s a cls)(T:UK h0 H s.heap a cls)(hx:X.ex=[])(q:∀r,Lb X h0 Z H r a cls->UK h0 H r.heap a cls->ac () r):wpAny M A (setFlight (.ref a) none) ac E s:=by
 obtain⟨oe,vs,a0,T,oT,ts,I,e2,S,e4,e5,e6,e7,e8,e9,Zx,L⟩:=T;have hk:s.heap.FunFrames X.base X.stack:=C.inv.stack;have rV:∀e∈X.stack,∀b,e.frame=some b->b∈jK X.stack:=λe he b hb=>nG.mpr ⟨e,he,hb⟩;have hl:s.heap.FunFrames (PySem.W.hideAll s.heap ([a,T]++jK X.stack)) X.stack:=o_ hk λe he b hb=>cX _ (rV e he b hb);refine wpAny_setFlight_noneW (base:=PySem.W.hideAll s.heap ([a,T]++jK X.stack)) (cls:=cls) (a0:=a0) (fl:=.none) (λb o z=>mK _ z) hl ⟨oe,vs,T,oT,ts,I,⟨e2,e4⟩,S,e5,lA _ (jX _ *...*),e6,e9,Zx,L⟩ λh2 j1 j2 j3 j4=>?_
 obtain⟨c1,c2⟩:=C.step hx (hs:=[a,T]) *...* (λb m=>by
  simp only[aZ,dF,dH]at m;rcases m with rfl|rfl
  .exact⟨C.FW.fr,C.FW.nw,oe,vs,I,S⟩
  .exact⟨e8,e7,oT,ts,e9,Zx⟩) j1 (λb o e d=>⟨o.slots,j4 b o e d⟩) j3 λb m=>(j2.mem m).2
 exact q _ c1 c2
def Lb.UL (C:Lb X h0 Z H s a cls)(hx:X.ex=[]):∃oe:Obj,oe.cls=cls/\s.heap.get? a=some oe/\Inv X [] Z (upd H a (.ext λh=>h.get? a=some oe)) s:=by
 obtain⟨⟨oe,vs,a0,he,M,hd,_⟩,fr,nw⟩:=C.FW;have I:=C.inv;refine⟨oe,M,he,I.ok,I.os,I.bare,⟨I.base.keep,I.base.slot,λb o e n hb=>?_,I.base.there,λb ts e=>?_,λb o u e=>?_,λb p e=>?_⟩,I.loc,I.cell,?_,λy c e=>?_,λp r=>?_,λb u e=>?_,I.len⟩
 .rw[aM λz=>?_]
  .exact I.base.free b o e n hb
  .rw[z,C.old a nw]at e;cases e
 .rw[aM λz=>?_]
  .exact I.base.oW b ts e
  .have q:=I.base.oW b ts e;rw[z,fr]at q;cases q
 .rw[aM λz=>?_]
  .exact I.base.mZ b o u e
  .have q:=I.base.mZ b o u e;rw[z,fr]at q;cases q
 .obtain⟨more,q⟩:=I.base.pL b p e;exact⟨more,by rwa[aM λz=>(by rw[z,fr]at q;cases q)]⟩
 .rw[aM λz=>?_]
  .exact I.free
  .obtain⟨m,⟨o,es,ep,L,hd2,_⟩,_⟩:=I.loc;rw[z,he]at L;cases L;rw[hd]at hd2;cases hd2
 .rw[aM λz=>?_]
  .exact I.gx y c e
  .obtain⟨v,o,L,hd2⟩:=I.cell y c e;rw[z,he]at L;cases L;rw[hd]at hd2;cases hd2
 .obtain⟨S,q2,q3⟩:=I.pin p r;refine⟨S,?_,q3⟩;rw[aM λz=>?_]
  .exact q2
  .obtain⟨o,e⟩:=C.pn p (by simpa using r);rw[z,nw]at e;cases e
 .by_cases z:b=a
  .subst z;rw[bp]at e;cases e;exact⟨he,⟨oe,he⟩,λh1 h2 p k=>k _ p⟩
  .rw[aM z]at e;exact(I.cy b u e).tB (λ_ _ _ q=>q) (λc q=>by rwa[aM (cp q fr)]) λc xs q=>by rwa[aM (cp q fr)]
def zF(I:Inv X U Z H s)(hN:X.N.Nodup)(hi:X.N[aa]?=some n)(hl:X.env.scope.names.lookup n=some .local)(q:∀s',Inv X U (Z.set aa none) H s'->ac () s'):wpAny M A (do bindName X.env n .none;unbindBehindTheSuite X.env n pos) ac E s:=by
 obtain⟨m,hn,hlk⟩:=id I.loc;have II:(X.env.scope.kind== .class||(X.env.scope.kind== .module&&X.env.locals !=X.env.globals))=false:=by rw[I.ok.kind];rfl
 obtain⟨oL,_,_,Sk,_⟩:=id hn;refine wpAny_nameGoes_keeps hl hn II λh' v Sj hs=>q _ ?_
 have ne:∀b o,X.hU.heap.get? b=some o->b≠X.env.locals:=λb o e=>c_ (dA (bC e) I.ok.above);refine⟨I.ok,I.os,I.bare,⟨λb o e n hb S=>?_,λb o e n hb S=>?_,I.base.free,λb o e S=>?_,I.base.oW,I.base.mZ,I.base.pL⟩,⟨_,Sj,λj y w L e2 e3=>?_⟩,λy c e=>?_,I.free,I.gx,λp hp=>?_,λb u e=>?_,by rw[kB];exact I.len⟩
 .exact(hs.2 b (ne b o e)).trans (I.base.keep b o e n hb S)
 .obtain⟨sl,L⟩:=I.base.slot b o e n hb S;exact⟨sl,(hs.2 b (ne b o e)).trans L⟩
 .obtain⟨o1,L⟩:=I.base.there b o e S;exact⟨o1,(hs.2 b (ne b o e)).trans L⟩
 .by_cases hj:j=aa
  .subst hj;have hjl:j<Z.length:=by rw[I.len];exact(gE.mp hi).1
   rw[nC hjl]at e2;cases e2
  .rw[qC (Ne.symm hj)]at e2;obtain⟨u,r,l⟩:=hlk j y w L e2 e3;refine⟨u,r,?_⟩;rcases l with⟨k,e⟩|⟨k,c,e,z⟩
   .refine .inl ⟨k,?_⟩;have hy:y≠n:=λz=>hj (xp hN L (z▸hi));show(if y=n then v else m y)=some u;rwa[aA hy]
   .exact .inr ⟨k,c,e,z.sameBut hs (I.Li y c e)⟩
 .obtain⟨w,z⟩:=I.cell y c e;exact⟨w,z.sameBut hs (I.Li y c e)⟩
 .obtain⟨e,n2,ne2,nf,d⟩:=I.pin p hp;exact⟨(hs.2 p.1 ne2).trans e,n2,ne2,nf,d⟩
 .refine(I.cy b u e).tB (λc w hc z=>(hs.2 c λy=>?_).trans z) (λ_ z=>z) λ_ _ z=>z;subst y;rcases hc with z2|z2
  .rw[<-z2,I.free]at e;cases e
  .rw[I.free]at z2;cases z2
theorem bU.none:bU K B H Z (List.replicate Z.length .no):=by
 have no:∀(i:Nat) (c:Cell),(List.replicate Z.length Cell.no)[i]?=some c->c=.no:=λi c e=>by
  rw[sH]at e;split at e
  .exact(Option.some.inj e).symm
  .cases e
 exact⟨wH,(λi t e=>by cases no i _ e),(λi ts e=>by cases no i _ e),(λi j ts us D _ e=>by cases no i _ e)⟩
def bU.unset (h:bU K B H Z Y)(n:fA Y)(i:Nat):bU K B H (Z.set i Option.none) (Y.set i .no):=by
 refine⟨by rw[kB,kB];exact h.len,λj t e=>?_,λj ts e=>?_,λj k ts us D _ e=>?_⟩
 .rcases fx e with⟨_,_,z⟩|⟨L,e⟩
  .cases z
  .obtain⟨v,b,r⟩:=h.sh j t e;exact⟨v,by rwa[qC L],r⟩
 .rcases fx e with⟨_,_,z⟩|⟨L,e⟩
  .cases z
  .exact absurd e (n j ts)
 .rcases fx e with⟨_,_,z⟩|⟨L,e⟩
  .cases z
  .exact absurd e (n j ts)
def fA.unset (h:fA Y)(i:Nat):fA (Y.set i .no):=λj ts e=>by
 rcases fx e with⟨_,_,z⟩|⟨L,e⟩
 .cases z
 .exact h j ts e
noncomputable abbrev Cx.kO (X:Cx)(pn:List (Addr×Obj))(E':Value->Shared->Prop):Cx:={X with pn:=pn,xe:=E'}
noncomputable abbrev Cx.p7 (X:Cx)(pn:List (Addr×Obj))(e:Value):Cx:={X with A:=X.A.mark (some e),calm:=false,pn:=pn,xe:=λ_ _=>False}
theorem Cx.Ok.kO {X:Cx}{pn:List (Addr×Obj)}{b:Value->Shared->Prop}(ok:X.Ok):(X.kO pn b).Ok:=⟨ok.mod,ok.kind,ok.glob,ok.blt,ok.above,ok.inj,ok.has,ok.NM,ok.hd,ok.frames,ok.K_,ok.Si,ok.bs,ok.GN,ok.BA,ok.BB,ok.qY,ok.HZ⟩
def Cx.Ok.my {X:Cx}{pn:List (Addr×Obj)}(ok:(X.kO pn b).Ok):X.Ok:=⟨ok.mod,ok.kind,ok.glob,ok.blt,ok.above,ok.inj,ok.has,ok.NM,ok.hd,ok.frames,ok.K_,ok.Si,ok.bs,ok.GN,ok.BA,ok.BB,ok.qY,ok.HZ⟩
theorem Cx.Ok.p7 {X:Cx}{pn:List (Addr×Obj)}{e:Value}(ok:X.Ok):(X.p7 pn e).Ok:=⟨ok.mod,ok.kind,ok.glob,ok.blt,ok.above,ok.inj,ok.has,ok.NM,(λz=>by cases z),ok.frames,ok.K_,ok.Si,ok.bs,ok.GN,ok.BA,ok.BB,ok.qY,ok.HZ⟩
theorem Inv.kO (I:Inv X U Z H s):Inv (X.kO (X.pn++U) b) [] Z H s:=⟨I.ok.kO,I.os,I.bare,I.base,I.loc,I.cell,I.free,I.gx,λp L=>I.pin p (by simpa using L),I.cy,I.len⟩
theorem Inv.my {X:Cx}(I:Inv (X.kO (X.pn++U) b) [] Z H s):Inv X U Z H s:=⟨I.ok.my,I.os,I.bare,I.base,I.loc,I.cell,I.free,I.gx,λp L=>I.pin p (by simpa using L),I.cy,I.len⟩
theorem Inv.p7 {X:Cx}(I:Inv (X.kO pn b) [] Z H s):Inv (X.p7 pn e) [] Z H s:=⟨I.ok.my.p7,I.os,I.bare,I.base,I.loc,I.cell,I.free,I.gx,I.pin,I.cy,I.len⟩
def Inv.Js {X:Cx}(ok:X.Ok)(I:Inv (X.p7 (X.pn++U) e) [] Z H s):Inv X U Z H s:=⟨ok,I.os,I.bare,I.base,I.loc,I.cell,I.free,I.gx,λp L=>I.pin p (by simpa using L),I.cy,I.len⟩
theorem SP.my {X:Cx}(h:SP (X.kO (X.pn++U) b) [] D f s):SP X U D f s:=by
 cases f with
 |next=>obtain⟨cU,H',I,q⟩:=h;exact⟨cU,H',I.my,q⟩
 |brk=>obtain⟨cU,H',I,q⟩:=h;exact⟨cU,H',I.my,q⟩
 |cont=>obtain⟨cU,H',I,q⟩:=h;exact⟨cU,H',I.my,q⟩
 |ret u=>obtain⟨v,cU,H',I,r,q⟩:=h;exact⟨v,cU,H',I.my,r,q⟩
structure qM(K:Frag)(mg:Str->Option Value)(c:Str)(xs:List Str):Prop where
 mg:mg c=some (.ref (clsAt K c))
 all:∀x∈xs,PySem.W.exmOne K (.ref (clsAt K x)) (.ref (clsAt K c))=some true
noncomputable def UM(N i:Nat)(xs:List Str)(x:Str)(A:Ab)(b:bS->Ab->Rz Out):Rz Out:=if xs.contains x=true then match b ((List.replicate N Cell.no).set i (.sh (.at A.length))) (A++[.DJ x])with
 |.ok (.nx Y) A=>.ok (.nx (Y.set i .no)) A
 |.ok (.ret t) A=>.ok (.ret t) A
 |_=>.bad
 else .bad
def CH(N i:Nat)(xs:List Str)(r:Rz Out)(b:bS->Ab->Rz Out):Rz Out:=match r with
 |.ok o A=>.ok o A
 |.exc (.str x) A=>UM N i xs x A b
 |_=>.bad
theorem Om.UN (u:Om h0 H h a c):PySem.W.Looks (model P w) h (typeOf (.ref a)) c:=by
 obtain⟨⟨L,vs,a0,he,rfl,_⟩,_,_⟩:=u;exact(mW (M:=model P w) (part:=none) he).andThen (f:=λo:Obj=>pure o.cls) .now
theorem Jt{X:Cx}{i:Nat}{vy:List Stmt}(Tc:qM X.K X.mg c xs)(hb:∀pn E',yF (X.kO pn E') body (tZ (X.kO pn E') G))(hs:∀pn e,yF (X.p7 pn e) (st::vy) (tZ (X.p7 pn e) G2))(hN:X.N.Nodup)(hi:X.N[i]?=some n)(hl:X.env.scope.names.lookup n=some .local)
  (cJ:X.stack=X.env::X.outer) (hf:X.env.frame=some X.env.locals) (hx:X.ex=[]) (Lm:DH X n) (hg:Gl X c) (iJ:Db c):
  PS X (.Try body [.ExceptHandler (some (.Name c tp)) (some n) (st::vy) hp] [] [] pos) (tZ X λY A=>CH X.N.length i xs (G Y A) G2):=by
 intro U s Z H D I ⟨B0,H0,B,A,Y,Aw,g,ha,r,no,q⟩;have M:=I.ok;refine wpAny_Try_except (dX (hb (X.pn++U) _ [] s Z H D I.kO ⟨B0,H0,B,A,Y,Aw,g,ha,r,no,?_⟩) (λf s1 h1=>?_) λe s1 z=>z)
 .have b:gq (XE X B0 H0) (CH X.N.length i xs (G Y A) G2) (uf X D B0 H0):=q;cases eG:G Y A with
  |bad=>rw[eG]at b;exact fe b
  |ok o L=>rw[eG]at b;cases o<;>exact b
  |exc t L=>
   rw[eG]at b;cases t with
   |str x=>
    obtain⟨XN,S⟩:=g7 b;intro B' H' g' kn e s1 xs1;obtain⟨a,VW,h0,rfl,C⟩:=xs1.cau;refine ML C hx cJ hf M.frames λs3 C3 T3=>?_
    refine wpAny_handleBy_cons (codeAny_handlers_test ?_) (by intro z;cases z);refine wF M.kind hg (Calls.loadGlobal_global (by rw[M.glob];exact M.mod.glob.keeps C3.inv.bk) Tc.mg ?_) iJ;refine PySem.W.exm_one C3.inv.nK C3.FW.UN (Tc.all x (by simpa using XN)) _ _ _ s3 (λ_ _ z=>z) ?_
    refine codeAny_handlers_suite_as ?_
    refine Hj C3 T3 hx λs4 C4 T4=>?_
    refine hide λP go=>?_
    obtain⟨Zy,hc4,he4,I4⟩:=C4.UL hx;refine go ?_
    have Zz:H' a=none:=C4.FW.fr;refine xq (X:=X.kO (X.pn++U) _) I4 hN hi (.inl hl) (v:=.ref a) rfl (λs5 I5=>?_) Lm;have g5:=kn.push (p:=a) (o:=.DJ x) Zz (aG.upd Zz) ⟨qK,Zy,bp,hc4⟩;have c4:VW.length=X.N.length:=C4.inv.len;have r5:bU X.K (pX B' a L.length) (upd H' a (.ext λh=>h.get? a=some Zy)) (VW.set i (some (.ref a))) ((List.replicate X.N.length Cell.no).set i (.sh (.at L.length))):=by
     rw[<-c4];exact bU.none.set i (.at ip)
    have no5:fA ((List.replicate X.N.length Cell.no).set i (.sh (.at L.length))):=fA.set (λj ts z=>by
     rw[sH]at z;split at z<;>cases z) i _
    have key:gq (λ_ _=>False) (G2 ((List.replicate X.N.length Cell.no).set i (.sh (.at L.length))) (L++[.DJ x])) λo A2=>match o with
      |.nx Y=>uf X D B0 H0 (.nx (Y.set i .no)) A2
      |.ret t=>uf X D B0 H0 (.ret t) A2
      |_=>False:=by
     cases e2:G2 ((List.replicate X.N.length Cell.no).set i (.sh (.at L.length))) (L++[.DJ x])with
     |bad=>simp only[e2]at S;exact S
     |exc c1 A2=>simp only[e2]at S;exact S
     |ok o A2=>
      simp only[e2]at S;cases o<;>exact S
    refine dX (hs (X.pn++U) (.ref a) [] s5 _ _ {nx:=λv7 H2=>D.nx (v7.set i none) H2,rt:=D.rt} I5.p7 ⟨B0,H0,pX B' a L.length,L++[.DJ x],_,Aw,g'.trans Aw g5.1,g5.2,r5,no5,?_⟩) (λf s6 h6=>?_) λ_ _ z=>(show False from z).elim
    .refine(key.imp λ_ _ z=>z.elim).mono λo A2 z=>?_
     cases o with
     |nx dM=>exact λv7 B2 H2 g2 p4 r2 n2=>z (v7.set i none) B2 H2 g2 p4 (r2.unset n2 i) (n2.unset i)
     |ret t=>exact z
     |_=>exact z.elim
    .cases f with
     |next=>
      obtain⟨WM,H6,I6,q6⟩:=h6;exact zF (I6.Js M) hN hi hl λs7 I7=>⟨_,H6,I7,q6⟩
     |ret u=>
      obtain⟨v,WM,H6,I6,rv,q6⟩:=h6;exact zF (I6.Js M) hN hi hl λs7 I7=>⟨v,_,H6,I7,rv,q6⟩
     |_=>obtain⟨_,_,_,z⟩:=h6;exact fe z
   |_=>exact fe b
 .cases f with
  |next=>exact sW h1.my
  |_=>exact h1.my
structure QV(X:Cx)(pos:Pos)(keys:List (Option Expr))(vals:List Expr)(P:bS->Ab->Rz (List (Tr×Tr))):Prop where
 h:∃BO,So X pos keys vals BO/\∀Z H Q,(∃B A Y,HA X.K B A H/\bU X.K B H Z Y/\fA Y/\gq (XE X B H) (P Y A) λQk A'=>∀Ms B' H',Grows B H B' H'->HA X.K B' A' H'->Ck X.K (bK B' H') Ms Qk->Q Ms H')->xE BO Z H Q
def Ju:QV X pos [] [] λ_ A=>.ok [] A:=⟨[],Fx,λZ H Q ⟨B,A,Y,ha,r,n,q⟩=>q [] B H .refl ha .nil⟩
def Oy(k:Rz Tr)(v:Ab->Rz Tr)(r:Ab->Rz (List (Tr×Tr))):Rz (List (Tr×Tr)):=k.bind λx A=>(v A).bind λy A=>(r A).bind λps A=>.ok ((x,y)::ps) A
def Jv(b:PE X k (tE X F))(I:PE X c5 (tE X G))(M:QV X pos keys vals P):QV X pos (some k::keys) (c5::vals) λY A=>Oy (F Y A) (G Y) (P Y):=by
 obtain⟨BO,h1,h2⟩:=M.h;refine⟨_,BP b I h1,λZ H Q ⟨B,A,Y,ha,r,n,q⟩=>?_⟩;refine⟨B,A,Y,ha,r,n,(gq.bind q).mono λx L S u B1 H1 g1 jO r1=>⟨B1,L,Y,jO,r.grow n g1,n,((gq.bind S).imp λc A' z=>z.grow ha.hb g1).mono λy A2 qy w B2 H2 g2 p4 r2=>h2 _ _ _ ⟨B2,A2,Y,p4,(r.grow n g1).grow n g2,n,((gq.bind qy).imp λc A' z=>z.grow ha.hb (g1.trans ha.hb g2)).mono λps A3 qp Ms B3 H3 g3 FY r3=>?_⟩⟩⟩;exact qp _ B3 H3 ((g1.trans ha.hb g2).trans ha.hb g3) FY (.cons ((r1.same g2.jv).same g3.jv) (r2.same g3.jv) r3)
def ZA(A:Ab)(i:Nat):Bool:=match A[i]? with
 |some (.bh [])=>true
 |_=>false
def UO(P:Ab->Rz (List (Tr×Tr)))(A:Ab):Rz Tr:=(P (A++[.bh []])).bind λps L=>if ps.length<=15/\ZA L A.length=true then(kJ (xW ps) L).bind λaS L=>.ok (.at A.length) (L.set A.length (.bh (gn [] aS)))else .bad
theorem MM(h:QV X pos keys vals P)(z5:autoParam (keys.all (·.isSome)=true) Rfz) (hl:autoParam (keys.length=vals.length) Rfz) (h0:autoParam (keys.isEmpty=false) Rfz) (PB:autoParam (keys.length<=15) Dcz):PE X (.Dict keys vals pos) (tE X λY A=>UO (P Y) A):=by
 obtain⟨BO,h1,h2⟩:=h.h;refine(Fy h1 z5 hl (λz=>by rw[z]at h0;cases h0) PB).weak λZ H Q ⟨B,A,Y,ha,r,n,q⟩ p hp=>?_
 obtain⟨g1,jO⟩:=ha.push (p:=p) (o:=.bh []) hp (aG.upd (o:=.dK []) hp) ⟨qK,[],bp,.nil⟩;have rf:(pX B p A.length).ix p=some A.length:=ip;refine h2 Z _ _ ⟨_,_,Y,jO,r.grow n g1,n,((gq.bind q).imp λc A' z=>z.grow ha.hb g1).mono λQk A2 L Ms B2 H2 g2 p4 r2=>?_⟩;obtain⟨⟨hz,he⟩,L⟩:=g7 L;have I:=g2.jv.x _ _ rf;have M:A2[A.length]?=some (.bh []):=by
  unfold ZA at he;split at he
  .assumption
  .cases he
 obtain⟨hd,ZC,e0,S⟩:=(show rY X.K B2 H2 p (.bh [])from p4.get I M);have ek0:ZC=[]:=by
  have e:=S.keys;cases ZC with
  |nil=>rfl
  |cons a b=>cases e
 subst ek0;cases ep:xW Qk with
 |ok aS=>
  rw[ep]at L;obtain⟨kvs,UP,k1,e1,rd⟩:=zp (X:=X) (H0:=H2) (k:=λz=>z=aS) r2 (by rw[ep];rfl);subst k1;refine⟨e0,kvs,e1,?_,?_⟩
  .have e2:=cF List.length e1;rw[aP,r2.length]at e2;rwa[<-e2]
  .obtain⟨g4,h6⟩:=p4.write (o:=.bh (gn [] UP)) (u:=.dK (iQ [] kvs)) I ⟨hd,_,bp,by rw[jg hd];exact dE.merge rd dE.nil⟩;exact(show∀v B' H',Grows B H B' H'->HA X.K B' (A2.set A.length (.bh (gn [] UP))) H'->Rep X.K (bK B' H') v (.at A.length)->Q v H' from L) (.ref p) B2 _ ((g1.trans ha.hb g2).trans ha.hb g4) h6 (.at I)
 |_=>rw[ep]at L;exact fe L
def EA{W:bS->Rs (List Tr)}(hT:pR T)(q:tF X (λY=>zh ix T A F (W Y) Y) Z H Q):Sr (tJ X W) ix (Oc X.K T) (Ob X.K A) (Oa X.K F) Z H (λv H'=>kL X H' (Q v)):=by
 obtain⟨B,Y,hb,r,q⟩:=q;refine⟨B,Y,hb,r,q.bind.mono λts L J H1 b gt D I=>?_⟩;by_cases M:ts.length<=dy
 .rw[av M]at L;exact v_ hT (v9 ix Y) (b.hb hb) gt M ((b.Jj r).comp ix (kI I)) I (Fi.bind L) λys H' k s' S=>by
   obtain⟨Hu,su,ru,ku⟩:=b.Oq hb s';exact ku _ (k _ Hu su (ru S) λp e=>by cases e;exact .lst (b.free I) (ru S))
 .rw[aA M]at L;exact L.elim
def Jw{i:Nat}(b:fy X N' ix scope)(hit:QJ X tg c5 W)(I:B7 X scope N' tg elt ifs T A F)(M:pR T)(hN:autoParam X.N.Nodup Asz) (S:autoParam (X.calm=true) Rfz) (hi:autoParam (X.N[i]?=some x) Rfz) (hx:autoParam (Loc X.env.scope x) Olz) (PU:autoParam (swapsWith (.ListComp elt [⟨tg,c5,ifs,0⟩] scope pos) (some (.Name x px)) b9.line X.env=pure true) Rfz) (hs:autoParam (isSet c5=false) Rfz) (hf:autoParam (DH X x) Ilz):ZS X (.Assign [.Name x px] (.ListComp elt [⟨tg,c5,ifs,0⟩] scope pos) b9) (λY A'=>G_ i (uS (zh ix T A F (W (dJ A' Y)) (dJ A' Y)) A') Y):=⟨(xK b S hN hi hx hit.h I.to.Su PU (fZ hs) hf).Ur.weak λD Z H ⟨B0,H0,B,A',Y,hb,g,ha,r,n,q⟩=>EA (Q:=λv H'=>D.nx (Z.set i (some v)) H') M (rZ (F:=λY=>zh ix T A F (W Y) Y) (pZ (F:=λY A'=>uS (zh ix T A F (W (dJ A' Y)) (dJ A' Y)) A') hb g ha r n q.bind λt A2 v B' H' L g' kn r' rv _=>L _ B' H' g' kn (r'.set i rv) (n.set i t)))⟩
def XZ(r:Rz Tr):Rz Bool:=r.bind λt A=>kJ (nO t) A
def QX(h:ZE X a F)(he:autoParam (uL a=true) Rfz):ZT X a (λY A=>XZ (F Y A)):=⟨(BE h.h (xO he)).weak λZ H Q ⟨B,A,Y,ha,r,n,q⟩=>⟨B,A,Y,ha,r,n,q.bind.mono λt S L v B1 H1 g1 I M=>by
  obtain⟨b,h1,h2⟩:=xQ (M.same fj) (pY (X:=X) (H:=H1) L);exact⟨b,h1,h2 B1 H1 g1 I⟩⟩⟩
def X0(r:Rz Bool):Rz Bool:=r.bind λb A=>.ok (!b) A
def QY(h:ZT X a P):ZT X (.UnaryOp .Not a pos) (λY A=>X0 (P Y A)):=⟨(H_ h.h).weak λZ H Q ⟨B,A,Y,ha,r,n,q⟩=>⟨B,A,Y,ha,r,n,q.bind⟩⟩
def Oz:QS X st (λ_=>.bad):=⟨λ_ _ _ _ _ _ ⟨_,_,_,_,_,_,_,q⟩=>(show False from q).elim⟩
open PySem.W
structure AG(K:Frag)(D:Addr):Prop where
 ga:findIn K (.ref D) "__getattribute__"=some (some (.builtin "BaseException.__getattribute__"))
 gh:findIn K (.ref D) "__getattr__"=some none
 cl:findIn K (.ref D) "__class__"=some (some (.builtin "object.__class__"))
 ob:mroIn K D (.type "object")=some true
 be:mroIn K D (.type "BaseException")=some true
theorem QZ{g:Array GenState}{d:Drawn}{os:OsState}{a:Addr}{K:Frag}{R:Result->Shared->Prop}{b:Value}(G:AG K D)(X:K.In h)(q:h.get? a=some o)(r:o.cls=.ref D)(S:R (.ok (.ret (.ref D))) ⟨h,g,d,aa,os⟩):
  codeAny (model prog w) A (.call (.builtin "getset_descriptor.__get__") ⟨[.builtin "object.__class__",.ref a,b],[]⟩) R ⟨h,g,d,aa,os⟩:=by
 have I:(⟨h,g,d,aa,os⟩:Shared).TypeIs (.builtin "object.__class__") "getset_descriptor":=wO;have L:Looks (model prog w) h (typeOf (.ref a)) (.ref D):=r▸(mW q).andThen .now;have M:Looks (model prog w) h (isSubtype (.ref D) (.type (".".intercalate ("object.__class__".cutAt '.').dropLast))) true:=by rw[show".".intercalate ("object.__class__".cutAt '.').dropLast="object" by decide];exact looks_mroIn X G.ob
 refine codeAny_call_builtin F.slot_gs_get.plain F.entry_gs_get (F.slot_gs_get.check _ _ _ _ _ _ _ _ I (F.args_gs_get _ _ _) ?_)
 repeat(any_goals (first|assumption|(with_reducible refine L.at ?_)|(with_reducible refine M.at ?_)|wp_step))
 refine⟨Code.quiet_builtin _ ∅,lH F.entry_object_class ?_⟩
 repeat(any_goals (first|assumption|(with_reducible refine L.at ?_)|wp_step))
theorem Jx{g:Array GenState}{d:Drawn}{os:OsState}{a:Addr}{K:Frag}{Q:Fin->Shared->Prop}(G:AG K D)(X:K.In h)(b:h.get? a=some o)(q:o.cls=.ref D)(I:Q (.done (.ret (.ref D))) ⟨h,g,d,aa,os⟩):
  wpAny (model prog w) A (Builtin.«object.__getattribute__» ⟨[.ref a,.str "__class__" S],[]⟩) Q E ⟨h,g,d,aa,os⟩:=by
 have L:Looks (model prog w) h (typeOf (.ref a)) (.ref D):=q▸(mW b).andThen .now;have r:=sX (M:=model prog w) X G.cl;have ZD:(⟨h,g,d,aa,os⟩:Shared).TypeIs (.builtin "object.__class__") "getset_descriptor":=wO;have f5:=wO;have f6:=F.slot_gs_get.lookup;have f7:=F.slot_gs_set.lookup
 repeat(any_goals (first|assumption|(with_reducible refine L.at ?_)|(with_reducible refine r.at ?_)|wp_step))
 refine QZ G X b q ?_
 repeat(any_goals (first|assumption|wp_step))
theorem Jy{g:Array GenState}{d:Drawn}{os:OsState}{a:Addr}{K:Frag}{b:Value}(G:AG K D)(X:K.In h)(q:h.get? a=some o)(r:o.cls=.ref D)(S:ac () ⟨h,g,d,aa,os⟩):wpAny M A (checkBuiltinCall "BaseException.__getattribute__" ⟨[.ref a,b],[]⟩) ac E ⟨h,g,d,aa,os⟩:=by
 have L:Looks M h (typeOf (.ref a)) (.ref D):=r▸(mW q).andThen .now;have I:=looks_mroIn (M:=M) X G.be;have k1:builtinKind "BaseException.__getattribute__"=some .slot:=∅
 have k2:splitId "BaseException.__getattribute__"=some ("BaseException","__getattribute__"):=∅
 have ha:=F.args_bexc_ga (.ref a) b;simp only[checkBuiltinCall,k1,k2];refine aH ?_
 unfold isInstance
 repeat(any_goals (first|assumption|(with_reducible refine L.at ?_)|(with_reducible refine I.at ?_)|wp_step))
theorem MN{g:Array GenState}{d:Drawn}{os:OsState}{a:Addr}{K:Frag}{R:Result->Shared->Prop}(G:AG K D)(X:K.In h)(b:h.get? a=some o)(q:o.cls=.ref D)(r:R (.ok (.ret (.ref D))) ⟨h,g,d,aa,os⟩):
  codeAny (model prog w) A (.call (.builtin "BaseException.__getattribute__") ⟨[.ref a,.str "__class__" I],[]⟩) R ⟨h,g,d,aa,os⟩:=
 codeAny_call_builtin ∅ F.entry_bexc_ga (Jy G X b q (Jx G X b q r))
theorem UQ{g:Array GenState}{d:Drawn}{os:OsState}{a:Addr}{K:Frag}(FB:Slot "ValueError" "__getattribute__" "BaseException.__getattribute__")(G:AG K D)(X:K.In h)(b:h.get? a=some o)(q:o.cls=.ref D)(I:ae (.ref D) ⟨h,g,d,aa,os⟩):
  wpAny (model prog w) A (getAttrBy (.ref a) (.str "__class__" S) false) ae E ⟨h,g,d,aa,os⟩:=by
 have L:Looks (model prog w) h (typeOf (.ref a)) (.ref D):=q▸(mW b).andThen .now;have r:=sX (M:=model prog w) X G.ga;have L2:=sX (M:=model prog w) X G.gh;have f3:=FB.bind (.ref a);have k0:onTheHeap (Value.builtin "BaseException.__getattribute__")=false:=rfl;have k2:(Value.builtin "BaseException.__getattribute__"==Value.builtin "object.__getattribute__")=false:=∅
 have k1:(onTheHeap (Value.ref D)&&Value.builtin "BaseException.__getattribute__"==Value.builtin "object.__getattribute__")=false:=by rw[k2];rfl
 repeat(any_goals (first|assumption|(with_reducible refine L.at ?_)|(with_reducible refine r.at ?_)|(with_reducible refine L2.at ?_)|wp_step))
 refine MN G X b q ?_
 repeat(any_goals (first|assumption|wp_step))
def MO{g:Array GenState}{d:Drawn}{os:OsState}{a:Addr}{K:Frag}{Q:Option Value->Shared->Prop}(FB:Slot "ValueError" "__getattribute__" "BaseException.__getattribute__")(G:AG K D)(X:K.In h)(b:h.get? a=some o)(q:o.cls=.ref D)(r:Q (some (.ref D)) ⟨h,g,d,aa+1,os⟩):
  wpAny (model prog w) A (getAttr? (.ref a) "__class__") Q E ⟨h,g,d,aa,os⟩:=by
 unfold getAttr? getAttrBy?
 repeat(any_goals (first|assumption|with_reducible apply UQ FB G X b q|wp_step))
theorem Jz{K:Frag}(G:AG K D)(b:(clsIn K D).isSome=true):KitX K (.ref a) (.ref D) (λh=>∃o,h.get? a=some o/\o.cls=.ref D) where
 ty:=λM h X ⟨o,L,r⟩=>r▸(mW L).andThen .now
 it:=λM h X _=>by
  unfold clsIn at b;split at b
  .rename_i c' d' I S2 S;intro A' Q' E' s' k q;unfold isType loadHead;exact aH (wpAny_loadPart (k _ _ (X _ _ S)) (aR q))
  .cases b
 ne:=λh tp dd bJ n sl X htp=>by
  refine Bool.eq_false_iff.mpr λq=>?_
  have e:D=tp:=Value.ref.inj (fF.mp q);subst e;unfold clsIn at b;split at b
  .rename_i c' d' I S2 S;cases(X _ _ S).symm.trans htp
  .cases b
 ca:=λ{prog w A E Q s} X ⟨o,L,r⟩ k=>by
  obtain⟨h,g,d,t,os⟩:=s;exact MO F.excAttr_ValueError.ga G X L r k
structure jQ(K:Frag)(u:Value)(tab:List (Str×Bool)):Prop where
 all:∀x b,tab.lookup x=some b->kitOne K (.ref (clsAt K x)) u=some b/\AG K (clsAt K x)/\(clsIn K (clsAt K x)).isSome=true
noncomputable def MP(tab:List (Str×Bool)):Tr->Rs Tr
 |.zc x=>match tab.lookup x with
  |some b=>.ok (.bl b)
  |none=>.bad
 |_=>.bad
def CI{X:Cx}{tab:List (Str×Bool)}(T:jQ X.K u tab)(hu:∀u',RelV cv u'->u'=u):gZ X (.builtin "isinstance") (λxs H Q=>∃B y t,HB B H/\xs=[y,cv]/\Rep X.K (bK B H) y t/\Fi X H (MP tab t) λt=>∀v H',aG H H'->Rep X.K (bK B H') v t->Q v H'):=by
 intro U s Z H xs us Q I r ⟨B,y,t,hb,ex,ry,q⟩;subst ex;obtain⟨v,w',rfl,r1,r2⟩:=vals2 r;cases hu w' r2;cases ry with
 |@zc a S x h hc=>
  cases r1;have L:=q;unfold MP at L;dsimp only at L;cases M:tab.lookup x with
  |none=>rw[M]at L;exact fe L
  |some b=>
   rw[M]at L;obtain⟨k1,k2,k3⟩:=T.all x b M;obtain⟨ho,_⟩:=(show cB X.prog X.w H s.heap a (.ext λh=>h.get? a=some S)from I.cy a _ (dD h));exact eM (Jz k2 k3) I.nK ⟨S,ho,hc⟩ k1 (λz=>nomatch z) λtk=>⟨.bl b,H,I.tok _,rfl,(show∀v H',aG H H'->Rep X.K (bK B H') v (.bl b)->Q v H' from L) _ H (aG.refl H) (.bl b)⟩
 |_=>exact fe q
def CJ(b:PE X (.Name c I) (tC cv))(he:PE X e (tP X F))(cJ:isStar e=false):PA X [e,.Name c I] (λZ H Q=>∃B Y,HB B H/\bU X.K B H Z Y/\Fi X H (F Y) λt=>∀v H',aG H H'->Rep X.K (bK B H') v t->Q [v,cv] H'):=
 (qG he (qG b xA (bA _ _ rfl)) (bA _ _ cJ)).weak λZ H Q ⟨B,Y,hb,r,q⟩=>⟨B,Y,hb,r,q.mono λt L v H1 s1 M=>L v H1 s1 M⟩
def mz{X:Cx}{tab:List (Str×Bool)}(T:jQ X.K (.ref (clsAt X.K c)) tab)(hm:X.mg c=some (.ref (clsAt X.K c)))(hi:X.mg "isinstance"=none)(he:QE X e F)(b:autoParam (Gl X c) Rfz) (I:autoParam (Gl X "isinstance") Rfz) (iJ:autoParam (Db c) Dcz) (cJ:autoParam (bL [e,.Name c M]=true) Rfz):QE X (.Call (.Name "isinstance" p) [e,.Name c M] [] pos) (λY=>(F Y).bind (MP tab)):=⟨(tM (CI (cv:=.ref (clsAt X.K c)) T λu' z=>z) I hi rfl (CJ (z8 (v:=.ref (clsAt X.K c)) b hm rfl iJ) he.h (aI cJ).1) ∅ ∅ (bA _ _ (aI cJ).1) (b_ (aI cJ).2)).weak λZ H Q ⟨B,Y,hb,r,q⟩=>⟨B,Y,hb,r,q.bind.mono λt L v H1 s1 rv=>⟨B,v,t,hb.same s1,rfl,rv,(L.same s1).mono λt k v H2 s2 S=>k v H2 (s1.trans s2) S⟩⟩⟩
def Q0{X:Cx}{tab:List (Str×Bool)}(T:jQ X.K (.type n) tab)(hm:X.mg c=none)(hi:X.mg "isinstance"=none)(he:QE X e F)(b:autoParam (bootBuiltins c=some (.type n)) Rfz) (I:autoParam (Gl X c) Rfz) (M:autoParam (c≠"__name__") Dcz) (S:autoParam (Gl X "isinstance") Rfz) (iJ:autoParam (Db c) Dcz) (cJ:autoParam (bL [e,.Name c p2]=true) Rfz):QE X (.Call (.Name "isinstance" p) [e,.Name c p2] [] pos) (λY=>(F Y).bind (MP tab)):=⟨(tM (CI (cv:=.ty n) T λu' z=>z) S hi rfl (CJ (Fj (v:=.ty n) I hm b rfl M iJ) he.h (aI cJ).1) ∅ ∅ (bA _ _ (aI cJ).1) (b_ (aI cJ).2)).weak λZ H Q ⟨B,Y,hb,r,q⟩=>⟨B,Y,hb,r,q.bind.mono λt L v H1 s1 rv=>⟨B,v,t,hb.same s1,rfl,rv,(L.same s1).mono λt k v H2 s2 r2=>k v H2 (s1.trans s2) r2⟩⟩⟩
noncomputable def rG:List Tr->Option (List Int)
 |[]=>some []
 |.int i::ts=>(rG ts).map λr=>i::r
 |_=>none
theorem zG:∀{vs:List V} {ts:List Tr} {ns:List Int},bb K W vs ts->rG ts=some ns->vs=ns.map V.int
 |[],[],ns,_,e=>by cases e;rfl
 |[],_::_,_,h,_=>by cases h
 |v::vs,ts,ns,h,e=>by
  cases h with
  |cons h r=>
   cases h with
   |int i=>
    rename_i ts;have L:(rG ts).map (λr=>i::r)=some ns:=e;cases q:rG ts with
    |none=>rw[q]at L;cases L
    |some rs=>
     rw[q]at L;cases L;rw[zG r q];rfl
   |_=>cases e
noncomputable def rH(ns:List Int):Int:=ns.getD (argBest (λi j=>decide (ns.getD i 0>ns.getD j 0)) (ns.length - 1)) 0
def JA:List Tr->Rs Tr
 |[.lst ts]=>match rG ts with
  |some ns=>if 0<ns.length then .ok (.int (rH ns))else .bad
  |none=>.bad
 |[.int i,.int j]=>.ok (.int (if j>i then j else i))
 |_=>.bad
theorem Hk{X:Cx}(hc:X.calm=true):gZ X (.builtin "max") (λxs H Q=>∃(a:Addr) (ns:List Int),xs=[.ref a]/\lI X.K H a (ns.map V.int)/\0<ns.length/\Q (.int (rH ns)) H):=by
 intro U s Z H xs us Q I r h;obtain⟨a,ns,rfl,ha,jM,q⟩:=h;obtain⟨u,rfl,L⟩:=vals1 r;cases(show u=Value.ref a from L);obtain⟨bJ,rv,pl,_⟩:=I.list ha;have S:bJ.length=ns.length:=by have e:=rv.length;rw[aP]at e;exact e.symm
 have UR:∀(i:Nat) (v:Value),bJ.toArray[i]?=some v->∃t,v=.int (ns.getD i 0) t:=λi v hv=>by
  have NT:bJ[i]?=some v:=by simpa using hv
  have hi:i<ns.length:=by rw[<-S];exact(gE.mp NT).1
  obtain⟨u,hu,L⟩:=rv.get (i:=i) (x:=V.int ns[i]) (by rw[bW,cj hi];rfl);rw[NT]at hu;cases hu;obtain⟨t,rfl⟩:=(show∃t,v=Value.int ns[i] t from L);exact⟨t,by rw[qA,cj hi];rfl⟩
 have M:=pl.isList;have hV:a<s.heap.objs.size:=by obtain⟨_,e,_⟩:=M;exact bC e
 refine call_max_walk (mQ M ?_);refine⟨_,_,_,_,_,_,_,rfl,Walks.list (A:=X.A.in1) (I.ok.hd hc) _ a (c_ hV) bJ.toArray,⟨⟨_,cA _ rfl,rfl,rfl⟩,M.push _⟩,λb hb=>?_,by simpa[S]using jM,CmpOf.ints_gt (λi=>ns.getD i 0) UR,λv h' tk hP hk=>?_⟩
 .show b<(s.heap.push _).objs.size;rw[jr];rcases aZ.mp hb with rfl|hb
  .exact sS _
  .rw[cn.mp hb];exact wZ hV
 .obtain⟨t,rfl⟩:=UR _ v hP;have e:bJ.toArray.size=ns.length:=by rwa[cx]
  rw[e];refine⟨.int (rH ns),H,I.kept (t':=tk) λb o e=>?_,⟨t,rfl⟩,q⟩;refine hk b o (λhm=>?_) (bY _ e);rw[cn.mp hm]at e;exact absurd (bC e) (eN _)
def JB(q:Fi X H (JA ts) k):(∃us ns,ts=[.lst us]/\rG us=some ns/\0<ns.length/\k (.int (rH ns)))\/∃i j:Int,ts=[.int i,.int j]/\k (.int (if j>i then j else i)):=by
 unfold JA at q;split at q
 .rename_i us;cases e:rG us with
  |none=>rw[e]at q;exact fe q
  |some ns=>
   rw[e]at q;obtain⟨h0,z⟩:=ik q;exact .inl ⟨us,ns,rfl,e,h0,z⟩
 .exact .inr ⟨_,_,rfl,q⟩
 .exact fe q
def OB{X:Cx}(b:X.calm=true):m9 X (.builtin "max") JA:=by
 intro U s Z H xs us Q I L ⟨B,ts,hb,r,q⟩;rcases JB q with⟨M,ns,rfl,e,h0,k⟩|⟨i,j,rfl,k⟩
 .obtain⟨x,rfl,h⟩:=fM r;obtain⟨a,vs,rfl,h,rr⟩:=h.lst_inv;cases zG rr e;exact Hk b U s Z H _ us Q I L ⟨_,ns,rfl,.of (dD h),h0,k _ H (aG.refl H) (.int _)⟩
 .obtain⟨x,y,e,h1,h2⟩:=BX r;exact GV b U s Z H _ us Q I L ⟨i,j,by rw[e,h1.int_inv,h2.int_inv],k _ H (aG.refl H) (.int _)⟩
def X2:V->List V->Hp->VK->Prop:=λx xs H Q=>∃a b kvs more,x=.ref a/\xs=[.ref b]/\a≠b/\H a=some (.dK kvs)/\Rd H b (.dK more)/\kvs.length+more.length<=sizeLine/\Q .bM (upd H a (.dK (iQ kvs more)))
theorem Hl:NY X "dict.update" X2:=by
 intro U s Z H x xs v us Q I S rv ⟨a,b,kvs,more,e1,e2,Ma,ha,hb,hz,q⟩;subst e1 e2;obtain⟨u,rfl,ru⟩:=vals1 rv;cases S;cases(show u=Value.ref b from ru);obtain⟨z1,s1,L,r1,r⟩:=(show cB X.prog X.w H s.heap a (.dK kvs)from I.cy a _ ha);obtain⟨z2,s2,XG,r2,d2⟩:=(show cB X.prog X.w H s.heap b (.dK more)from hb.ok I.cy);refine pJ PySem.F.slot_dict_update r.typeIs PySem.F.entry_dict_update (PySem.F.args_dict_update_2 _ _) (meets_dict_update (bI X.prog X.w) a b Ma s2) ⟨L,XG,r,d2,by rwa[<-KV.length r1,<-KV.length r2],λh' M _ hs=>?_⟩;have he:∃q,h'.get? a=some q:=let⟨q,_,_,hq,_⟩:=M;⟨q,hq⟩
 have hl:(iQ kvs more).length<=sizeLine:=aV (by have:=je more kvs;omega) hz;exact⟨.bM,_,tV I (by rw[ha];exact True.intro) hs he (xD hl s1 (r2.merge r1) M),rfl,q⟩
def X3(o:Rz Tr)(k:Ab->Rz Tr):Rz Tr:=o.bind λt A=>match t with
 |.at i=>if nq A i=true then(k A).bind λL A=>match L with
  |.bh Ek=>if nq A i=true/\(oZ A i).length+Ek.length<=dy then .ok .bM (A.set i (.bh (gn (oZ A i) Ek)))else .bad
  |_=>.bad
  else .bad
 |_=>.bad
theorem US{cN:Pos}(ho:ZO X o F)(he:ZE X e G)(hb:autoParam (isCall o=false) Rfz) (cJ:autoParam (bL [e]=true) Rfz) (hl:autoParam ((b9.endLine==cN.line)=true) Rfz):ZE X (.Call (.Attribute o "update" b9) [e] [] cN) (λY A=>X3 (F Y A) (G Y)):=⟨(BJ sI PySem.F.slot_dict_update PySem.F.type_dict_update Hl ho.h (F0 he.h Jh (aI cJ).1) (ig hb) (by rw[ib cJ];rfl) hl (bA _ _ (aI cJ).1) (b_ (aI cJ).2)).weak λZ H Q ⟨B,A,Y,ha,r,n,q⟩=>⟨B,A,Y,ha,r,n,q.bind.mono λt M S v B1 H1 g1 jO rv=>by
  split at S
  .obtain⟨a,rfl,rf⟩:=rv.nN;rename_i i;obtain⟨hd,q2⟩:=g7 S;obtain⟨aS,kvs,e1,e2,e3,e4⟩:=qL jO rf hd;refine⟨.inr (.inr (.inl ⟨rfl,.inl ⟨_,e3⟩⟩)),B1,M,Y,jO,r.grow n g1,n,?_⟩;have I:=(gq.bind q2).imp (λc A' (z:XE X B H c A')=>z.grow ha.hb g1);have step:gq (XE X B1 H1) (FZ (G Y M) λA=>.ok [] A) (λts L=>∃tk,ts=[tk]/\gq (XE X B H) (match tk with
     |.bh Ek=>if nq L i=true/\(oZ L i).length+Ek.length<=dy then .ok .bM (L.set i (.bh (gn (oZ L i) Ek)))else .bad
     |_=>.bad) λt A'=>∀v B' H',Grows B H B' H'->HA X.K B' A' H'->Rep X.K (bK B' H') v t->Q v H'):=by
    cases eg:G Y M with
    |ok x L=>rw[eg]at I;exact⟨x,rfl,I⟩
    |_=>rw[eg]at I;exact I
   refine step.mono λts L ⟨tk,et,qk⟩ vs B2 H2 g2 p4 rs=>?_
   subst et;obtain⟨y,rfl,ry⟩:=fM rs;have AF:=g2.jv.x _ _ rf;split at qk
   .obtain⟨b,X4,rfl,hm,em,rm⟩:=ry.nM;rename_i Ek _;obtain⟨⟨hd2,hz⟩,q4⟩:=g7 qk;obtain⟨QN,Jr,f1,f2,f3,f4⟩:=qL p4 AF hd2;rw[AE f1]at hz q4;have Ma:a≠b:=λz=>by
     have n:(bK B2 H2).H a=none:=by show(if B2.hd a=true then none else H2 a)=none;rw[av f2]
     rw[<-z]at hm;rcases hm with h|⟨o,h⟩<;>(rw[n]at h;cases h)
    have c4:X4.length=Ek.length:=by have:=cF List.length em;rw[aP,aP]at this;exact this
    obtain⟨g4,h6⟩:=p4.write (o:=.bh (gn QN Ek)) (u:=.dK (iQ Jr X4)) AF ⟨f2,_,bp,by rw[jg f2];exact dE.merge ⟨em,rm⟩ f4⟩;exact⟨a,b,Jr,X4,rfl,rfl,Ma,f3,hm.same bz,by rwa[f4.length,c4,<-iR],q4 .bM B2 _ ((g1.trans ha.hb g2).trans ha.hb g4) h6 .bM⟩
   .exact qk.elim
  .exact S.elim⟩⟩
def ZG(ks:List Str):It:=⟨λi _=>i<ks.length,λi H x H'=>H'=H/\∃z,ks[i]?=some z/\x=.str z,λi _=>ks.length<=i⟩
theorem EB(a it:Addr)(kvs:List (Str×Value))(o:Obj)(es:Array DictEntry)(ep:Nat)(lk:K.lookup a=some o)(ex:o.ExactDict)(hd:o.data=.dict es ep)(hk:KeysOf (PySem.strKind P w) es/\Pairs (PySem.strKind P w) es.toList kvs/\(kvs.map (·.1)).Nodup):Turn P w K tg (ZG (kvs.map (·.1))) [it] it (λi h=>h.IsKeyIter it a i kvs.length ep) where
 mem:=by simp
 obj:=λi h st b hb=>by
  have e:b=it:=by simpa using hb
  subst e;obtain⟨o,e,c,d⟩:=st;exact⟨o,e,λv z=>by rw[d]at z;cases z⟩
 keep:=λi h h' st k=>by
  obtain⟨o,e,c⟩:=st;exact⟨o,k it *...* o e,c⟩
 item:=by
  intro X L hw hK hc i U s Z H E I hf st r;subst L hw hK;have hi:i<kvs.length:=by have q:i<(kvs.map (·.1)).length:=r;rw[aP]at q;exact q
  have M:s.heap.get? a=some o:=I.nK a o lk;obtain⟨f0,f1,f2,S,f4,f5⟩:=hf it *...*;have ZH:kvs[i]?=some (kvs[i].1,kvs[i].2):=by simp[hi]
  refine wpAny_pyNext_dict_item (knd:=PySem.strKind X.prog X.w) st ⟨o,es,M,ex,hd,hk⟩ ZH λkey h' hk1 z9 sb=>?_
  have I1:Inv X U Z H {s with heap:=h'}:=I.turned (t':=s.toks) (λb o hb e=>(sb.2 b hb).trans e) f0 f1 S f4 f5;obtain⟨oi,e,c,d⟩:=id z9;refine⟨key,rfl,y3 (s:={s with heap:=h'}) e c d ∅ ⟨.str kvs[i].1,H,I1,?_,⟨rfl,kvs[i].1,by rw[bW,ZH];rfl,rfl⟩,z9,λb hb=>(hf b hb).1⟩⟩;exact uY (k:=.inr kvs[i].1) hk1
 done:=by
  intro X L hw hK hc i U s Z H E I hf st r;subst L hw hK;have hi:kvs.length<=i:=by have q:(kvs.map (·.1)).length<=i:=r;rw[aP]at q;exact q
  have M:s.heap.get? a=some o:=I.nK a o lk;obtain⟨f0,f1,f2,S,f4,f5⟩:=hf it *...*;exact wpAny_pyNext_dict_end (knd:=PySem.strKind X.prog X.w) (I.ok.hd hc) st ⟨o,es,M,ex,hd,hk⟩ (List.getElem?_eq_none hi) λh' eb=>⟨rfl,I.turned (t':=s.toks) (λb o hb e=>eb b o hb e) f0 f1 S f4 f5⟩
 self:=λ_ _ _ _ _ st h=>wpAny_pyIter_keyiter st h
def EC(K:Frag)(w:World)(mg:Str->Option Value)(x:Str)(ks:List Str):Prop:=∃a kvs,mg x=some (.ref a)/\BU K w a kvs/\kvs.map (·.1)=ks/\∀z∈ks,z.length<=cH
def Q1{X:Cx}(T:EC X.K X.w X.mg x ks)(S:autoParam (Gl X x) Rfz) (iJ:autoParam (Db x) Dcz):QI X tg (.Name x p) (λ_=>.ok (ks.map .str)):=⟨by
 obtain⟨a,kvs,hm,⟨hs,o,es,ep,lk,ex,hd,L⟩,rfl,hz⟩:=T;intro U s Z H R I ⟨B,Y,hb,r,q⟩;refine qF I S hm ?_ iJ
 have ho:s.heap.get? a=some o:=I.nK a o lk;refine wpAny_pyIter_dict (knd:=PySem.strKind X.prog X.w) hs ⟨o,es,ho,ex,hd,L X.prog⟩ ?_
 refine⟨`a,[`a],_,ZG (kvs.map (·.1)),H,rfl,I.kept (t':=s.toks) λb o e=>bY _ e,EB a _ kvs o es ep lk ex hd (L X.prog),⟨_,cA _ rfl,rfl,rfl⟩,λb hb=>?_,?_⟩
 .have e:b=s.heap.objs.size:=by simpa using hb
  subst e;exact I.BD (aK _) (I.cy.fresh (aK _))
 .refine(show∀J H',aG H H'->oC X.K B J H' ((kvs.map (·.1)).map .str)->R J H' from q) _ H (aG.refl H) ⟨λi B' H' hi _ _=>?_,λi B' H' y L4 hi s2 hb2 ⟨eh,z,M,ey⟩=>?_,λB' H' _=>?_⟩
  .have e:i<((kvs.map (·.1)).map Tr.str).length:=hi;rw[aP]at e;exact e
  .subst eh ey;exact⟨aG.refl _,.str z,by rw[bW,M];rfl,.str z (hz z (eK M))⟩
  .show(kvs.map (·.1)).length<=((kvs.map (·.1)).map Tr.str).length;rw[aP (f:=Tr.str)];exact aK _⟩
def x8:List Tr->Rs Tr
 |[.bh aS]=>.ok (.int aS.length)
 |ts=>Mn ts
theorem jz:m9 X (.builtin "len") x8:=by
 intro U s Z H xs us Q I L ⟨B,ts,hb,r,q⟩;by_cases z:∃aS,ts=[.bh aS]
 .obtain⟨aS,rfl⟩:=z;cases r with
  |cons h r=>
   cases r;cases h with
   |@bh a kvs _ h b rr=>
    obtain⟨u,rfl,M⟩:=vals1 L;cases M;have S:kvs.length=aS.length:=by have:=cF List.length b;rw[aP,aP]at this;exact this
    exact TH I (h.same bz) λt s' I'=>⟨.int kvs.length,H,I',⟨t,rfl⟩,(show∀v H',aG H H'->Rep X.K (bK B H') v (.int aS.length)->Q v H' from q) _ H (aG.refl H) (by rw[S];exact .int _)⟩
 .have e:x8 ts=Mn ts:=by
   unfold x8;split
   .exact absurd ⟨_,rfl⟩ z
   .rfl
  rw[e]at q;exact Ua U s Z H xs us Q I L ⟨B,ts,hb,r,q⟩
def Hm:typeLookup (.type "list") "keys"=pure none:=by rw[typeLookup_type,builtinLookup_eq_fast];kernel_rfl
theorem ED{A:Around}{s:Shared}{a:Addr}{sl:Array (Option Value)}{Q:Option Value->Shared->Prop}(r:s.heap.get? a=some {cls:=.type "list",dict:=none,data:=.seq xs k,slots:=sl}) (S:A.handled=none)
  (h:∀h' tk,(∀b o,s.heap.get? b=some o->h'.get? b=some o)->Q none {s with heap:=h',toks:=tk}):wpAny (model prog w) A (getAttr? (.ref a) "keys") Q E s:=by
 obtain⟨hp,g,d,tk,os⟩:=s;have I:∀L,(⟨hp,g,d,L,os⟩:Shared).TypeIs (.ref a) "list":=λ_=>⟨_,r,rfl⟩;have f1:=sub_AttributeError;have f3:=wJ.lookup;have f4:=wJ.bind (.ref a);have f5:=am_list_getattr_none;unfold getAttr? getAttrBy? getAttrBy
 repeat(any_goals (first|assumption|exact I _|((with_reducible show wpAny _ _ (call (Value.builtin "list.__getattribute__") _ _) _ _ _);refine kF wJ (I _) am_entry_list_getattribute (F.args_list_getattribute_2 _ _) (meets_getattribute_miss_list a xs k sl "keys" _ Hm ∅ (by size_fits)) ⟨r,S,λh' L e M=>?_⟩)|wp_step))
 obtain⟨t',u',he⟩:=M.there;have q:∀L,(⟨h',g,d,L,os⟩:Shared).TypeIs (.ref e) "AttributeError":=λ_=>⟨_,he,rfl⟩;show wpAny _ _ (getattributeRaised _ _ _ _ _ _ _) _ _ _;unfold getattributeRaised
 repeat(any_goals (first|assumption|exact q _|wp_step))
 exact h h' L M.of.keeps
def zH:entryFor table "dict.update.loop"=some Builtin.«dict.update.loop»:=entryFor_of_tree (by kernel_rfl)
def qN:plainId "dict.update.loop"=true:=∅
theorem JC{A:Around}{s:Shared}{h0:Heap}{d I:Addr}{pairs:List (Key×Value)}{R:Result->Shared->Prop}(hh:A.handled=none)(hl:h0.IsList l ah.toArray)(c4:ah.length=pairs.length)(hp:∀(j:Nat) (t:Value),ah[j]?=some t->∃ad key k v,t=.ref ad/\h0.IsTuple ad #[key,v]/\mY k key=true/\pairs[j]?=some (k,v))
  (Uu:h0.get? d=none) (M:h0.get? I=none) (S:d≠I) (hz:pairs.length<=100000)
  (hR:∀h' yI,(∀b o,h0.get? b=some o->h'.get? b=some o)->h'.DictOf (bI prog w) d (merged [] pairs)->R (.ok (.ret .none)) {s with heap:=h',toks:=yI}):
  ∀(r i:Nat) (h:Heap) (q:Nat) (kvs:List (Key×Value)),pairs.length - i=r->i<=pairs.length->kvs.length<=i->merged kvs (pairs.drop i)=merged [] pairs->(∀b o,h0.get? b=some o->h.get? b=some o)->h.IsListIter I l i->h.DictOf (bI prog w) d kvs->
   codeAny (model prog w) A (.builtin "dict.update.loop" ⟨[.ref d,.ref I,rawInt i,.none],[]⟩) R {s with heap:=h,toks:=q}:=by
 have ZJ:∀{h:Heap},(∀b o,h0.get? b=some o->h.get? b=some o)->h.IsList l ah.toArray:=λ{h} k=>by obtain⟨o,e,x⟩:=hl;exact⟨o,k _ _ e,x⟩
 have nd:∀{b:Addr} {o:Obj},h0.get? b=some o->b≠d:=λ{b o} e z=>by rw[z,Uu]at e;cases e
 have nI:∀{b:Addr} {o:Obj},h0.get? b=some o->b≠I:=λ{b o} e z=>by rw[z,M]at e;cases e
 intro r
 induction r with
 |zero=>
  intro i h q kvs hr hi hk hm kp it dd;have e:i=pairs.length:=∎
  subst e;refine lH zH ?_
  rw[nF qN _];show wpAny _ A.in1 (pyNext (.ref I)>>=_) _ _ _;refine aH (wpAny_pyNext_list_end hh it (ZJ kp) (by simp[c4]) λh' eb=>?_);rw[pw]at hm;have G1:h'.DictOf (bI prog w) d kvs:=by
   obtain⟨o,es,ep,e,x⟩:=dd;exact⟨o,es,ep,eb d o S e,x⟩
  show wpAny _ A.in1 (Builtin.Dict.addKeywords d []>>=_) _ _ _;refine aH (aR (aR ?_));exact hR h' q (λb o e=>eb b o (nI e) (kp b o e)) (by rwa[<-hm])
 |succ r ih=>
  intro i h q kvs hr hi hk hm kp it dd;have L:i<pairs.length:=∎
  have ZK:i<ah.length:=∎
  obtain⟨ad,key,k,v,et,tp,Pd,ep⟩:=hp i ah[i] (by simp[ZK]);have OX:pairs[i]=(k,v):=by rw[cj L]at ep;exact Option.some.inj ep
  refine lH zH ?_
  rw[nF qN _];show wpAny _ A.in1 (pyNext (.ref I)>>=_) _ _ _;refine aH (wpAny_pyNext_list_item it (ZJ kp) (x:=.ref ad) (by simp[ZK,et]) λh' it' sb=>?_);have X6:∀b o,h0.get? b=some o->h'.get? b=some o:=λb o e=>(sb.2 b (nI e)).trans (kp b o e);have G1:h'.DictOf (bI prog w) d kvs:=by
   obtain⟨o,es,ep,e,x⟩:=dd;exact⟨o,es,ep,(sb.2 d S).trans e,x⟩
  obtain⟨ot,e1,e2,n,e3⟩:=tp;have hT:Shared.TypeIs {s with heap:=h',toks:=q} (.ref ad) "tuple":=⟨ot,X6 _ _ e1,e2⟩;refine aH ?_
  refine h8 ?_
  refine aH (kD ?_);unfold Builtin.Dict.pairItems;refine aH (wpAny_typeOf hT ?_);rw[av ∅];refine aH (s_ (X6 _ _ e1) e3 ?_);refine aR ?_
  show wpAny _ A.in1 (holding [key,v] (dictSet d key v)) _ _ _;refine h8 (wpAny_dictSet_pairs (knd:=bI prog w) (hsz:=by rw[eO];omega) Pd G1 λh2 Sf ZM=>?_);show wpAny _ A.in1 (pure _) _ _ _;refine aR ⟨kE qN _,?_⟩;have hc:rawInt ((i:Int)+1)=rawInt ((i+1:Nat):Int):=by push_cast;rfl
  rw[hc];refine ih (i+1) h2 _ (stored kvs k v) ∎ L ?_ ?_ (λb o e=>(ZM.2 b (nd e)).trans (X6 b o e)) ?_ Sf
  .exact aV (stored_length_le kvs k v) ∎
  .rw[qB L,OX]at hm;exact hm
  .obtain⟨o,e,x⟩:=it';exact⟨o,(ZM.2 I (Ne.symm S)).trans e,x⟩
theorem EE{A:Around}{s:Shared}{l:Addr}{pairs:List (Key×Value)}{q:Array (Option Value)}(S:A.handled=none)(r:s.heap.get? l=some {cls:=.type "list",dict:=none,data:=.seq ah.toArray k0,slots:=q}) (c4:ah.length=pairs.length)
  (hp:∀(j:Nat) (t:Value),ah[j]?=some t->∃ad key k v,t=.ref ad/\s.heap.IsTuple ad #[key,v]/\mY k key=true/\pairs[j]?=some (k,v)) (hz:pairs.length<=100000)
  (h:∀h' I,(∀b o,s.heap.get? b=some o->h'.get? b=some o)->h'.DictOf (bI prog w) `a (merged [] pairs)->ae (.ref `a) {s with heap:=h',toks:=I}):
  wpAny (model prog w) A (call (.type "dict") [.ref l]) ae E s:=by
 refine callType_codes (Q₁:=λobj dr=>obj=.ref `a/\dr={s with heap:=s.heap.push {cls:=.type "dict",data:=.dict #[]}}) F.kt_called_dict (F.kt_typeCall_dict_1 _) F.entry_dict_init (kt_code_dict_new _ ⟨rfl,rfl⟩) ?_
 rintro obj dr ⟨rfl,rfl⟩
 have L:(s.heap.push {cls:=.type "dict",data:=.dict #[]}).DictOf (bI prog w) `a []:=Heap.DictOf.new s.heap;have ZN:=bY {cls:=.type "dict",data:=.dict #[]} r;have hT:Shared.TypeIs {s with heap:=s.heap.push {cls:=.type "dict",data:=.dict #[]}} (.ref l) "list":=⟨_,ZN,rfl⟩;refine⟨L.typeIs,F.args_dict_init_2 _ _,?_⟩;unfold Builtin.«dict.__init__»;refine aH ?_
 unfold Builtin.Dict.selfAndRest;refine aH (wpAny_notOrdered_dict L.typeIs ?_);show wpAny _ _ (pure (`a,[Value.ref l])) _ _ _;refine aR ?_
 show wpAny _ _ (Builtin.Dict.updateFrom "dict.__init__" `a (.ref l) [] .none) _ _ _;unfold Builtin.Dict.updateFrom;refine aH (wpAny_typeOf hT ?_);rw[av ∅];refine aH (ED ZN S λh1 tk1 k1=>?_);rw[av (show(none:Option Value).isNone=true from rfl)];have k2:∀b o,s.heap.get? b=some o->h1.get? b=some o:=λb o e=>k1 b o (bY _ e);have Uv:h1.get? `a=some {cls:=.type "dict",data:=.dict #[]}:=k1 _ _ (cA _ rfl);have M:h1.DictOf (bI prog w) `a []:=by
  obtain⟨o,es,ep,e,x⟩:=L;exact⟨o,es,ep,k1 _ _ e,x⟩
 have hV:`a<h1.objs.size:=bC Uv;have hl:s.heap.IsList l ah.toArray:=⟨_,r,rfl,_,rfl⟩;refine aH (wpAny_rule ?_);refine aH (mQ (show h1.IsList l ah.toArray from⟨_,k2 _ _ r,rfl,_,rfl⟩) ?_);refine aR ⟨kE qN _,?_⟩;refine JC (s:=s) (h0:=s.heap) (A:=A.in1) S hl c4 hp (by
   cases e:s.heap.get? `a with
   |none=>rfl
   |some o=>exact absurd (bC e) (eN _)) (by
   cases e:s.heap.get? h1.objs.size with
   |none=>rfl
   |some o=>exact absurd (bC (k2 _ _ e)) (eN _)) (c_ hV) hz (λh' I kp dd=>⟨rfl,h h' I kp dd⟩) _ 0 _ _ [] rfl (gH _) (aK _) rfl (λb o e=>bY _ (k2 b o e)) ⟨_,cA _ rfl,rfl,rfl⟩ ?_
 obtain⟨o,es,ep,e,x⟩:=M;exact⟨o,es,ep,bY _ e,x⟩
def vR:List Tr->Option (List (Key×Tr))
 |[]=>some []
 |.tup [k,v]::r=>match jw k,vR r with
  |some key,some l=>some ((key,v)::l)
  |_,_=>none
 |_=>none
def AH:List Tr->Rs Tr
 |[.lst ts]=>match vR ts with
  |some aS=>if aS.length<=100000 then .ok (.bh (gn [] aS))else .bad
  |none=>.bad
 |_=>.bad
def Hn{t:Tr}{ts:List Tr}(h:vR (t::ts)=some aS):∃k v key l,t=.tup [k,v]/\jw k=some key/\vR ts=some l/\aS=(key,v)::l:=by
 unfold vR at h;split at h
 .cases‹t::ts=[]›
 .rename_i k v r e;cases e;cases L:jw k with
  |none=>rw[L]at h;cases h
  |some key=>
   cases b:vR ts with
   |none=>rw[L,b]at h;cases h
   |some l=>rw[L,b]at h;cases h;exact⟨k,v,key,l,rfl,L,rfl,rfl⟩
 .cases h
theorem F6(I:Inv X U Z H s):∀{vs:List V} {ts:List Tr} {aS:List (Key×Tr)} {bJ:List Value},bb X.K (bK B H) vs ts->vR ts=some aS->Vals vs bJ->
  ∃(kvs:List (Key×V)) (ps:List (Key×Value)),dE X.K (bK B H) kvs aS/\KV kvs ps/\bJ.length=ps.length/\∀(j:Nat) (t:Value),bJ[j]?=some t->∃ad key k v,t=.ref ad/\s.heap.IsTuple ad #[key,v]/\mY k key=true/\ps[j]?=some (k,v)
 |[],[],_,_,_,e,rv=>by cases e;cases rv;exact⟨[],[],.nil,.nil,rfl,λj t e=>by simp at e⟩
 |[],_::_,_,_,h,_,_=>by cases h
 |v::vs,ts,aS,bJ,h,e,rv=>by
  cases h with
  |cons h r=>
   obtain⟨k,w',key,l,rfl,q,M,rfl⟩:=Hn e;cases rv with
   |cons h1 rv=>
    obtain⟨kvs,ps,S,q2,q3,q4⟩:=F6 I r M rv;obtain⟨ad,us,rfl,hq,rr⟩:=h.dY;cases h1;obtain⟨x1,x2,rfl,rk,q_⟩:=BX rr;obtain⟨D5,Q2,pl,_⟩:=I.tuple (aG.tup bz hq);obtain⟨u1,L,rfl,r1,r2⟩:=vals2 Q2;cases nP rk q;refine⟨(key,_)::kvs,(key,L)::ps,.cons q_ S,.cons ⟨rfl,r2⟩ q2,by rw[cY,cY,q3],λj t b=>?_⟩;cases j with
    |zero=>cases b;exact⟨ad,u1,key,L,rfl,pl,ri (P:=X.prog) (w:=X.w) r1,rfl⟩
    |succ j=>exact q4 j t b
theorem AI{X:Cx}(hc:X.calm=true):gZ X (.type "dict") (rF X AH):=by
 intro U s Z H xs us Q I rv ⟨B,ts,hb,r,q⟩;have key:∃L aS,ts=[.lst L]/\vR L=some aS/\aS.length<=100000/\∀v H',aG H H'->Rep X.K (bK B H') v (.bh (gn [] aS))->(∀p,v=.ref p->Qn H H' p)->Q v H':=by
  unfold AH at q;split at q
  .rename_i L;cases e:vR L with
   |none=>rw[e]at q;exact fe q
   |some aS=>
    rw[e]at q;obtain⟨h0,z⟩:=ik q;exact⟨L,aS,rfl,e,h0,z⟩
  .exact fe q
 obtain⟨L,aS,rfl,ep,hz,k⟩:=key;obtain⟨x,rfl,h⟩:=fM r;obtain⟨a,vs,rfl,h,rr⟩:=h.lst_inv;obtain⟨u,rfl,ru⟩:=vals1 rv;cases(show u=Value.ref a from ru);obtain⟨z0,bJ,n0,b,hx⟩:=(show cB X.prog X.w H s.heap a (.lst vs)from I.cy a _ (dD h));obtain⟨kvs,ps,M,q2,q3,q4⟩:=F6 I rr ep b;have hl:kvs.length=aS.length:=M.length;have S:ps.length<=100000:=by rwa[<-KV.length q2,hl]
 refine EE (I.ok.hd hc) hx q3 q4 S λh' yI kp dd=>?_
 have hf:H `a=none:=I.fresh;have hlm:(iQ [] kvs).length<=sizeLine:=by have:=je kvs [];rw[xh]at this;rw[eO];omega
 have hsm:(`a==sysModules)=false:=by
  have:=I.big;exact j8 (h_ this)
 refine⟨.ref `a,_,I.laid (t':=yI) (o:=.dK (iQ [] kvs)) kp (aK _) (xD hlm hsm (q2.merge .nil) dd),rfl,k _ _ (aG.upd hf) (.bh (.inl (hb.new hf)) ?_ ?_) λp' e=>by cases e;exact .upd hf (λ_ _ z=>by cases z)⟩
 .exact(dE.merge M dE.nil).keys
 .exact(dE.merge M dE.nil).vals.same (bj (aG.upd hf))
def range_any:∀(bs:List Bool),((List.range bs.length).any λi=>(bs[i]?).getD false)=bs.any id:=by
 intro bs;rw[kC,pA,pA];constructor
 .rintro ⟨i,hi,h⟩
  have L:=mT.mp hi;rw[cj L]at h;exact⟨bs[i],kA L,h⟩
 .rintro ⟨b,hb,h⟩
  obtain⟨i,L,e⟩:=wL hb;exact⟨i,mT.mpr L,by rwa[cj L,e]⟩
theorem x9:∀{bs:List Bool} {bJ:List Value},Vals (bs.map V.bl) bJ->bJ=bs.map Value.bool
 |[],_,rv=>by cases rv;rfl
 |b::r,_,rv=>by
  cases rv with
  |cons L q=>
   rw[a_,<-x9 q];cases(show _=Value.bool b from L)
   rfl
theorem Ho{X:Cx}(hc:X.calm=true):gZ X (.builtin "any") (λxs H Q=>∃(p:Addr) (bs:List Bool),xs=[.ref p]/\lI X.K H p (bs.map V.bl)/\Q (.bl (bs.any id)) H):=by
 intro U s Z H xs us Q I r h;obtain⟨p,bs,rfl,hl,q⟩:=h;obtain⟨u,rfl,ru⟩:=vals1 r;cases(show u=Value.ref p from ru);obtain⟨bJ,rv,pl,hz⟩:=I.list hl;have hb:=x9 rv;subst hb;have hV:p<s.heap.objs.size:=by obtain⟨o,n,e,_⟩:=pl;exact bC e
 refine call_any_walk (mQ pl.isList ?_);refine⟨`a,[`a,p],[`a],(bs.map Value.bool).toArray.size,_,_,λi=>(bs[i]?).getD false,rfl,Walks.list (A:=X.A.in1) (I.ok.hd hc) _ p (c_ hV) _,
  ⟨⟨_,cA _ rfl,rfl,rfl⟩,pl.isList.push _⟩,λi v s' Q' E' hP S=>?_,λh' tk hk=>?_⟩
 .have L:(bs.map Value.bool)[i]?=some v:=by simpa using hP
  rw[bW]at L;cases M:bs[i]? with
  |none=>rw[M]at L;cases L
  |some b=>
   rw[M]at L;cases L;simp only[M,xa]at S;exact kz S
 .have e:((List.range (bs.map Value.bool).toArray.size).any λi=>(bs[i]?).getD false)=bs.any id:=by
   rw[cx,aP];exact range_any bs
  rw[e];exact⟨.bl _,H,I.kept (LSm.kept_iter hk),rfl,q⟩
def Q3:List Tr->Rs Tr
 |[.lst ts]=>(yS ts).bind λbs=>.ok (.bl (bs.any id))
 |_=>.bad
def UT{X:Cx}(b:X.calm=true):m9 X (.builtin "any") Q3:=by
 intro U s Z H xs us Q I L ⟨B,ts,hb,r,q⟩;unfold Q3 at q;split at q
 .cases r with
  |cons h r=>
   cases r;cases h with
   |lst M S=>
    obtain⟨bs,k,e⟩:=Au S (Fi.bind q);subst e;exact Ho b U s Z H _ us Q I L ⟨_,bs,rfl,.of (dD M),k _ H (aG.refl H) (.bl _)⟩
 .exact fe q
noncomputable def jA(x y:Int×Int):Bool:=decide (x.1<y.1\/(x.1=y.1/\x.2<y.2))
theorem int_lt{x y:Int}(h:ae (.bool (decide (x<y))) s):wpAny (model prog w) A (richCompare .Lt (.int x t) (.int y u)) ae E s:=
 CmpOf.ints_lt (prog:=prog) (w:=w) (A:=A) (P:=λi v=>∃t,v=.int ([x,y].getD i 0) t) (λi=>[x,y].getD i 0) (λi v h=>h) 0 1 _ _ _ _ _ ⟨t,rfl⟩ ⟨u,rfl⟩ h
theorem AJ{s:Shared}{a b:Addr}{x y:Int×Int}{P:PySem.Fin->Shared->Prop}
  (I:s.heap.get? a=some M) (S:M.data=.seq #[.int x.1 t1,.int x.2 t2] na) (UW:s.heap.get? b=some ob) (iJ:ob.data=.seq #[.int y.1 u1,.int y.2 u2] nb) (q:s.TypeIs (.ref b) "tuple")
  (h:P (.done (.ret (.bool (jA x y)))) s):wpAny (model prog w) A (Builtin.«tuple.__lt__» ⟨[.ref a,.ref b],[]⟩) P E s:=by
 show wpAny _ _ (isInstance (.ref b) (.type "tuple")>>=_) _ _ s;refine aH (wpAny_isInstance q isSubtype_tuple_tuple ?_);simp only[dG,bR,bO];refine aH (wpAny_tupleItemsOf I S ?_);refine aH (wpAny_tupleItemsOf UW iJ ?_);refine aH ?_
 show wpAny _ _ (forIn [(Value.int x.1 t1,Value.int y.1 u1),(Value.int x.2 t2,Value.int y.2 u2)] _ _) _ _ s;rw[xi];refine aH (aH (wpAny_eqBool_int ?_));by_cases L:x.1=y.1
 .rw[fF.mpr L];simp only[dG,bR,bO];refine aR ?_
  dsimp only;rw[xi];refine aH (aH (wpAny_eqBool_int ?_));by_cases r:x.2=y.2
  .rw[fF.mpr r];simp only[dG,bR,bO];refine aR ?_
   dsimp only;rw[xm];refine aR (aR ?_);have e:jA x y=false:=by unfold jA;exact fV ∎
   rw[e]at h;exact h
  .rw[j8 r];simp only[fi,bo];have e:jA x y=decide (x.2<y.2):=by unfold jA;exact xf.mpr ∎
   rw[e]at h;exact aH (wpAny_rule (aH (int_lt (aH (aR (aR (aR (aR h))))))))
 .rw[j8 L];simp only[fi,bo];have e:jA x y=decide (x.1<y.1):=by unfold jA;exact xf.mpr ∎
  rw[e]at h;exact aH (wpAny_rule (aH (int_lt (aH (aR (aR (aR (aR h))))))))
theorem MQ{A:Around}{s:Shared}{a b:Addr}{x y:Int×Int}(hu:A.units<cLine)
  (I:s.heap.get? a=some q) (S:q.cls=.type "tuple") (X7:q.data=.seq #[.int x.1 t1,.int x.2 t2] na) (M:s.heap.get? b=some r) (ZQ:r.cls=.type "tuple") (iJ:r.data=.seq #[.int y.1 u1,.int y.2 u2] nb)
  (h:ae (.bool (jA x y)) s):wpAny (model prog w) A (richCompare .Lt (.ref a) (.ref b)) ae E s:=
 wpAny_richCompare_same_room (op:=.Lt) (T:="tuple") ⟨q,I,S⟩ ⟨r,M,ZQ⟩ F.slot_tuple_lt (wpAny_call_entry F.slot_tuple_lt ⟨q,I,S⟩ F.entry_tuple_lt (AJ I X7 M iJ ⟨r,M,ZQ⟩ ⟨_,rfl,(λe=>nomatch e),h⟩) (F.args_tuple_lt_2 _ _)) hu
def cC(kf:Nat->Int×Int):Nat->Nat
 |0=>0
 |j+1=>if jA (kf (j+1)) (kf (cC kf j))=true then j+1 else cC kf j
theorem CK{X:Cx}{q:Addr}(G:fK X.prog X.w X.K X.mg X.base rj k f ai ps (spT X.K h))(bd:Binds X.K ai ps [])(hr:cQ (k+1) X.A){p:Int×Int}
  (b:Inv X y0 Z H s) (hq:(q,PySem.W.methodObj (.ref f) (.ref a))∈y0) (hb:HB B H) (ro:Rep X.K (bK B H) (.ref a) o) (rt:Rep X.K (bK B H) v t) (rv:RelV v u) (he:h [o,t]=.ok (.tup [.int p.1,.int p.2])):
  wpAny `c X.A.in1 (call (.ref q) [u]) (λS s'=>∃kb H',S=.ref kb/\Inv X y0 Z H' s'/\aG H H'/\mj X.K H' kb [.int p.1,.int p.2]) E s:=by
 have Iu:spT X.K h [.ref a,v] H (λL H'=>aG H H'/\Rep X.K (bK B H') L (.tup [.int p.1,.int p.2])) E0:=⟨B,[o,t],hb,.cons ro (.cons rt .nil),_,he,λL H' I r=>⟨I,r⟩⟩;have hl:([.ref a,u]++[]:List Value).length=ps.length:=G.len _ _ _ _ Iu;refine wpAny_call (PySem.W.method_call (b.pin _ (cX _ hq)).1 ?_);refine pI (G.run X.A.in1 X.stack s H ⟨[.ref a,u],[]⟩ [.ref a,u] [.ref a,v] _ E0 hr.in1 b.Ph.in1 (bd s [.ref a,u] b.nK hl) (.cons rfl (.cons rv .nil)) Iu) λr s' M=>?_
 match r,M with
 |.ok (.ret S),M=>
  obtain⟨L,H',I',G8,I,rep⟩:=b.after M;obtain⟨kb,vs,rfl,hT,rr⟩:=rep.dY;obtain⟨x,y,rfl,r1,r2⟩:=BX rr;rw[r1.int_inv,r2.int_inv]at hT;exact⟨kb,H',G8,I',I,aG.tup bz hT⟩
theorem CL{p:Int×Int}(I:Inv X U Z H s)(M:mj X.K H b [.int p.1,.int p.2]):∃q t1 r n,s.heap.get? b=some q/\q.cls=.type "tuple"/\q.data=.seq #[.int p.1 t1,.int p.2 r] n:=by
 obtain⟨bJ,rv,⟨q,e,L,n,hd⟩,_⟩:=I.tuple M;obtain⟨S,u2,rfl,r1,r2⟩:=vals2 rv;obtain⟨t1,rfl⟩:=(show∃t,S=Value.int p.1 t from r1);obtain⟨r,rfl⟩:=(show∃t,u2=Value.int p.2 t from r2);exact⟨q,t1,r,n,e,L,hd⟩
def F7{S:Addr}{b:Addr}(r:b≠S)(q:mj K H b vs):mj K (upd H S c) b vs:=by
 rcases q with(q|⟨L,q⟩)|q
 .exact .inl (.inl (by rwa[aM r]))
 .exact .inl (.inr ⟨L,by rwa[aM r]⟩)
 .exact .inr q
def JD(r:Inv X U Z H s)(q:mj X.K H b vs)(e:H S=some (.lst l)):b≠S:=λz=>by
 subst z;rcases q with(q|⟨o,q⟩)|⟨o,bJ,n,L,_⟩
 .rw[e]at q;cases q
 .rw[e]at q;cases q
 .rw[(r.bs _ _ (r.ok.mod.OW _ _ L)).2]at e;cases e
theorem Hq{X:Cx}{q I:Addr}{H0:Hp}{kf:Nat->Int×Int}{R:Result->Shared->Prop}(hc:X.calm=true)(G:fK X.prog X.w X.K X.mg X.base rj k f ai ps (spT X.K h))(bd:Binds X.K ai ps [])(hr:cQ (k+1) X.A)(hq:(q,PySem.W.methodObj (.ref f) (.ref a))∈U)
  (hS:H0 S=none) (hb:HB B H0) (ro:Rep X.K (bK B H0) (.ref a) o) (rx:bb X.K (bK B H0) xs ts) (hl:lI X.K H0 l xs) (UX:l≠I)
  (hk:∀i t,ts[i]?=some t->h [o,t]=.ok (.tup [.int (kf i).1,.int (kf i).2]))
  (hR:∀M u H s,xs[cC kf (xs.length - 1)]?=some M->Inv X U Z H s->aG H0 H->RelV M u->R (.ok (.ret u)) s):
  ∀(r j:Nat) (s:Shared) (H:Hp) (M:V) (kb:Addr),xs.length - (j+1)=r->j+1<=xs.length->Inv X U Z H s->aG H0 H->H S=some (.lst [M,.ref kb])->xs[cC kf j]?=some M->
   mj X.K H kb [.int (kf (cC kf j)).1,.int (kf (cC kf j)).2]->s.heap.IsListIter I l (j+1)->pN X U H I->
   codeAny `c X.A (.builtin "min.loop" ⟨[.ref I,.ref q,.ref S],[]⟩) R s:=by
 have CM:(toString "min"++toString ".loop":String)="min.loop":=∅
 intro r
 induction r with
 |zero=>
  intro j s H M kb hr0 hj L sm Sz JE hT hit JF;have rV:j+1=xs.length:=∎
  obtain⟨bJ,rv,pl,_⟩:=L.list (aG.seq sm hl);have c4:bJ.length=xs.length:=rv.length.symm;have W:=Walks.list (prog:=X.prog) (w:=X.w) (A:=X.A.in1) (L.ok.hd hc) I l UX bJ.toArray;obtain⟨_,D5,n2,Q2,_,eS⟩:=L.yP Sz;obtain⟨u,u2,rfl,ru,X8⟩:=vals2 Q2;cases(show u2=Value.ref kb from X8);refine lH wG ?_
  rw[nF nD _];show wpAny _ X.A.in1 (seqItems? (.ref S)>>=_) _ _ _;refine aH (s_ eS rfl ?_);show wpAny _ X.A.in1 (tryCatch (pyNext (.ref I)) _>>=_) _ _ _;refine aH (kD (W.done _ _ _ ⟨by rwa[cx,c4,<-rV],pl.isList⟩ λh' yI UY=>?_));have I1:Inv X U Z H {s with heap:=h',toks:=yI}:=L.uW (ch:=[I]) (λb hb=>by rwa[cn.mp hb]) UY;obtain⟨_,UZ,n3,Wg,_,ZR⟩:=I1.yP Sz;have I2:=I1.LH (tD:=[]) (f:=λ_=>(#[]:Array Value)) (t':=yI) Sz ZR rfl .nil (gH _);show wpAny _ X.A.in1 (updateSeq S (λ_=>#[])>>=_) _ _ _;refine aH (wpAny_updateSeq ZR rfl (aH (wpAny_letGo (aR ?_))));refine hR M u _ _ ?_ I2 (sm.BS hS) ru
  rwa[<-rV]
 |succ r ih=>
  intro j s H M kb hr0 hj L sm Sz JE hT hit JF;have hV:j+1<xs.length:=∎
  obtain⟨bJ,rv,pl,_⟩:=L.list (aG.seq sm hl);have c4:bJ.length=xs.length:=rv.length.symm;have W:=Walks.list (prog:=X.prog) (w:=X.w) (A:=X.A.in1) (L.ok.hd hc) I l UX bJ.toArray;obtain⟨_,D5,n2,Q2,_,eS⟩:=L.yP Sz;obtain⟨u,u2,rfl,ru,X8⟩:=vals2 Q2;cases(show u2=Value.ref kb from X8);refine lH wG ?_
  rw[nF nD _];show wpAny _ X.A.in1 (seqItems? (.ref S)>>=_) _ _ _;refine aH (s_ eS rfl ?_);show wpAny _ X.A.in1 (tryCatch (pyNext (.ref I)) _>>=_) _ _ _;refine aH (kD (W.item (j+1) _ _ _ (by rwa[cx,c4]) ⟨hit,pl.isList⟩ λv h' yI hP Q4 UY=>?_));refine hide λP go=>?_
  have hv:bJ[j+1]?=some v:=by simpa using hP
  obtain⟨xv,SA⟩:∃y,xs[j+1]?=some y:=⟨_,cj hV⟩
  obtain⟨v',NT,U0⟩:=rv.get SA;cases hv.symm.trans NT;obtain⟨tv,X9,X_⟩:=rx.BV SA;have I1:Inv X U Z H {s with heap:=h',toks:=yI}:=L.uW (ch:=[I]) (λb hb=>by rwa[cn.mp hb]) UY;obtain⟨oI,X',OY,SD⟩:=id Q4.1;have I1p:Inv X ((I,oI)::U) Z H {s with heap:=h',toks:=yI}:=I1.ke λp hp=>by
   rcases aZ.mp hp with rfl|hp
   .exact⟨X',JF.1,JF.2.1,JF.2.2.1,λv z=>by rw[SD]at z;cases z⟩
   .exact I1.pin p (cX _ hp)
  refine go ?_
  show wpAny _ X.A.in1 (tryCatch (holding [v] (call (.ref q) [v])) _>>=_) _ _ _;refine aH (kD (h8 (dX (CK G bd hr I1p (bG _ hq) (hb.same sm) (ro.same (bj sm)) (X_.same (bj sm)) U0 (hk _ _ X9)) (λw' s2 hw=>?_) λ_ _ x=>x)));obtain⟨kb2,H2,rfl,Q5,HV,SE⟩:=hw;refine hide λP go=>?_
  have nI:=Q5.pin (I,oI) (cX _ (bF ..));have I2:Inv X U Z H2 s2:=Q5.ke λp hp=>Q5.pin p (cX _ (bG _ hp));have yV:H2 S=some (.lst [M,.ref kb]):=HV _ _ Sz;obtain⟨_,UZ,n3,Wg,_,U1⟩:=I2.yP yV;obtain⟨oa,t1,t2,na,ea,ca,da⟩:=CL I2 SE;obtain⟨ob,t3,t4,nb,eb,cb,db⟩:=CL I2 (HV.tup hT);have hu:X.A.in1.units<cLine:=lF (by show X.A.units+1<=X.A.units+16*(k+1)+200;omega) hr.un;have Ya:pN X U H2 I:=⟨nI.2.1,JF.2⟩;have Q6:aG H0 H2:=sm.trans HV;refine go ?_
  show wpAny _ X.A.in1 (tryCatch (holding [v,.ref kb2] (richCompare .Lt (.ref kb2) (.ref kb)>>=_)) _>>=_) _ _ _;refine aH (kD (h8 (aH (MQ (x:=kf (j+1)) (y:=kf (cC kf j)) hu ea ca da eb cb db ?_))));refine aH (h8 (kz ?_));refine aH (wpAny_letGo (aR ?_));by_cases HS:jA (kf (j+1)) (kf (cC kf j))=true
  .have U2:cC kf (j+1)=j+1:=av HS;have I3:=I2.LH (tD:=[v,.ref kb2]) (f:=λ_=>(#[v,.ref kb2]:Array Value)) (ys:=[xv,.ref kb2]) (t':=s2.toks) yV U1 rfl (.cons U0 (.cons rfl .nil)) (by show 2<=sizeLine;decide);simp only[HS,bo];refine aH (wpAny_updateSeq U1 rfl (aH (wpAny_letGo ?_)));rw[CM];have Q7:S≠I:=λz=>by rw[z,nI.2.1]at yV;cases yV
   have Yb:kb2≠S:=JD I2 SE yV;refine aR ⟨kE nD _,ih (j+1) _ _ xv kb2 ∎ hV I3 (Q6.BS hS) bp (by rwa[U2]) ?_ ⟨oI,(wK s2.heap _ Q7).trans nI.1,OY,SD⟩ ⟨by rw[aM Q7.symm];exact nI.2.1,JF.2⟩⟩;rw[U2];exact F7 Yb SE
  .have U2:cC kf (j+1)=cC kf j:=aA HS;simp only[HS,bO];refine aH (wpAny_letGo ?_);rw[CM];refine aR ⟨kE nD _,ih (j+1) s2 H2 M kb ∎ hV I2 Q6 yV (by rwa[U2]) (by rw[U2];exact HV.tup hT) ⟨oI,nI.1,OY,SD⟩ Ya⟩
theorem Hr{X:Cx}{q:Addr}{kf:Nat->Int×Int}(hc:X.calm=true)(G:fK X.prog X.w X.K X.mg X.base rj k f ai ps (spT X.K h))(bd:Binds X.K ai ps [])(hr:cQ (k+1) X.A)(hq:(q,PySem.W.methodObj (.ref f) (.ref a))∈U)
  (r:Inv X U Z H s) (hb:HB B H) (ro:Rep X.K (bK B H) (.ref a) o) (rx:bb X.K (bK B H) xs ts) (hl:lI X.K H l xs) (jM:0<xs.length)
  (hk:∀i t,ts[i]?=some t->h [o,t]=.ok (.tup [.int (kf i).1,.int (kf i).2])) {Q:VK}
  (hQ:∀I H',xs[cC kf (xs.length - 1)]?=some I->aG H H'->Q I H'):
  wpAny `c X.A (call (.builtin "min") [.ref l] [(Str.ofString "key",.ref q)]) (EP X U Z Q) X.xe s:=by
 have CM:(toString "min"++toString ".loop":String)="min.loop":=∅
 obtain⟨bJ,rv,pl,_⟩:=r.list hl;have c4:bJ.length=xs.length:=rv.length.symm;have Sy:=pl.isList;obtain⟨ol,hol,_⟩:=id Sy;have hll:l<s.heap.objs.size:=bC hol;refine kmk_tree PySem.F.kind_min PySem.F.plain_min PySem.F.entry_min (kmk_min_key _ _) ?_
 show wpAny _ X.A.in1 (Builtin.Builtins.bindParams "min" ["key","default"] 0 ⟨[],[(Str.ofString "key",.ref q)]⟩>>=_) _ _ s;refine aH (wpAny_of_eq (show Builtin.Builtins.bindParams "min" ["key","default"] 0 ⟨[],[(Str.ofString "key",.ref q)]⟩=pure [some (.ref q),none]from rfl) ?_);refine aH (aR ?_);refine aH (mQ Sy ?_);refine aH (wpAny_newList ?_ (gH _));rw[CM];have UX:l≠s.heap.objs.size:=c_ hll;have I1:Inv X U Z H {s with heap:=s.heap.push {cls:=.type "list_iterator",data:=.fields #[.ref l,.int 0 0]}}:=r.kept (t':=s.toks) λb u e=>bY _ e;have I2:=I1.LJ (bJ:=[]) (ys:=[]) (t':=s.toks) .nil (gH _);have hSe:(s.heap.push {cls:=.type "list_iterator",data:=.fields #[.ref l,.int 0 0]}).objs.size=`a+1:=size_push' ..;have Q7:(s.heap.push {cls:=.type "list_iterator",data:=.fields #[.ref l,.int 0 0]}).objs.size≠s.heap.objs.size:=by rw[hSe];exact pB _
 have Wi:H (s.heap.push {cls:=.type "list_iterator",data:=.fields #[.ref l,.int 0 0]}).objs.size=none:=I1.fresh;have gI:((s.heap.push {cls:=.type "list_iterator",data:=.fields #[.ref l,.int 0 0]}).push {cls:=.type "list",data:=.seq (List.toArray [])}).get? `a=some {cls:=.type "list_iterator",data:=.fields #[.ref l,.int 0 0]}:=
  bY _ (cA _ rfl)
 generalize hS:(s.heap.push {cls:=.type "list_iterator",data:=.fields #[.ref l,.int 0 0]}).objs.size=S at I2 Q7 Wi;have JF:pN X U (upd H S (.lst [])) s.heap.objs.size:=r.BD (aK _) (by rw[aM Q7.symm];exact r.fresh);have L:aG H (upd H S (.lst [])):=aG.upd Wi;refine aR ⟨kE nD _,?_⟩;have W:=Walks.list (prog:=X.prog) (w:=X.w) (A:=X.A.in1) (r.ok.hd hc) `a l UX bJ.toArray;obtain⟨_,D5,n2,Q2,_,eS⟩:=I2.yP bp;cases Q2;obtain⟨tD,G8,ZU,_⟩:=I2.list (aG.seq L hl);have ei:tD=bJ:=by
  obtain⟨o1,n1,e1,_,_,d1⟩:=pl;obtain⟨o2,n2,e2,_,_,d2⟩:=ZU;have e3:((s.heap.push {cls:=.type "list_iterator",data:=.fields #[.ref l,.int 0 0]}).push {cls:=.type "list",data:=.seq (List.toArray [])}).get? l=some o1:=bY _ (bY _ e1);have ZV:((s.heap.push {cls:=.type "list_iterator",data:=.fields #[.ref l,.int 0 0]}).push {cls:=.type "list",data:=.seq (List.toArray [])}).get? l=some o2:=e2;rw[e3]at ZV;cases ZV;rw[d1]at d2;injection d2 with d3 _
  simpa using(cF Array.toList d3).symm
 subst ei;refine lH wG ?_
 rw[nF nD _];show wpAny _ X.A.in1 (seqItems? (.ref S)>>=_) _ _ _;refine aH (s_ eS rfl ?_);show wpAny _ X.A.in1 (tryCatch (pyNext (.ref `a)) _>>=_) _ _ _;refine aH (kD (W.item 0 _ _ _ (by rwa[cx,c4]) ⟨⟨_,gI,rfl,rfl⟩,ZU.isList⟩ λv h' yI hP Q4 UY=>?_));refine hide λP go=>?_
 have hv:tD[0]?=some v:=by simpa using hP
 obtain⟨xv,SA⟩:∃y,xs[0]?=some y:=⟨_,cj jM⟩
 obtain⟨v',NT,U0⟩:=rv.get SA;cases hv.symm.trans NT;obtain⟨tv,X9,X_⟩:=rx.BV SA;have J1:=I2.uW (h':=h') (t':=yI) (ch:=[`a]) (λb hb=>by rwa[cn.mp hb]) UY;obtain⟨oI,X',OY,SD⟩:=id Q4.1;have J1p:=J1.ke (y0:=(`a,oI)::U) λp M=>by
  rcases aZ.mp M with rfl|M
  .exact⟨X',JF.1,JF.2.1,JF.2.2.1,λv z=>by rw[SD]at z;cases z⟩
  .exact J1.pin p (cX _ M)
 refine go ?_
 show wpAny _ X.A.in1 (tryCatch (holding [v] (call (.ref q) [v])) _>>=_) _ _ _;refine aH (kD (h8 (dX (CK G bd hr J1p (bG _ hq) (hb.same L) (ro.same (bj L)) (X_.same (bj L)) U0 (hk _ _ X9)) (λw' s2 hw=>?_) λ_ _ x=>x)));obtain⟨kb2,H2,rfl,Q5,HV,SE⟩:=hw;refine hide λP go=>?_
 have nI:=Q5.pin (`a,oI) (cX _ (bF ..));have J2:Inv X U Z H2 s2:=Q5.ke λp M=>Q5.pin p (cX _ (bG _ M));have yV:H2 S=some (.lst []):=HV _ _ bp;obtain⟨_,UZ,n3,Wg,_,U1⟩:=J2.yP yV;have J3:=J2.LH (tD:=[v,.ref kb2]) (f:=λ_=>(#[v,.ref kb2]:Array Value)) (ys:=[xv,.ref kb2]) (t':=s2.toks) yV U1 rfl (.cons U0 (.cons rfl .nil)) (by show 2<=sizeLine;decide);have Yb:kb2≠S:=JD J2 SE yV;have Q6:aG H H2:=L.trans HV;refine go ?_
 show wpAny _ X.A.in1 (updateSeq S (λ_=>#[v,.ref kb2])>>=_) _ _ _;refine aH (wpAny_updateSeq U1 rfl ?_);rw[CM];refine aR ⟨kE nD _,?_⟩;exact Hq hc G bd hr hq Wi hb ro rx hl UX hk (λI u H' s' hx I' sm' ru=>⟨I,H',I',ru,hQ I H' hx sm'⟩) (xs.length - 1) 0 _ _ xv kb2 rfl jM J3 (Q6.BS Wi) bp SA (F7 Yb SE)
  ⟨oI,(wK s2.heap _ Q7).trans nI.1,OY,SD⟩ ⟨by rw[aM Q7.symm];exact nI.2.1,JF.2⟩
open Builtin Builtin.ObjectAttr
structure CN(K:Frag)(f:Addr):Prop where
 get:PySem.W.specialIn K (.ref f) "__get__"=some (some (.builtin "function.__get__"))
 tk:PySem.W.takesIn K (.ref f)=some false
def CO(I:Inv X U Z H s)(e:H a=some (.ins C dx fs))(c:DX X.K C)(k:Meth X.K C m g)(l:fs.lookup m=none)(M:CN X.K g)
  (U4:PySem.W.copiedNames.contains m=false) (h:∀q S,Inv X ((q,PySem.W.methodObj (.ref g) (.ref a))::U) Z H S->ae (.ref q) S):wpAny `c A (getAttr (.ref a) m b) ae E s:=by
 obtain⟨mA,O,r,_,_,_⟩:=tL I.cy e;have hn:mA m=none:=mi.none_of (by rw[<-l];exact r m);obtain⟨od,J,hl⟩:=O.look;refine PySem.W.get_bind I.nK J (pf (c.get m)).1 (PySem.W.findObj_fn c.hd k.at_ M.get M.tk U4 (by rw[hl,hn])) (pf (c.get m)).2 (wpAny_call (PySem.W.fn_get (s:={s with toks:=s.toks+1}) I.nK (fF.mp k.fn) (PySem.W.handed_on rfl (h `a _ ?_))));have I1:Inv X U Z H {s with heap:=s.heap.push (PySem.W.methodObj (.ref g) (.ref a)),toks:=s.toks+1}:=I.kept λb u e=>bY _ e;refine I1.ke λp L=>?_
 rcases aZ.mp L with rfl|L
 .exact⟨cA _ rfl,I.fresh,h_ I.lt,I.S3 (aK _),λv z=>by cases z⟩
 .exact I1.pin p (cX _ L)
noncomputable def keyOf(r:Rs Tr):Option (Int×Int):=match r with
 |.ok (.tup [.int x,.int y])=>some (x,y)
 |_=>none
def JG(h:keyOf r=some p):r=.ok (.tup [.int p.1,.int p.2]):=by
 unfold keyOf at h;split at h
 .cases h;rfl
 .cases h
def keysOf(h:List Tr->Rs Tr)(o:Tr):List Tr->Option (List (Int×Int))
 |[]=>some []
 |t::ts=>(keyOf (h [o,t])).bind λk=>(keysOf h o ts).map λks=>k::ks
theorem zI:∀{ts:List Tr} {ks:List (Int×Int)},keysOf h o ts=some ks->∀i t,ts[i]?=some t->h [o,t]=.ok (.tup [.int (ks.getD i (0,0)).1,.int (ks.getD i (0,0)).2])
 |[],_,_,i,t,e=>by simp at e
 |u::ts,ks,L,i,t,e=>by
  rw[keysOf]at L;cases b:keyOf (h [o,u])with
  |none=>rw[b]at L;cases L
  |some k=>
   rw[b]at L;cases q:keysOf h o ts with
   |none=>rw[q]at L;cases L
   |some r=>
    rw[q]at L;cases L;cases i with
    |zero=>simp at e;subst e;exact JG b
    |succ i=>exact zI q i t (by simpa using e)
def vz(c m:Str)(h:List Tr->Rs Tr)(b o:Tr):Rs Tr:=match b,o with
 |.lst ts,.ob x fs=>if x=c/\DK fs m=true/\0<ts.length then match keysOf h (.ob x fs) ts with
  |some ks=>jx ts[cC (λi=>ks.getD i (0,0)) (ts.length - 1)]?
  |none=>.bad
  else .bad
 |_,_=>.bad
def JH(c m:Str)(h:List Tr->Rs Tr)(b q:Rs Tr):Rs Tr:=b.bind λL=>q.bind λo=>vz c m h L o
def Hs(q:Fi X H (vz c m h r o) k):∃ts fs ks t,r=.lst ts/\o=.ob c fs/\DK fs m=true/\0<ts.length/\keysOf h (.ob c fs) ts=some ks/\ts[cC (λi=>ks.getD i (0,0)) (ts.length - 1)]?=some t/\k t:=by
 unfold vz at q;split at q
 .rename_i ts x fs;by_cases L:x=c/\DK fs m=true/\0<ts.length
  rotate_left
  .rw[aA L]at q;exact fe q
  rw[av L]at q;obtain⟨rfl,h2,h3⟩:=L;have z:=q;cases e:keysOf h (.ob x fs) ts with
  |none=>rw[e]at z;exact fe z
  |some ks=>
   rw[e]at z;cases b:ts[cC (λi=>ks.getD i (0,0)) (ts.length - 1)]? with
   |none=>simp only[b]at z;exact fe z
   |some t=>simp only[b]at z;exact⟨ts,fs,ks,t,rfl,rfl,h2,h3,e,b,z⟩
 .exact fe q
theorem JI{X:Cx}{kp:Pos}{O:bS->Rs Tr}(D:MethAt X.K c m st ps f ai)(Bn:CN X.K f)(G:fK X.prog X.w X.K X.mg X.base rj k f ai ps (spT X.K h))(hr:cQ (k+1) X.A)(hm:X.mg "min"=none)(hl:QE X l F)(ho:QE X o O)(hc:autoParam (X.calm=true) Rfz) (hg:autoParam (Gl X "min") Rfz) (cJ:autoParam (bL [l]=true) Rfz) (hb:autoParam (isCall o=false) Rfz) (U4:autoParam (PySem.W.copiedNames.contains m=false) Dcz):QE X (.Call (.Name "min" p) [l] [⟨some "key",.Attribute o m b9,kp⟩] pos) (λY=>JH c m h (F Y) (O Y)):=⟨by
 have hl:=hl.h;have ho:=ho.h;intro U s Z H Q I ⟨B,Y,hB,r,q⟩;refine mP (xr (u:=.builtin "min") I hg hm rfl ?_ ∅ ∅);refine callWith_kw (d7 (qG hl xA (bA _ _ (aI cJ).1) pos U s Z H (λvs H1=>∃L,bb X.K (bK B H1) vs [L]/\aG H H1/\Fi X H ((O Y).bind λo=>vz c m h L o) λt=>∀v H',aG H H'->Rep X.K (bK B H') v t->Q v H') I ?_) λus s1 ⟨vs,H1,I1,rv,L,rl,b,k1⟩=>?_) (by rw[bA _ _ (aI cJ).1];rfl) (b_ cJ)
 .exact⟨B,Y,hB,r,q.bind.mono λL qt v H1 s1 r1=>⟨L,.cons r1 .nil,s1,qt⟩⟩
 obtain⟨y,rfl,rl1⟩:=fM rl;refine kws_cons (Fq (ig hb) (d7 (ho U s1 Z H1 (λx H2=>∃o,Rep X.K (bK B H2) x o/\aG H1 H2/\Fi X H (vz c m h L o) λt=>∀v H',aG H H'->Rep X.K (bK B H') v t->Q v H') I1 ⟨B,Y,hB.same b,r.same b,(k1.bind.same b).mono λo qo v H2 s2 r2=>⟨o,r2,s2,qo⟩⟩) λu2 s2 ⟨x,H2,I2,rx,ot,ro,M,k2⟩=>?_));obtain⟨ts,fs,ks,t,rfl,rfl,HX,U5,hks,JE,kq⟩:=Hs k2;obtain⟨a1,xs,rfl,hl1,IY⟩:=rl1.lst_inv;obtain⟨a2,dx,g6,rfl,hh,ek,L8⟩:=ro.Ag;obtain⟨w1,rfl,rw1⟩:=vals1 rv;cases(show w1=Value.ref a1 from rw1);cases(show u2=Value.ref a2 from rx);refine CO I2 (dD hh) D.cl D.mt (AD ek L8 HX) Bn U4 λq s3 I3=>kws_nil ?_
 have S:bb X.K (bK B H2) xs ts:=IY.same (bj M);refine d7 (Hr (H:=H2) (B:=B) (xs:=xs) (ts:=ts) (kf:=λi=>ks.getD i (0,0)) hc G D.bd hr (bF ..) I3 ((hB.same b).same M) (.ob hh ek L8) S (.of (M _ _ (dD hl1))) (by rwa[S.length]) (zI hks) λxb H3 hx Q6=>?_) λw3 s4 ⟨v3,H3,I4,r3,q3⟩=>⟨v3,H3,I4.ke λp hp=>I4.pin p (cX _ (bG _ hp)),r3,q3⟩;rw[S.length]at hx;obtain⟨t',e',rt'⟩:=S.BV hx;cases JE.symm.trans e';exact kq xb H3 ((b.trans M).trans Q6) (rt'.same (bj Q6))⟩
def Q8:Tr->Option Int->Option Int->Rs Tr
 |.tup ts,lo,hi=>.ok (.tup (Ar ts lo hi))
 |t,lo,hi=>Xx t lo hi
def nW(r:Rs Tr)(lo hi:Rs (Option Int)):Rs Tr:=r.bind λt=>lo.bind λl=>hi.bind λh=>Q8 t l h
theorem EF{ts:List α}{lo:Option Int}(h:nU ts.length lo hi=true):Ar ts lo hi=ts:=by
 unfold nU at h;rw[bg]at h;unfold Ar;rw[eq_of_beq h.1,eq_of_beq h.2,List.drop_zero,Nat.sub_zero,List.take_length]
inductive U6(X:Cx)(x:V)(lo:Option Int)(hi:Option Int)(H:Hp)(Q:VK):Prop
 |mk (B:eX) (t:Tr):HB B H->Rep X.K (bK B H) x t->(Fi X H (Q8 t lo hi) λt=>∀v H',aG H H'->Rep X.K (bK B H') v t->Q v H')->U6 X x lo hi H Q
def U7:Sm X (U6 X):=by
 intro U s Z H x v S vu lo hi sl Q I L hs pl pu ⟨B,t,hb,r,q⟩;by_cases hw:∃ts,t=.tup ts/\nU ts.length lo hi=true
 .obtain⟨ts,rfl,hw⟩:=hw;have b:∀v H',aG H H'->Rep X.K (bK B H') v (.tup (Ar ts lo hi))->Q v H':=q;rw[EF hw]at b;have r0:=r;cases r with
  |@tup a vs _ h rr=>
   cases L;obtain⟨bJ,r2,M,hz⟩:=I.tuple h.up;have c4:bJ.toArray.size=ts.length:=by rw[cx,<-r2.length];exact rr.length
   refine⟨"tuple",_,wC.lookup,M.typeIs,?_⟩;unfold nU at hw;rw[bg]at hw;exact HT.qX M hs pl pu (by rw[c4];exact⟨eq_of_beq hw.1,eq_of_beq hw.2⟩) ⟨.ref a,H,I,rfl,b _ H (aG.refl H) r0⟩
 .have e:Q8 t lo hi=Xx t lo hi:=by
   cases t with
   |tup ts=>
    have:¬nU ts.length lo hi=true:=λz=>hw ⟨ts,rfl,z⟩;exact(aA this).symm
   |_=>rfl
  rw[e]at q;exact Xy U s Z H x v S vu lo hi sl Q I L hs pl pu ⟨B,t,hb,r,q⟩
def uk{lo:Option Expr}(he:QE X e F)(b:QO X lo I)(M:QO X hi S):QE X (.Subscript e (.Slice lo hi none p2) pos) (λY=>nW (F Y) (I Y) (S Y)):=⟨(Iw U7 he.h b.h M.h).weak λZ H Q ⟨B,Y,hb,r,q⟩=>⟨B,Y,hb,r,q.bind.mono λt L v H1 s1 r1=>⟨B,Y,hb.same s1,r.same s1,(L.bind.same s1).mono λl ql H2 s2=>⟨B,Y,hb.same (s1.trans s2),r.same (s1.trans s2),(ql.bind.same (s1.trans s2)).mono λh qh H3 s3=>
  ⟨B,t,hb.same ((s1.trans s2).trans s3),r1.same (bj (s2.trans s3)),(qh.same ((s1.trans s2).trans s3)).mono λt L v H4 s4 r4=>L v H4 (((s1.trans s2).trans s3).trans s4) r4⟩⟩⟩⟩⟩
def Ht:gZ X (.type "range") (λxs H Q=>∃i j:Int,xs=[.int i,.int j]/\∀r,H r=none->Q (.ref r) (upd H r (.Lf i j))):=by
 intro U s Z H xs us Q I r h;obtain⟨i,j,rfl,q⟩:=h;cases r with
 |cons r L=>
  cases L with
  |cons M L=>
   cases L;obtain⟨t,rfl⟩:=r;obtain⟨t',rfl⟩:=M;refine call_range_2 ?_
   exact⟨.ref `a,_,I.laid (λb o e=>bY _ e) (aK _) (show cB X.prog X.w _ _ _ (.Lf i j)from⟨t,t',_,cA _ rfl⟩),rfl,q _ (I.cy.fresh (aK _))⟩
theorem JJ{i:Int}(h:ItemsOf (λk v=>∃t,v=.int (i+k*1) t) acc n):Vals (BR i n) acc.toList:=by
 refine ui (by have:=h.1;rw[vk,qE];omega) λk x u L b=>?_
 rw[sL]at b;obtain⟨t,rfl⟩:=h.2 k u b;unfold BR at L;rw[bW]at L;cases e:(List.range n)[k]? with
 |none=>rw[e]at L;cases L
 |some m=>
  rw[e]at L;cases L;have:m=k:=by
   have:=gE.mp e;obtain⟨h1,h2⟩:=this;rw[List.getElem_range]at h2;exact h2.symm
  subst this;exact⟨t,by rw[Int.mul_one]⟩
theorem EG{X:Cx}(b:X.calm=true):gZ X (.type "list") (λxs H Q=>∃(r:Addr) (i j:Int),xs=[.ref r]/\H r=some (.Lf i j)/\(-(2 ^62)<=i/\i<2 ^62/\-(2 ^62)<=j/\j<2 ^62)/\(j - i).toNat<=sizeLine/\∀l,H l=none->Q (.ref l) (upd H l (.lst (BR i (j - i).toNat)))):=by
 intro U s Z H xs us Q I r h;obtain⟨p,i,j,rfl,M,⟨S,b2,b3,b4⟩,L,q⟩:=h;obtain⟨u,rfl,ru⟩:=vals1 r;cases(show u=Value.ref p from ru);obtain⟨t,u,v,ho⟩:=(show cB X.prog X.w H s.heap p (.Lf i j)from I.cy p _ M);refine call_list_range (n:=(j - i).toNat) (I.ok.hd b) ho (small_one S b2 b3 b4) (by rw[rangeSize_one];split<;>omega) (by rw[eO]at L;exact L) λh' tk acc c' hk hl Az=>?_
 exact⟨.ref `a,_,I.laid (t':=tk) (o:=.lst (BR i (j - i).toNat)) hk (aK _) ⟨by rwa[vk],acc.toList,c',JJ Az,by rwa[sN]⟩,rfl,q _ (I.cy.fresh (aK _))⟩
theorem JK:bb K W (BR i n) (oY i n):=by
 unfold BR oY
 induction List.range n with
 |nil=>exact .nil
 |cons k l L=>exact .cons (.int _) L
def MR{X:Cx}{b:Expr}(M:X.mg "list"=none)(hm:X.mg "range"=none)(ha:QA X [ag,b] L)(hc:autoParam (X.calm=true) Rfz) (hg:autoParam (Gl X "list") Rfz) (hg':autoParam (Gl X "range") Rfz) (cJ:autoParam (bL [ag,b]=true) Rfz):NE X (.Call (.Name "list" p) [.Call (.Name "range" p') [ag,b] [] pos'] [] pos) (λY=>Aj (IW (L Y))):=⟨(qH (EG hc) hg M rfl (qG (qH Ht hg' hm rfl ha.h ∅ ∅ (bA _ _ (aI cJ).1) (b_ (aI cJ).2)) xA)).weak λZ H Q ⟨B,Y,hb,r,q⟩=>⟨B,Y,hb,r,q.bind.bind.mono λts I vs H1 s1 r1=>by
  split at I
  .rename_i i j;obtain⟨_,_,e,h1,h2⟩:=BX r1;rw[h1.int_inv,h2.int_inv]at e;split at I
   .rename_i hj;have I:Fi X H (if(oY i (j - i).toNat).length<=dy then Rs.ok (Tr.lst (oY i (j - i).toNat))else .bad) _:=I;by_cases S:(oY i (j - i).toNat).length<=dy
    .rw[av S]at I;rw[lN,iR]at S;refine⟨_,_,e,λr hr=>⟨r,i,j,rfl,bp,∎,S,λl M=>?_⟩⟩;have s2:=s1.trans (aG.upd (o:=.Lf i j) hr);exact I (.ref l) _ (s2.trans (aG.upd M)) (.Al (hb.same s2) M JK) λp e=>by cases e;exact .upd (s2.free M) (λ_ _ z=>by cases z)
    .rw[aA S]at I;exact I.elim
   .exact I.elim
  .exact I.elim⟩⟩
def dC(h:ZE X e F):ZO X e F:=⟨h.h⟩
def aC:QA X [] (λ_=>.ok []):=⟨FG⟩
def ak(b:QE X ag F)(q:QA X es L)(hs:autoParam (isStar ag=false) Rfz):QA X (ag::es) (λY=>rq (F Y) (L Y)):=⟨Ai b.h q.h hs⟩
def aJ:ZL X [] (λ_ A=>.ok [] A):=⟨Jh⟩
def ar(h1:ZE X ag F)(b:ZL X es L)(hs:autoParam (isStar ag=false) Rfz):ZL X (ag::es) (λY A=>FZ (F Y A) (L Y)):=⟨F0 h1.h b.h hs⟩
def AK(b:QE X k F)(q:QE X c5 G)(r:QP X pos keys vals P):QP X pos (some k::keys) (c5::vals) λY=>I0 (F Y) (G Y) (P Y):=Mt b.h q.h r
def yH.okQ {fd:FuncData}{h:List Tr->Rs Tr}(r:yH K x qual st f fd)(S:gJ N ps (aL st))(len:∀ts t,h ts=.ok t->ts.length=ps.length)
  (I:∀(b:Value) (A:Around) (outer:List Env) (s:Shared) (H:Hp) (E:XK),cQ k (A.deeper (envOfC qual (aL st) `a f b))->
   ∃G,QB (oX rj P w K mg base N qual (aL st) f b A outer s H E).HQ (fG st) G/\∀ts t,h ts=.ok t->dh (G (startT N.length ts))=.ok t):fK P w K mg base rj (k+1) f fd ps (spT K h):=
 r.okT S len λb A outer s H E L=>let⟨G,h,q⟩:=I b A outer s H E L;⟨G,h.h,q⟩
def yH.Yd {fd:FuncData}{h:List Tr->Rs Tr}(r:yH K x qual st f fd)(S:gJ N ps (aL st))(len:∀ts t,h ts=.ok t->ts.length=ps.length)
  (I:∀(b:Value) (A:Around) (outer:List Env) (s:Shared) (H:Hp) (E:XK),cQ k (A.deeper (envOfC qual (aL st) `a f b))->
   ∃G,ZB (oX rj P w K mg base N qual (aL st) f b A outer s H E).HQ (fG st) G/\∀ts t,h ts=.ok t->ff ts=true/\nk (G (startT N.length ts) [])=.ok t):fK P w K mg base rj (k+1) f fd ps (spT K h):=
 r.okZ S len λb A outer s H E L=>let⟨G,h,q⟩:=I b A outer s H E L;⟨G,h.h,q⟩
def nX(b:ZE X k F)(q:ZE X c5 G)(r:QV X pos keys vals P):QV X pos (some k::keys) (c5::vals) λY A=>Oy (F Y A) (G Y) (P Y):=Jv b.h q.h r
def JL(h:QV X pos keys vals P)(b:autoParam (keys.all (·.isSome)=true) Rfz) (q:autoParam (keys.length=vals.length) Rfz) (h0:autoParam (keys.isEmpty=false) Rfz) (r:autoParam (keys.length<=15) Dcz):ZE X (.Dict keys vals pos) (λY A=>UO (P Y) A):=⟨MM h b q h0 r⟩
def gs(h:JQ X (c5::ag::af) J):QE X (.JoinedStr (c5::ag::af) pos) (λY=>J Y Str.empty):=⟨MB h.h⟩
def MS{X:Cx}{q:List Stmt}(r:qM X.K X.mg c xs)(hb:∀pn b,ZB (X.kO pn b) body G)(hs:∀pn e,ZB (X.p7 pn e) (st::q) I)(hN:X.N.Nodup)(hi:autoParam (X.N[aa]?=some n) Rfz) (M:autoParam (X.env.scope.names.lookup n=some .local) Rfz)
  (cJ:autoParam (X.stack=X.env::X.outer) Rfz) (hf:autoParam (X.env.frame=some X.env.locals) Rfz) (S:autoParam (X.ex=[]) Rfz) (Lm:DH X n:=by exact .inl rfl) (hg:autoParam (Gl X c) Rfz) (iJ:autoParam (Db c) Dcz):
  ZS X (.Try body [.ExceptHandler (some (.Name c tp)) (some n) (st::q) hp] [] [] pos) (λY A=>CH X.N.length aa xs (G Y A) I):=⟨Jt r (λpn b=>(hb pn b).h) (λpn e=>(hs pn e).h) hN hi M cJ hf S Lm hg iJ⟩
def yH.Ye {fd:FuncData}{h:List Tr->Ab->Rz Tr}(r:yH K x qual st f fd)(S:gJ N ps (aL st))(len:∀ts A,h ts A≠ .bad->ts.length=ps.length)
  (I:∀(b:Value) (A:Around) (outer:List Env) (s:Shared) (H:Hp) (E:XK),cQ k (A.deeper (envOfC qual (aL st) `a f b))->
   ∃G,ZB (oX (zv P w) P w K mg base N qual (aL st) f b A outer s H E) (fG st) G/\∀ts A,h ts A≠ .bad->h ts A=bx (G (startT N.length ts) A)):fK P w K mg base (zv P w) (k+1) f fd ps (Bt K h):=
 r.okS S len λb A outer s H E L=>let⟨G,h,q⟩:=I b A outer s H E L;⟨G,h.h,q⟩
noncomputable def JM(K:Frag)(D:Addr):Bool:=decide (findIn K (.ref D) "__getattribute__"=some (some (.builtin "BaseException.__getattribute__")))&&(decide (findIn K (.ref D) "__getattr__"=some none)&&(decide (findIn K (.ref D) "__class__"=some (some (.builtin "object.__class__")))&&(decide (mroIn K D (.type "object")=some true)&&decide (mroIn K D (.type "BaseException")=some true))))
def MT{K:Frag}(h:JM K D=true):AG K D:=by
 unfold JM at h;rw[bg,bg,bg,bg]at h;exact⟨fg h.1,fg h.2.1,fg h.2.2.1,fg h.2.2.2.1,fg h.2.2.2.2⟩
def U8(K:Frag)(u:Value)(tab:List (Str×Bool)):Bool:=tab.all λp=>decide (kitOne K (.ref (clsAt K p.1)) u=some p.2)
def U9(K:Frag)(xs:List Str):Bool:=xs.all λx=>JM K (clsAt K x)&&(clsIn K (clsAt K x)).isSome
theorem iV:∀{l:List (Str×α)} {a:α},l.lookup z=some a->(z,a)∈l
 |[],_,h=>by cases h
 |(y,b)::l,a,h=>by
  rw[bT]at h;cases e:(z==y)with
  |true=>rw[e]at h;cases h;rw[eq_of_beq e];exact bF ..
  |false=>rw[e]at h;exact bG _ (iV h)
def Q9{K:Frag}{tab:List (Str×Bool)}(h:U8 K u tab=true)(q:U9 K xs=true)(e:tab.map (·.1)=xs):jQ K u tab:=⟨λx b L=>by
 have m:=iV L;have h1:=fg (fh.mp h _ m);have r:x∈xs:=by rw[<-e];exact fE m
 have h2:=fh.mp q x r;rw[bg]at h2;exact⟨h1,MT h2.1,h2.2⟩⟩
def U_(K:Frag)(c:Str)(xs:List Str):Bool:=xs.all λx=>decide (exmOne K (.ref (clsAt K x)) (.ref (clsAt K c))=some true)
def JN{K:Frag}{mg:Str->Option Value}(m:mg c=some (.ref (clsAt K c)))(h:U_ K c xs=true):qM K mg c xs:=⟨m,λx L=>fg (fh.mp h x L)⟩
theorem Wj{P:List Value->Prop}(h:P []):∀us:List Value,us.length=0->P us
 |[],_=>h
theorem U'{P:List Value->Prop}(h:∀a us,us.length=aa->P (a::us)):∀us:List Value,us.length=aa+1->P us
 |a::us,e=>h a us (Nat.succ.inj e)
def Wk{P:List Value->Prop}(h:∀a,P [a]):∀us:List Value,us.length=1->P us:=U' λa=>Wj (P:=λl=>P (a::l)) (h a)
def Wl{P:List Value->Prop}(h:∀a b,P [a,b]):∀us:List Value,us.length=2->P us:=U' λa=>Wk (P:=λl=>P (a::l)) (h a)
def Wm{P:List Value->Prop}(h:∀a b c,P [a,b,c]):∀us:List Value,us.length=3->P us:=U' λa=>Wl (P:=λl=>P (a::l)) (h a)
def Wn{P:List Value->Prop}(h:∀a b c d,P [a,b,c,d]):∀us:List Value,us.length=4->P us:=U' λa=>Wm (P:=λl=>P (a::l)) (h a)
def Yf{P:List Value->Prop}(h:∀a b c d e,P [a,b,c,d,e]):∀us:List Value,us.length=5->P us:=U' λa=>Wn (P:=λl=>P (a::l)) (h a)
noncomputable def MU(K:Frag)(C:Addr):Bool:=plainGet K C Str.empty&&(hasDictIn K C&&(plainOver K C&&decide (findIn K (.ref C) "__setattr__"=some (some (.builtin "object.__setattr__")))))
def JO{K:Frag}(h:MU K C=true):DX K C:=by
 unfold MU at h;rw[bg,bg,bg]at h;exact⟨h.1,h.2.1,h.2.2.1,fg h.2.2.2⟩
def Yg(K:Frag)(C:Addr)(fs:List Str):Bool:=fs.all λf=>decide (findIn K (.ref C) f=some none)
def Em.gk {K:Frag}{w:World}{kvs:List (Str×Value)}{mg:Str->Option Value}(h:Em K w es kvs aS)(hm:mg x=some (.ref a))(b:K.lookup a=some ⟨.type "dict",none,.dict es.toArray ep,#[]⟩) (hs:(a==sysModules)=false) (hn:(kvs.map (·.1)).Nodup) (q:∀z∈kvs.map (·.1),z.length<=cH):EC K w mg x (kvs.map (·.1)):=
 ⟨a,kvs,hm,⟨hs,_,_,_,b,⟨rfl,rfl,rfl⟩,rfl,λprog=>⟨λe he=>h.keys prog e (by simpa using he),h.pairs prog,hn⟩⟩,rfl,q⟩
structure Df where
 c:Option Str
 x:Str
 q:Str
 st:Stmt
 ps:List Str
def mtA(K:Frag)(c m:Str):Addr:=match findIn K (.ref (clsAt K c)) m with
 |some (some (.ref a))=>a
 |_=>0
noncomputable def Yh(K:Frag)(a:Addr):FuncData:=match K.lookup a with
 |some ⟨_,_,.func d,_⟩=>d
 |_=>default
noncomputable def Yi(K:Frag)(a:Addr):Bool:=match K.lookup a with
 |some ⟨_,_,.func _,_⟩=>true
 |_=>false
def Q_{K:Frag}(h:Yi K a=true):∃b od Ir,K.lookup a=some ⟨b,od,.func (Yh K a),Ir⟩:=by
 unfold Yi at h;unfold Yh;split at h
 .rename_i e;rw[e];exact⟨_,_,_,rfl⟩
 .cases h
namespace Df
def adr(K:Frag)(d:Df):Addr:=match d.c with
 |none=>clsAt K d.x
 |some c=>mtA K c d.x
def fd(K:Frag)(d:Df):FuncData:=Yh K (d.adr K)
def re(d:Df)(f:FuncData):FuncData:=fnOf d.x d.q (v8 d.st) (fG d.st) (aL d.st) .none f.kwdefaults f.doc f.pyModule f.annotations f.code f.closureTuple
def isAt(K:Frag)(d:Df):Bool:=match d.c with
 |none=>decide (nsIn K mainGlobals d.x=some (some (.ref (d.adr K))))
 |some c=>decide (findIn K (.ref (clsAt K c)) d.x=some (some (.ref (d.adr K))))&&(isFn K (.ref (d.adr K))&&MU K (clsAt K c))
def OC(K:Frag)(d:Df):Bool:=Yi K (d.adr K)&&(codeIn K (d.fd K).code d.q&&(keepIn K (.ref (d.adr K))&&d.isAt K))
structure Ok(K:Frag)(mg:Str->Option Value)(d:Df):Prop where
 fn:yH K d.x d.q d.st (d.adr K) (d.fd K)
 m0:d.c=none->mg d.x=some (.ref (d.adr K))
 m1:∀c,d.c=some c->Meth K (clsAt K c) d.x (d.adr K)/\DX K (clsAt K c)
def of{K:Frag}{d:Df}(X:K.In h)(G:h.Ns mainGlobals mg)(e:d.fd K=d.re (d.fd K))(k:d.OC K=true):d.Ok K mg:=by
 unfold OC at k;rw[bg,bg,bg]at k;obtain⟨k1,k2,k3,L⟩:=k;obtain⟨b,od,Ir,l⟩:=Q_ k1;refine⟨⟨⟨b,od,_,_,_,_,_,_,Ir,e,l,k2⟩,k3⟩,λz=>?_,λc z=>?_⟩<;>unfold isAt at L<;>rw[z]at L
 .exact mg_of X G (fg L)
 .rw[bg,bg]at L;exact⟨⟨fg L.1,L.2.1,k3⟩,JO L.2.2⟩
end Df
theorem JP{K:Frag}(X:K.In h)(G:h.Ns mainGlobals mg):∀{ds:List Df},ds.map (Df.fd K)=ds.map (λd=>d.re (d.fd K))->ds.all (Df.OC K)=true->∀d∈ds,d.Ok K mg
 |[],_,_,d,m=>nomatch m
 |a::ds,e,k,d,m=>by
  rw[jd,bg]at k;rw[a_,a_]at e;injection e with L b
  rcases aZ.mp m with rfl|m
  .exact Df.of X G L k.1
  .exact JP X G b k.2 d m
section
variable {P:Program}{w:World}{K:Frag}{mg:Str->Option Value}{d:Df}{N:List Str}{k:Nat}
structure DL(P:Program)(w:World)(K:Frag)(mg:Str->Option Value)(base:Heap)(CX:Ly)(aa:Nat)(d:Df)(sp:Sp):Prop where
 ok:fK P w K mg base CX aa (d.adr K) (d.fd K) d.ps sp
 bd:Binds K (d.fd K) d.ps []
 df:d.Ok K mg
abbrev Yj(d:Df):Prop:=∀(kV doc pm:Value) (an:Option Addr) (fL ct:Value) (us:List Value),us.length=d.ps.length->bindArgs (fnOf d.x d.q (v8 d.st) (fG d.st) (aL d.st) .none kV doc pm an fL ct) ⟨us,[]⟩=pure (d.ps.zip us)
abbrev Yk(CX:Ly)(P:Program)(w:World)(K:Frag)(mg:Str->Option Value)(base:Heap)(N:List Str)(d:Df):=oX CX P w K mg base N d.q (aL d.st) (d.adr K)
abbrev JR(K:Frag)(d:Df)(k:Nat)(fL:Value)(A:Around)(s:Shared):Prop:=cQ k (A.deeper (envOfC d.q (aL d.st) `a (d.adr K) fL))
def eZ(N:List Str){a b:Nat}(D:d.Ok K mg)(hb:N.Nodup->∀q A outer s H E,JR K d k q A s->ZB (Yk (zv P w) P w K mg base N d q A outer s H E) (fG d.st) G)(S:gJ N d.ps (aL d.st):=by exact⟨rfl,rfl,rfl,∅,rfl,∅,∅⟩) (B:Yj d:=by exact λ_ _ _ _ _ _=>by first|exact Wj rfl|exact Wk λ_=>rfl|exact Wl λ_ _=>rfl|exact Wm λ_ _ _=>rfl|exact Wn λ_ _ _ _=>rfl|exact Yf λ_ _ _ _ _=>rfl) (r:autoParam (d.ps.length=a) Rfz) (I:autoParam (N.length=b) Rfz):
  DL P w K mg base (zv P w) (k+1) d (Bt K (dN a b G)):=by
 subst r;subst I;exact⟨yH.Ye D.fn S (λts A e=>CD e) λq A outer s H E L=>⟨G,hb S.nd q A outer s H E L,λts A e=>MF e⟩,D.fn.binds B,D⟩
def js(N:List Str){a b:Nat}(D:d.Ok K mg)(hb:N.Nodup->∀q A outer s H E,JR K d k q A s->QB (Yk rj P w K mg base N d q A outer s H E).HQ (fG d.st) G)(S:gJ N d.ps (aL d.st):=by exact⟨rfl,rfl,rfl,∅,rfl,∅,∅⟩) (B:Yj d:=by exact λ_ _ _ _ _ _=>by first|exact Wj rfl|exact Wk λ_=>rfl|exact Wl λ_ _=>rfl|exact Wm λ_ _ _=>rfl|exact Wn λ_ _ _ _=>rfl|exact Yf λ_ _ _ _ _=>rfl) (r:autoParam (d.ps.length=a) Rfz) (I:autoParam (N.length=b) Rfz):
  DL P w K mg base rj (k+1) d (spT K (rD a b G)):=by
 subst r;subst I;exact⟨yH.okQ D.fn S (λts t e=>Mr e) λq A outer s H E L=>⟨G,hb S.nd q A outer s H E L,λts t e=>Qj e⟩,D.fn.binds B,D⟩
def Ra(N:List Str){a b:Nat}(D:d.Ok K mg)(hb:N.Nodup->∀q A outer s H E,JR K d k q A s->ZB (Yk rj P w K mg base N d q A outer s H E).HQ (fG d.st) G)(S:gJ N d.ps (aL d.st):=by exact⟨rfl,rfl,rfl,∅,rfl,∅,∅⟩) (B:Yj d:=by exact λ_ _ _ _ _ _=>by first|exact Wj rfl|exact Wk λ_=>rfl|exact Wl λ_ _=>rfl|exact Wm λ_ _ _=>rfl|exact Wn λ_ _ _ _=>rfl|exact Yf λ_ _ _ _ _=>rfl) (r:autoParam (d.ps.length=a) Rfz) (I:autoParam (N.length=b) Rfz):
  DL P w K mg base rj (k+1) d (spT K (vQ a b G)):=by
 subst r;subst I;exact⟨yH.Yd D.fn S (λts t e=>Ji e) λq A outer s H E L=>⟨G,hb S.nd q A outer s H E L,λts t e=>Mx e⟩,D.fn.binds B,D⟩
def DL.da {x:Str}(C:DL P w K mg base CX aa d sp)(r:d.c=none)(b:d.x=x)(I:d.q=x):FE K mg x d.st d.ps (d.adr K) (d.fd K):=
 ⟨by have f:=C.df.fn;rw[b,I]at f;exact f,C.bd,by have m:=C.df.m0 r;rw[b]at m;exact m⟩
def DL.ma {m:Str}(C:DL P w K mg base CX aa d sp)(b:d.c=some c)(r:d.x=m):MethAt K c m d.st d.ps (d.adr K) (d.fd K):=
 ⟨⟨d.q,by have f:=C.df.fn;rw[r]at f;exact f⟩,C.bd,by have m:=(C.df.m1 c b).1;rw[r]at m;exact m,(C.df.m1 c b).2⟩
structure Hv(K:Frag)(mg:Str->Option Value)(c:Str):Prop where
 m:makesIn K (clsAt K c)=true
 k:keepIn K (.ref (clsAt K c))=true
 g:mg c=some (.ref (clsAt K c))
def DL.mk' (C:DL P w K mg base CX aa d sp)(M:Hv K mg c)(b:d.c=some c)(q:d.x="__init__"):Ez K mg c d.ps (d.adr K) (d.fd K):=
 ⟨by have m:=(C.df.m1 c b).1;rw[q]at m;exact⟨M.m,m.at_,m.fn,M.k⟩,C.bd,M.g⟩
end
section
variable {X:Cx}{d:Df}{k:Nat}{e l:Expr}{p kp pos:Pos}{x c m:Str}
section
variable {F O:bS->Rs Tr}{L:bS->Rs (List Tr)}{h:List Tr->Rs Tr}(C:DL X.prog X.w X.K X.mg X.base rj aa d (spT X.K h))
include C
theorem cS(b:cQ k X.A)(r:QA X (e::af) L)(I:autoParam (aa<=k) Do) (M:autoParam (d.c=none) Rfz) (S:autoParam (d.x=x) Rfz) (hq:autoParam (d.q=x) Rfz) (hg:autoParam (Gl X x) Rfz) (iJ:autoParam (Db x) Dcz) (cJ:autoParam (bL (e::af)=true) Rfz):QE X (.Call (.Name x p) (e::af) [] pos) (λY=>d9 h (L Y)):=
 T1 (C.da M S hq) (C.ok.mono I) b r hg iJ cJ
theorem gu(b:cQ k X.A)(q:QE X ag F)(r:QA X (e::af) L)(I:autoParam (aa<=k) Do) (M:autoParam (d.c=some c) Rfz) (S:autoParam (d.x=m) Rfz) (cJ:autoParam (bL (e::af)=true) Rfz) (ht:autoParam (eval (.Call (.Attribute ag m b9) (e::af) [] pos) X.env=yK pos b9 ag m (e::af) X.env pl) Rfz):QE X (.Call (.Attribute ag m b9) (e::af) [] pos) (λY=>vw c m h (F Y) (L Y)):=
 QK (C.ma M S) (C.ok.mono I) b q r cJ ht
theorem AL(b:cQ k X.A)(q:QE X ag F)(r:autoParam (aa<=k) Do) (I:autoParam (d.c=some c) Rfz) (M:autoParam (d.x=m) Rfz) (S:autoParam (eval (.Call (.Attribute ag m b9) [] [] pos) X.env=yK pos b9 ag m [] X.env pl) Rfz):QE X (.Call (.Attribute ag m b9) [] [] pos) (λY=>vw c m h (F Y) (.ok [])):=
 ME (C.ma I M) (C.ok.mono r) b q S
theorem JS(b:CN X.K (d.adr X.K))(q:cQ (k+1) X.A)(hm:X.mg "min"=none)(r:QE X l F)(I:QE X ag O)(M:autoParam (aa<=k) Do) (S:autoParam (d.c=some c) Rfz) (hx:autoParam (d.x=m) Rfz) (ca:autoParam (X.calm=true) Rfz) (hg:autoParam (Gl X "min") Rfz) (cJ:autoParam (bL [l]=true) Rfz) (hb:autoParam (isCall ag=false) Rfz) (U4:autoParam (PySem.W.copiedNames.contains m=false) Dcz):
  QE X (.Call (.Name "min" p) [l] [⟨some "key",.Attribute ag m b9,kp⟩] pos) (λY=>JH c m h (F Y) (O Y)):=
 JI (C.ma S hx) b (C.ok.mono M) q hm r I ca hg cJ hb U4
end
section
variable {F:bS->Ab->Rz Tr}{L:bS->Ab->Rz (List Tr)}{h:List Tr->Ab->Rz Tr}(C:DL X.prog X.w X.K X.mg X.base (zv X.prog X.w) aa d (Bt X.K h))
include C
theorem iL(b:cQ k X.A)(r:ZL X (e::af) L)(I:autoParam (aa<=k) Do) (M:autoParam (d.c=none) Rfz) (S:autoParam (d.x=x) Rfz) (hq:autoParam (d.q=x) Rfz) (he:autoParam (X.ex=[]) Rfz) (hg:autoParam (Gl X x) Rfz) (iJ:autoParam (Db x) Dcz) (cJ:autoParam (bL (e::af)=true) Rfz):ZE X (.Call (.Name x p) (e::af) [] pos) (λY A=>(L Y A).bind h):=
 UC (C.da M S hq) (C.ok.mono I) b r he hg iJ cJ
theorem bu(b:cQ k X.A)(q:ZO X ag F)(r:ZL X (e::af) L)(I:autoParam (aa<=k) Do) (M:autoParam (d.c=some c) Rfz) (S:autoParam (d.x=m) Rfz) (he:autoParam (X.ex=[]) Rfz) (cJ:autoParam (bL (e::af)=true) Rfz) (ht:autoParam (eval (.Call (.Attribute ag m b9) (e::af) [] pos) X.env=yK pos b9 ag m (e::af) X.env pl) Rfz):ZE X (.Call (.Attribute ag m b9) (e::af) [] pos) (λY A=>vx c m h (F Y A) (L Y)):=
 QL (C.ma M S) (C.ok.mono I) b q r he cJ ht
theorem AM(b:cQ k X.A)(q:ZO X ag F)(r:autoParam (aa<=k) Do) (I:autoParam (d.c=some c) Rfz) (M:autoParam (d.x=m) Rfz) (he:autoParam (X.ex=[]) Rfz) (S:autoParam (eval (.Call (.Attribute ag m b9) [] [] pos) X.env=yK pos b9 ag m [] X.env pl) Rfz):ZE X (.Call (.Attribute ag m b9) [] [] pos) (λY A=>vx c m h (F Y A) λA=>.ok [] A):=
 MG (C.ma I M) (C.ok.mono r) b q he S
theorem Rb(M:Hv X.K X.mg c)(b:cQ (k+1) X.A)(q:ZL X (e::af) L)(r:autoParam (aa<=k) Do) (I:autoParam (d.c=some c) Rfz) (S:autoParam (d.x="__init__") Rfz) (he:autoParam (X.ex=[]) Rfz) (hg:autoParam (Gl X c) Rfz) (iJ:autoParam (Db c) Dcz) (cJ:autoParam (bL (e::af)=true) Rfz):ZE X (.Call (.Name c p) (e::af) [] pos) (λY A=>CG c h (L Y A)):=
 QR (C.mk' M I S) (C.ok.mono r) b q he hg iJ cJ
theorem MV(M:Hv X.K X.mg c)(b:cQ (k+1) X.A)(q:autoParam (aa<=k) Do) (r:autoParam (d.c=some c) Rfz) (I:autoParam (d.x="__init__") Rfz) (he:autoParam (X.ex=[]) Rfz) (S:autoParam (Gl X c) Rfz) (iJ:autoParam (Db c) Dcz):ZE X (.Call (.Name c p) [] [] pos) (λ_ A=>CG c h (.ok [] A)):=
 MJ (C.mk' M r I) (C.ok.mono q) b he S iJ
end
end
def Rc(nn:Nat){X:Cx}{i:Nat}{q:List Stmt}(r:qM X.K X.mg c xs)(hb:∀pn I,ZB (X.kO pn I) body G)(hs:∀pn e,ZB (X.p7 pn e) (st::q) M)(hN:X.N.Nodup)(hi:autoParam (X.N[i]?=some n) Rfz) (S:autoParam (X.env.scope.names.lookup n=some .local) Rfz)
  (cJ:autoParam (X.stack=X.env::X.outer) Rfz) (hf:autoParam (X.env.frame=some X.env.locals) Rfz) (hx:autoParam (X.ex=[]) Rfz) (Lm:DH X n:=by exact .inl rfl) (hg:autoParam (Gl X c) Rfz) (b:autoParam (X.N.length=nn) Rfz) (iJ:autoParam (Db c) Dcz):
  ZS X (.Try body [.ExceptHandler (some (.Name c tp)) (some n) (st::q) hp] [] [] pos) (λY A=>CH nn i xs (G Y A) M):=by
 subst b;exact MS r hb hs hN hi S cJ hf hx Lm hg iJ
abbrev hN:Int:=4238894112
theorem EH{i:Int}(h:0<=i/\i<1000000):hashInt i=i:=by
 unfold hashInt rawHash;have e:i.natAbs % (2 ^61 - 1)=i.natAbs:=Nat.mod_eq_of_lt ∎;simp only[e];split<;>split<;>simp_all<;>omega
theorem JT{s:Shared}{d:Addr}{es:Array DictEntry}{Q:Option Nat->Shared->Prop}(b:s.heap.get? d=some o)(hd:o.data=.dict es ep)(q:∀e∈es,e.hash≠hN)(h:Q none s):wpAny (model prog w) A (dictFind d .none hN) Q E s:=by
 have pl:placesWithHash es.size (λi=>es[i]?.map (·.hash)) hN=[]:=by
  unfold placesWithHash;rw[List.filter_eq_nil_iff];intro i hi;rw[mT]at hi;dsimp only;rw[Array.getElem?_eq_getElem hi];simpa using q _ (Array.getElem_mem hi)
 unfold dictFind;refine h8 ?_
 refine aH (wpAny_dictEntries b hd ?_);dsimp only;rw[pl,List.filterMap_nil,av (by rfl)];refine aH ?_
 rw[xm];exact aR (aR h)
theorem Rf{s:Shared}{d:Addr}{es:Array DictEntry}(b:s.heap.get? d=some o)(q:o.ExactDict)(hd:o.data=.dict es ep)(r:∀e∈es,e.hash≠hN)(hm:(d==sysModules)=false)(h:∀I,ae (.bool false) {s with toks:=I}):wpAny (model prog w) A (compareOp .In .none (.ref d)) ae E s:=by
 have ty:s.TypeIs (.ref d) "dict":=⟨o,b,q.1⟩;refine aH ?_
 unfold contains;refine h8 ?_
 refine aH (wpAny_specialOf ty xj.lookup ?_);rw[aA (by rw[beq_builtin_none];exact hX)];refine aH (wpAny_callSpecialUnlessNone?_slot (name:=Str.ofString "__contains__") ty xj (wpAny_call_entry xj ty entry_dict_contains ?_ (args_dict_contains _ _)));show wpAny _ _ (dictGet d .none>>=_) _ _ s;refine aH ?_
 unfold dictGet;refine h8 (aH ?_);refine PySem.W.pyHash_slot (T:="NoneType") rfl PySem.F.slot_NoneType_hash PySem.F.entry_NoneType_hash (PySem.F.args_NoneType_hash_1 _) (beq_builtin_none _) (.inl rfl) (aH (aR (aH (wpAny_mkInt (aR ⟨_,_,rfl,?_⟩)))));refine aH (JT (s:={s with toks:=s.toks+1}) b hd r (aR ?_));show wpAny _ _ (Builtin.Dict.pendingKey? d .none>>=_) _ _ _;exact aH (wpAny_pendingKey_other hm (aR ⟨_,rfl,kz (aR (h _))⟩))
def OD:Key->Bool
 |.inl i=>decide (0<=i/\i<1000000)
 |.inr _=>false
def Yl(x t:Tr):Rs Tr:=match x,t with
 |.bM,.bh aS=>if(aS.all λp=>OD p.1)=true then .ok (.bl false)else .bad
 |x,t=>zl x t
def EI{es:List DictEntry}{kvs:List (Key×Value)}(h:Pairs (bI P w) es kvs)(q:∀e∈es,∃k,(bI P w).is k e.key=true/\e.hash=(bI P w).hash k)(hs:∀p∈kvs,OD p.1=true):∀e∈es,e.hash≠hN:=by
 induction h with
 |nil=>exact λ_ h=>nomatch h
 |@cons e0 b es kvs h1 h2 r I=>
  intro e he;rcases aZ.mp he with rfl|he
  .obtain⟨k,M,S⟩:=q _ (bF ..);have:k=b.1:=(bI P w).inj _ _ _ M h1;subst this;have L:=hs b (bF ..);rw[S];cases e:b.1 with
   |inl i=>
    rw[e]at L;have L:0<=i/\i<1000000:=by simpa[OD]using L
    show hashInt i≠hN;rw[EH L];show i≠4238894112;omega
   |inr z=>rw[e]at L;cases L
  .exact I (λe m=>q e (bG _ m)) (λp m=>hs p (bG _ m)) e he
theorem Va{X:Cx}(r:X.A.units+1<cLine):Bs X (compareOp .In) Yl:=by
 intro U s Z H x y v u Q I L b ⟨B,tx,ty,hb,r1,r2,q⟩;unfold Yl at q;split at q
 .split at q
  .rename_i aS hs;cases r1.Ah;cases(show v=Value.none from L);obtain⟨a,kvs,rfl,h,M,rr⟩:=r2.nM;cases(show u=Value.ref a from b);obtain⟨z,hd,vs,rel,o,es,ep,S,hx,Ym,hk,hp,_⟩:=tU I.cy (h.same bz);refine Rf S hx Ym (λe he=>EI hp (λe he=>hk e (by simpa using he)) (λp m=>?_) e (by simpa using he)) hd λtk=>⟨.bl false,H,I.tok _,rfl,q _ H (aG.refl H) (.bl _)⟩;have m1:p.1∈aS.map (·.1):=by rw[<-M,KV.keys rel];exact fE m
   obtain⟨p2,m2,e2⟩:=bQ.mp m1;rw[<-e2];exact fh.mp hs p2 m2
  .exact fe q
 .exact nQ r U s Z H x y v u Q I L b ⟨B,tx,ty,hb,r1,r2,q⟩
def Vb(scope sc:Scope):Scope:={scope with names:=scope.names.map λ(n,k)=>if(k== .free&&sc.kind== .function&&sc.names.lookup n==some .cell)then(n,.cell)else(n,k)}
def JU{i:Nat}(he:QE X e F)(hN:autoParam X.N.Nodup Asz) (hi:autoParam (X.N[i]?=some x) Rfz) (b:autoParam (Loc X.env.scope x) Olz) (hs:autoParam (swapsWith e (some (.Name x pos')) b9.line X.env=pure false) Rfz) (hf:autoParam (DH X x) Ilz):QS X (.Assign [.Name x pos'] e b9) (λY=>LZ i (F Y) Y):=
 ⟨(DP hN hi b he.h hs hf).weak λD Z H ⟨C,B0,H0,B,Y,L,r,q⟩=>B6 L r q.bind λt v H1 I s1 M S rv=>I _ B H1 M (S.set i rv)⟩
def Rg(r:Rz Tr):Rz (List Tr):=r.bind λt A=>match t with
 |.tup ts=>.ok ts A
 |_=>.bad
inductive ZW(X:Cx)(F:bS->Ab->Rz Tr)(Z:St)(H:Hp)(R:It->Hp->Prop):Prop
 |mk (B:eX) (A:Ab) (Y:bS):HA X.K B A H->bU X.K B H Z Y->fA Y->(gq (XE X B H) (F Y A) λt A'=>∃ts,t=.tup ts/\∀J B' H',Grows B H B' H'->HA X.K B' A' H'->oC X.K B' J H' ts->R J H')->ZW X F Z H R
def Rh(h:PE X c5 (tE X F)):PI X tg c5 (ZW X F):=by
 intro U s Z H R I ⟨B,A,Y,ha,r,n,q⟩;refine d7 (h U s Z H (λx H1=>∃a vs,x=.ref a/\mj X.K H1 a vs/\R (WK X.K a) H1) I ⟨B,A,Y,ha,r,n,q.mono λt A1 ⟨ts,M,k⟩ v B1 H1 g1 S rv=>?_⟩) λv s1 ⟨x,H1,L,r1,a,vs,ex,e1,k⟩=>?_
 .subst M;obtain⟨a,vs,rfl,h,rr⟩:=rv.dY;exact⟨a,vs,rfl,aG.tup bz h,k _ B1 H1 g1 S (zg h rr)⟩
 .subst ex;cases r1;obtain⟨bJ,rv,p,hz⟩:=L.tuple e1;refine wpAny_pyIter_tuple (show s1.heap.IsTuple a bJ.toArray from p) ⟨s1.heap.objs.size,[s1.heap.objs.size],_,_,H1,rfl,L.kept (t':=s1.toks) λb o e=>bY _ e,xt a _,⟨_,cA _ rfl,rfl,rfl⟩,λb hb=>?_,k⟩;rw[cn.mp hb];exact L.BD (aK _) (L.cy.fresh (aK _))
theorem Ri(hi:ZE X c5 F)(hg:QG X tg T)(hT:pR T)(hb:ZB X body G)(hp:PassesOwn `c X.A X.env X.xe:=by first|exact PassesOwn.never|exact PassesOwn.leaving) (hc:autoParam (X.calm=true) Rfz)
  (hs:autoParam (isSet c5=false) Rfz):ZS X (.For tg c5 body [] pos) (λY A=>FX T G (Rg (F Y A)) Y):=
 ⟨(DR hp hc (Rh hi.h) hg.h hb.h (fZ hs)).weak λD Z H ⟨B0,H0,B,A,Y,Aw,g,ha,r,n,q⟩=>⟨B,A,Y,ha,r,n,((gq.bind (gq.bind q)).imp λc A' x=>x.grow Aw g).mono λt A1 qt=>by
   have key:∃ts,t=.tup ts/\gq (XE X B0 H0) (mv T G ts Y A1) (uf X D B0 H0):=by
    split at qt
    .exact⟨_,rfl,qt⟩
    .exact fe qt
   obtain⟨ts,et,qt⟩:=key;refine⟨ts,et,λJ B1 H1 ZX jO gt=>?_⟩;have g1:Grows B0 H0 B1 H1:=g.trans Aw ZX;have Qq:HB B1 H1:=jO.hb;refine⟨λi m cU H'=>m=ts.length - i/\i<=ts.length/\∃B' A' fk,Grows B1 H1 B' H'/\HA X.K B' A' H'/\bU X.K B' H' cU fk/\fA fk/\gq (XE X B0 H0) (mv T G (ts.drop i) fk A') (uf X D B0 H0),⟨_,rfl,gH _,B1,A1,Y,.refl,jO,r.grow n ZX,n,qt⟩,?_⟩
   rintro i m cU H' ⟨rfl,hi,B',A',fk,g',kn,r',n',q'⟩
   by_cases hV:i<ts.length
   .rw[qB hV]at q';refine .inr ⟨gt.go i B' H' hV g'.jv kn.hb,λv7 H2=>∃B2 A2 L,Grows B1 H1 B2 H2/\HA X.K B2 A2 H2/\bU X.K B2 H2 v7 L/\fA L/\gq (XE X B0 H0) (mv T G (ts.drop (i+1)) L A2) (uf X D B0 H0),
     λv7 H2 x=>⟨ts.length - (i+1),∎,rfl,hV,x⟩,λx H2 hx=>?_⟩
    obtain⟨s2,t,et,rt⟩:=gt.GO i B' H' x H2 hV g'.jv kn.hb hx;have P6:ts[i]=t:=by rw[cj hV]at et;exact Option.some.inj et
    rw[P6]at q';have g2:Grows B1 H1 B' H2:=g'.trans Qq (.of s2);refine Jg hT Qq g2 (kn.same s2) (r'.same s2) n' rt (gq.bind q') λhW Lq H3 q1 g3 FY r3 n3 _=>?_
    refine⟨B1,H1,B',A',hW,Qq,g3,FY,r3,n3,((gq.bind q1).imp λc A'' x=>x.grow Aw g1).mono λo A4 qo=>?_⟩;cases o with
    |nx L=>exact λIV b H4 I M S n4=>⟨b,A4,L,I,M,S,n4,qo⟩
    |ct L=>exact λIV b H4 I M S n4=>⟨b,A4,L,I,M,S,n4,qo⟩
    |bk L=>exact λIV b H4 I M S n4=>qo IV b H4 (g1.trans Aw I) M S n4
    |ret t=>exact λv b H4 I M S=>qo v b H4 (g1.trans Aw I) M S
   .have e:i=ts.length:=∎
    subst e;rw[pw]at q';exact .inl ⟨gt.stop B' H' g'.jv,q' cU B' H' (g1.trans Aw g') kn r' n'⟩⟩⟩
def JV:aF n A (.tup ts)=.tup ts:=by cases n<;>rfl
def r8:aF n A (.str z)=.str z:=by cases n<;>rfl
def EJ:aF n A (.int z)=.int z:=by cases n<;>rfl
def JW:aF n A (.bl z)=.bl z:=by cases n<;>rfl
def Rj:aF n A .bM=.bM:=by cases n<;>rfl
def Rk:aF n A (.uI ns)=.uI ns:=by cases n<;>rfl
def jB{A:Ab}{n:Nat}(h:A[aa]?=some (.ins c fs)):aF (n+1) A (.at aa)=.ob c (fs.map λp=>(p.1,aF n A p.2)):=by simp only[aF,h]
def nY{A:Ab}{n:Nat}(h:A[aa]?=some (.lst ts)):aF (n+1) A (.at aa)=.lst (ts.map (aF n A)):=by simp only[aF,h]
def iy{A:Ab}{n:Nat}(h:A[aa]?=some (.bh aS)):aF (n+1) A (.at aa)=.bh (aS.map λp=>(p.1,aF n A p.2)):=by simp only[aF,h]
def ee(ts:List Tr):Prop:=∀t∈ts,∃us,t=.tup us
def wd(h:ee ts):ts.map (aF n A)=ts:=by
 conv=>rhs;rw[<-pH ts]
 exact lD λt L=>by obtain⟨us,rfl⟩:=h t L;exact JV
def iM(aS:List (Key×Tr)):Prop:=∀p∈aS,∀n A,aF n A p.2=p.2
def nZ(h:iM aS):(aS.map λp=>(p.1,aF n A p.2))=aS:=by
 conv=>rhs;rw[<-pH aS]
 exact lD λp L=>by rw[h p L];rfl
structure Ext(A A':Ab)(pins:List (Nat×Ao)):Prop where
 le:A.length<=A'.length
 at':∀k o,A[k]?=some o->A'[k]?=some ((pins.lookup k).getD o)
def Ext.refl:Ext A A []:=⟨aK _,λk o e=>e⟩
def Ext.trans {V:List (Nat×Ao)}(a:Ext A A' pins)(b:Ext A' q V):Ext A q (V++pins):=⟨aV a.le b.le,λk o e=>by
 rw[b.at' k _ (a.at' k o e),sP];cases V.lookup k<;>rfl⟩
theorem Ext.put {A:Ab}{i:Nat}(h:A[i]?=some b):Ext A (A.set i o) [(i,o)]:=⟨by rw[kB];exact aK _,λk x e=>by
 by_cases L:k=i
 .subst L;rw[nC (gE.mp e).1];simp only[List.lookup,bD,Option.getD]
 .rw[qC (Ne.symm L),e];have:(k==i)=false:=by simpa using L
  simp only[List.lookup,this,Option.getD]⟩
def Ext.push {o:Ao}:Ext A (A++[o]) []:=⟨by simp,λk x e=>by rw[sG (gE.mp e).1,e];rfl⟩
def lQ{A:Ab}{o:Ao}:(A++[o])[A.length]?=some o:=by simp
def bw{β:Type}:(∀(a:α) (f:α->Rs β),(Rs.ok a).bind f=f a)/\(∀(a:α) (A:Ab) (f:α->Ab->Rz β),(Rz.ok a A).bind f=f a A)/\(∀(c:Tr) (A:Ab) (f:α->Ab->Rz β),(Rz.exc c A:Rz α).bind f=.exc c A):=⟨λ_ _=>rfl,λ_ _ _=>rfl,λ_ _ _=>rfl⟩
def cI(a:α)(A:Ab):kJ (.ok a) A=.ok a A:=rfl
def ev:(∀Y A G,Av (.ok (.nx Y) A) G=G Y A)/\(∀t A G,Av (.ok (.ret t) A) G=.ok (.ret t) A)/\(∀c A G,Av (.exc c A) G=.exc c A)
  /\(∀i t A Y,G_ i (.ok t A) Y=.ok (.nx (Y.set i (.sh t))) A)/\(∀i c A Y,G_ i (.exc c A) Y=.exc c A)
  /\(∀t A Y,oF (.ok t A) Y=.ok (.nx Y) A)/\(∀c A Y,oF (.exc c A) Y=.exc c A)/\(∀t A,Ha (.ok t A)=.ok (.ret t) A)/\(∀c A,Ha (.exc c A)=.exc c A)
  /\(∀Y A,bx (.ok (.nx Y) A)=.ok .bM A)/\(∀t A,bx (.ok (.ret t) A)=.ok t A)/\(∀c A,bx (.exc c A)=.exc c A)
  /\(∀x A l,FZ (.ok x A) l=(l A).bind λxs A=>.ok (x::xs) A)/\(∀x l,rq (.ok x) l=l.bind λxs=>.ok (x::xs))
  /\(∀h x y,PZ h (.ok x) (.ok y)=h x y)/\(∀h l,d9 h (.ok l)=h l)/\(∀b,TY (.ok (.bl b))=.ok b)
  /\(∀A a b,We (.ok true A) a b=a A)/\(∀A a b,We (.ok false A) a b=b A)/\(∀a b,T5 (.ok true) a b=a)/\(∀a b,T5 (.ok false) a b=b)
  /\(∀c Y n,uM (c::Y) (n+1)=uM Y n)/\(∀t Y,uM (.sh t::Y) 0=.ok t)/\(∀A t Y,dJ A (.sh t::Y)=.sh (aF 5 A t)::dJ A Y)/\(∀A Y,dJ A (.no::Y)=.no::dJ A Y)/\(∀A,dJ A []=[])
  /\(yQ (.ok [])=.ok (.tup []))/\(∀a,yQ (.ok [a])=.ok (.tup [a]))/\(∀a b,yQ (.ok [a,b])=.ok (.tup [a,b]))/\(∀a b c,yQ (.ok [a,b,c])=.ok (.tup [a,b,c]))/\(∀a b c d,yQ (.ok [a,b,c,d])=.ok (.tup [a,b,c,d]))/\(∀a b c d e,yQ (.ok [a,b,c,d,e])=.ok (.tup [a,b,c,d,e]))
  /\(∀ts,x8 [.lst ts]=.ok (.int ts.length))/\(∀ts,x8 [.tup ts]=.ok (.int ts.length))/\(∀ts,x8 [.bh ts]=.ok (.int ts.length))
  /\(∀i j,rX (.int i) (.int j)=.ok (.int (i+j)))/\(∀x t A,Jq x (.ok [t] A)=.exc (.str x) A)/\(∀i,Ue (.int i)=.ok (.int (-i)))
  /\(∀i A,mH (.ok (.int i)) A=.ok (.int i) A)/\(∀z A,mH (.ok (.str z)) A=.ok (.str z) A)/\(∀b A,mH (.ok (.bl b)) A=.ok (.bl b) A)/\(∀A,mH (.ok .bM) A=.ok .bM A)/\(∀i A,mH (.ok (.at i)) A=.ok (.at i) A)
  /\(∀b,Ed (.ok true) b=b)/\(∀b,Ed (.ok false) b=.ok false)/\(∀b,Wa (.ok true) b=.ok true)/\(∀b,Wa (.ok false) b=b)/\(∀b,IQ (.ok b)=.ok (!b))/\(∀a b,LW (.ok true) a b=a)/\(∀a b,LW (.ok false) a b=b)
  /\(∀z aS,zl (.str z) (.bh aS)=.ok (.bl (du aS (.inr z)).isSome))/\(∀z aS,Qh (.str z) (.bh aS)=.ok (.bl (!(du aS (.inr z)).isSome)))/\(∀z,MA (.str z)=.ok (.str z))/\(∀z y,Qe (.str z) (.str y)=.ok (.bl (z==y)))/\(∀i j,Qe (.int i) (.int j)=.ok (.bl (i==j)))/\(∀i j,Xt (.int i) (.int j)=.ok (.bl (decide (j<i))))
  /\(∀Y,dh (.ok (.nx Y))=.ok .bM)/\(∀t,dh (.ok (.ret t))=.ok t)/\(∀t,L3 (.ok t)=.ok (.ret t))/\(∀Y G,B5 (.ok (.nx Y)) G=G Y)/\(∀t G,B5 (.ok (.ret t)) G=.ok (.ret t))/\(∀i t Y,LZ i (.ok t) Y=.ok (.nx (Y.set i (.sh t)))):=by
 refine⟨?_,?_,?_,?_,?_,?_,?_,?_,?_,?_,?_,?_,?_,?_,?_,?_,?_,?_,?_,?_,?_,?_,?_,?_,?_,?_,?_,?_,?_,?_,?_,?_,?_,?_,?_,?_,?_,?_,?_,?_,?_,?_,?_,?_,?_,?_,?_,?_,?_,?_,?_,?_,?_,?_,?_,?_,?_,?_,?_,?_,?_,?_⟩<;>intros<;>rfl
def cO:(∀n A ts,aF n A (.tup ts)=.tup ts)/\(∀n A z,aF n A (.str z)=.str z)/\(∀n A i,aF n A (.int i)=.int i)/\(∀n A b,aF n A (.bl b)=.bl b)/\(∀n A,aF n A .bM=.bM)/\(∀n A ns,aF n A (.uI ns)=.uI ns):=⟨λ_ _ _=>JV,λ_ _ _=>r8,λ_ _ _=>EJ,λ_ _ _=>JW,λ_ _=>Rj,λ_ _ _=>Rk⟩
def AN{A:Ab}{i:Nat}(h:A[i]?=some (.lst ts)):Zl F (.ok (.at i) A) l=(l A).bind λus A=>F i us A:=by
 show(if Up A i=true then(l A).bind λus A=>F i us A else .bad)=_;exact av (by unfold Up;rw[h])
def AO{A:Ab}{t:Tr}{i:Nat}(h:A[i]?=some (.lst ts))(b:ts.length<dy):Qs i [t] A=.ok .bM (A.set i (.lst (ts++[t]))):=by
 show(match A[i]? with|some (.lst ts)=>if ts.length<dy then Rz.ok Tr.bM (A.set i (.lst (ts++[t])))else .bad|_=>.bad)=_;rw[h];exact av b
def putD(A:Ab)(t b q:Tr)(Y:bS):Rz Out:=match zE A t b q with
 |some A'=>.ok (.nx Y) A'
 |none=>.bad
def jD{A:Ab}:UE (.ok t A) o k Y=(o A).bind λu A=>(k A).bind λb A=>putD A u b t Y:=rfl
def mC{A:Ab}{i:Nat}(h:A[i]?=some (.bh aS))(b:aS.length<dy):putD A (.at i) (.str z) t Y=.ok (.nx Y) (A.set i (.bh (fB aS (.inr z) t))):=by
 have:zE A (.at i) (.str z) t=some (A.set i (.bh (fB aS (.inr z) t))):=by
  show(match A[i]? with|some (.bh aS)=>if aS.length<dy then some (A.set i (.bh (fB aS (.inr z) t)))else none|_=>none)=_;rw[h];exact av b
 unfold putD;rw[this]
def F8(i:Nat)(b:Tr)(A:Ab):Rz Tr:=match jw b with
 |some key=>if nq A i=true then match du (oZ A i) key with
  |some v=>.ok v (A.set i (.bh (iu (oZ A i) key)))
  |none=>.bad
  else .bad
 |none=>.bad
def AQ{A:Ab}{i:Nat}(h:A[i]?=some (.bh aS)):Ow (.ok (.at i) A) k=(k A).bind λb A=>F8 i b A:=by
 have e:nq A i=true:=by unfold nq;rw[h]
 show(if nq A i=true then(k A).bind λb A=>F8 i b A else .bad)=_;exact av e
def AR{A:Ab}{i:Nat}(h:A[i]?=some (.bh aS))(b:du aS (.inr z)=some v):F8 i (.str z) A=.ok v (A.set i (.bh (iu aS (.inr z)))):=by
 have e:nq A i=true:=by unfold nq;rw[h]
 have g:oZ A i=aS:=by unfold oZ;rw[h]
 unfold F8;simp only[e,bo,jw,g,b]
def F9(x:Ab->Rz Tr)(i:Nat)(b:Tr)(A:Ab):Rz Tr:=match jw b with
 |some key=>(x A).bind λL A=>if nq A i=true then match du (oZ A i) key with
  |some v=>.ok v (A.set i (.bh (iu (oZ A i) key)))
  |none=>.ok L A
  else .bad
 |none=>.bad
def MW{A:Ab}{i:Nat}(h:A[i]?=some (.bh aS)):Ox (.ok (.at i) A) k x=(k A).bind λb A=>F9 x i b A:=by
 have e:nq A i=true:=by unfold nq;rw[h]
 show(if nq A i=true then(k A).bind λb A=>F9 x i b A else .bad)=_;exact av e
theorem Hw(b:du aS (.inr z)=none):iu aS (.inr z)=aS:=lE.mpr λp L=>by
 unfold du at b;rw[Option.map_eq_none_iff,wQ]at b;simpa using b p L
theorem Rl{A:Ab}(h:A[aa]?=some o):A.set aa o=A:=by
 apply List.ext_getElem?;intro k;by_cases L:aa=k
 .subst L;rw[nC (gE.mp h).1,h]
 .rw[qC L]
def MX{i:Nat}{x:Ab->Rz Tr}(b:x A=.ok .bM A)(h:A[i]?=some (.bh aS)):F9 x i (.str z) A=.ok ((du aS (.inr z)).getD .bM) (A.set i (.bh (iu aS (.inr z)))):=by
 have e:nq A i=true:=by unfold nq;rw[h]
 have g:oZ A i=aS:=by unfold oZ;rw[h]
 unfold F9;simp only[jw,b,Rz.bind,e,bo,g];cases L:du aS (.inr z)with
 |some v=>rfl
 |none=>rw[Hw L,Rl h];rfl
def EK{z:Str}{y:Str}(h:z.length<=1000)(b:y.length<=1000):(λacc=>gi (.ok (.str z)) (λacc=>gi (.ok (.str y)) (λacc=>uX acc) acc) acc) Str.empty=.ok (.str (Str.empty++z++y)):=by
 have l1:(Str.empty++z).length<=cH:=by rw[o9];show 0+z.length<=1000000;omega
 have l2:(Str.empty++z++y).length<=cH:=by rw[o9,o9];show 0+z.length+y.length<=1000000;omega
 show(if(Str.empty++z).length<=cH then gi (.ok (.str y)) (λacc=>uX acc) (Str.empty++z)else .bad)=_;rw[av l1];show(if(Str.empty++z++y).length<=cH then uX (Str.empty++z++y)else .bad)=_;rw[av l2];exact av l2
noncomputable def roomF(i:Nat):List (Str×Tr):=[("log",.at (i+1)),("ranks",.at (i+2)),("entries",.at (i+3)),("chosen",.at (i+4)),("banned",.at (i+5)),("invited",.at (i+6)),("read_marks",.at (i+7)),("said_by_key",.at (i+8))]
structure aW(A:Ab)(i:Nat)(rows:List Tr)(rk en ch bn iv:List (Key×Tr)):Prop where
 o:A[i]?=some (.ins "Room" (roomF i))
 lg:A[i+1]?=some (.lst rows)
 rk:A[i+2]?=some (.bh rk)
 en:A[i+3]?=some (.bh en)
 ch:A[i+4]?=some (.bh ch)
 bn:A[i+5]?=some (.bh bn)
 iv:A[i+6]?=some (.bh iv)
structure dI(rows:List Tr)(rk en ch bn iv:List (Key×Tr)):Prop where
 lg:ee rows
 rk:iM rk
 en:iM en
 ch:iM ch
 bn:iM bn
 iv:iM iv
def aW.Hx {bn iv:List (Key×Tr)}(h:aW A i rows rk en ch bn iv)(f:dI rows rk en ch bn iv):lP ["Room"] "log" (aF 5 A (.at i))=.ok (.lst rows):=by
 rw[jB h.o];show Rs.ok (aF 4 A (.at (i+1)))=_;rw[nY h.lg,wd f.lg]
def aW.p8 {bn iv:List (Key×Tr)}(h:aW A i rows rk en ch bn iv)(f:dI rows rk en ch bn iv):lP ["Room"] "ranks" (aF 5 A (.at i))=.ok (.bh rk):=by
 rw[jB h.o];show Rs.ok (aF 4 A (.at (i+2)))=_;rw[iy h.rk,nZ f.rk]
def aW.Yn {bn iv:List (Key×Tr)}(h:aW A i rows rk en ch bn iv)(f:dI rows rk en ch bn iv):lP ["Room"] "entries" (aF 5 A (.at i))=.ok (.bh en):=by
 rw[jB h.o];show Rs.ok (aF 4 A (.at (i+3)))=_;rw[iy h.en,nZ f.en]
def aW.Rm {bn iv:List (Key×Tr)}(h:aW A i rows rk en ch bn iv)(f:dI rows rk en ch bn iv):lP ["Room"] "chosen" (aF 5 A (.at i))=.ok (.bh ch):=by
 rw[jB h.o];show Rs.ok (aF 4 A (.at (i+4)))=_;rw[iy h.ch,nZ f.ch]
def aW.Rn {bn iv:List (Key×Tr)}(h:aW A i rows rk en ch bn iv)(f:dI rows rk en ch bn iv):lP ["Room"] "banned" (aF 5 A (.at i))=.ok (.bh bn):=by
 rw[jB h.o];show Rs.ok (aF 4 A (.at (i+5)))=_;rw[iy h.bn,nZ f.bn]
def aW.Vc {bn iv:List (Key×Tr)}(h:aW A i rows rk en ch bn iv)(f:dI rows rk en ch bn iv):lP ["Room"] "invited" (aF 5 A (.at i))=.ok (.bh iv):=by
 rw[jB h.o];show Rs.ok (aF 4 A (.at (i+6)))=_;rw[iy h.iv,nZ f.iv]
def aW.Yo {bn iv:List (Key×Tr)}(h:aW A i rows rk en ch bn iv):uZ ["Room"] "log" (.ok (.at i) A)=.ok (.at (i+1)) A:=by unfold uZ Rz.bind;simp only[h.o];rfl
def aW.MY {bn iv:List (Key×Tr)}(h:aW A i rows rk en ch bn iv):uZ ["Room"] "ranks" (.ok (.at i) A)=.ok (.at (i+2)) A:=by unfold uZ Rz.bind;simp only[h.o];rfl
def aW.Yp {bn iv:List (Key×Tr)}(h:aW A i rows rk en ch bn iv):uZ ["Room"] "entries" (.ok (.at i) A)=.ok (.at (i+3)) A:=by unfold uZ Rz.bind;simp only[h.o];rfl
def aW.MZ {bn iv:List (Key×Tr)}(h:aW A i rows rk en ch bn iv):uZ ["Room"] "chosen" (.ok (.at i) A)=.ok (.at (i+4)) A:=by unfold uZ Rz.bind;simp only[h.o];rfl
def aW.Yq {bn iv:List (Key×Tr)}(h:aW A i rows rk en ch bn iv):uZ ["Room"] "invited" (.ok (.at i) A)=.ok (.at (i+6)) A:=by unfold uZ Rz.bind;simp only[h.o];rfl
def aW.call {A:Ab}{ch bn iv:List (Key×Tr)}(h:aW A i rows rk en ch bn iv)(hm:DK (roomF i) m=true)(F:List Tr->Ab->Rz Tr)(l:Ab->Rz (List Tr)):vx "Room" m F (.ok (.at i) A) l=(l A).bind λts A=>F (.at i::ts) A:=by
 show(match A[i]? with|some (.ins x fs)=>if x="Room"/\DK fs m=true then(l A).bind λts A=>F (.at i::ts) A else .bad|_=>.bad)=_;rw[h.o];exact av ⟨rfl,hm⟩
def Ext.same {k:Nat}(e:Ext A A' pins)(h:A[k]?=some o)(n:pins.lookup k=none):A'[k]?=some o:=by rw[e.at' k o h,n];rfl
def Ext.new {k:Nat}(e:Ext A A' pins)(h:A[k]?=some o)(n:pins.lookup k=some o'):A'[k]?=some o':=by rw[e.at' k o h,n];rfl
theorem gU{j:Nat}{o:Ao}(h:aa≠j):[(j,o)].lookup aa=none:=by
 have:(aa==j)=false:=by simpa using h
 simp only[List.lookup,this]
theorem JX{o:Ao}:[(aa,o)].lookup aa=some o:=by simp only[List.lookup,bD]
def aW.e_0 {bn iv:List (Key×Tr)}(h:aW A i rows rk en ch bn iv)(e:Ext A A' []):aW A' i rows rk en ch bn iv:=⟨e.same h.o rfl,e.same h.lg rfl,e.same h.rk rfl,e.same h.en rfl,e.same h.ch rfl,e.same h.bn rfl,e.same h.iv rfl⟩
def aW.vS {bn iv:List (Key×Tr)}(h:aW A i rows rk en ch bn iv)(e:Ext A A' [(i+1,.lst b)]):aW A' i b rk en ch bn iv:=⟨e.same h.o (gU ∎),e.new h.lg JX,e.same h.rk (gU ∎),e.same h.en (gU ∎),e.same h.ch (gU ∎),e.same h.bn (gU ∎),e.same h.iv (gU ∎)⟩
def aW.M0 {bn iv:List (Key×Tr)}(h:aW A i rows rk en ch bn iv)(e:Ext A A' [(i+2,.bh d')]):aW A' i rows d' en ch bn iv:=⟨e.same h.o (gU ∎),e.same h.lg (gU ∎),e.new h.rk JX,e.same h.en (gU ∎),e.same h.ch (gU ∎),e.same h.bn (gU ∎),e.same h.iv (gU ∎)⟩
def aW.Yr {bn iv:List (Key×Tr)}(h:aW A i rows rk en ch bn iv)(e:Ext A A' [(i+3,.bh d')]):aW A' i rows rk d' ch bn iv:=⟨e.same h.o (gU ∎),e.same h.lg (gU ∎),e.same h.rk (gU ∎),e.new h.en JX,e.same h.ch (gU ∎),e.same h.bn (gU ∎),e.same h.iv (gU ∎)⟩
def aW.Ys {bn iv:List (Key×Tr)}(h:aW A i rows rk en ch bn iv)(e:Ext A A' [(i+4,.bh d')]):aW A' i rows rk en d' bn iv:=⟨e.same h.o (gU ∎),e.same h.lg (gU ∎),e.same h.rk (gU ∎),e.same h.en (gU ∎),e.new h.ch JX,e.same h.bn (gU ∎),e.same h.iv (gU ∎)⟩
def aW.Yt {bn iv:List (Key×Tr)}(h:aW A i rows rk en ch bn iv)(e:Ext A A' [(i+6,.bh d')]):aW A' i rows rk en ch bn d':=⟨e.same h.o (gU ∎),e.same h.lg (gU ∎),e.same h.rk (gU ∎),e.same h.en (gU ∎),e.same h.ch (gU ∎),e.same h.bn (gU ∎),e.new h.iv JX⟩
def nt(h:ee rows):ee (rows++[.tup us]):=λt L=>by
 rcases cE.mp L with L|L
 .exact h t L
 .exact⟨us,cn.mp L⟩
def Hy(h:iM aS):iM (iu aS k):=λp L=>h p ((bP.mp L).1)
noncomputable def dP{α:Type}(f:α->Tr)(l:List (Str×α)):List (Key×Tr):=l.map λp=>(Sum.inr p.1,f p.2)
noncomputable def dR{α:Type}(l:List (Str×α))(z:Str)(a:α):List (Str×α):=if(l.any λp=>decide (p.1=z))=true then l.map (λp=>if p.1=z then(p.1,a)else p)else l++[(z,a)]
noncomputable def gj{α:Type}(l:List (Str×α))(z:Str):List (Str×α):=l.filter λp=>decide (p.1≠z)
def F_:((Sum.inr y:Key)=.inr z)↔y=z:=⟨λh=>by injection h,λh=>by rw[h]⟩
def F':(decide ((Sum.inr y:Key)=.inr z))=decide (y=z):=xf.mpr F_
theorem dS{f:α->Tr}{z:Str}:∀{l:List (Str×α)},du (dP f l) (.inr z)=(l.lookup z).map f
 |[]=>rfl
 |(y,b)::l=>by
  have L:=dS (f:=f) (z:=z) (l:=l);unfold du at L⊢;show Option.map _ (List.find? _ ((Sum.inr y,f b)::dP f l))=_;rw[j7,bT];by_cases h:y=z
  .subst h;simp
  .have h2:(z==y)=false:=by simpa using Ne.symm h
   simp only[F',h,decide_false,h2];exact L
def kP{f:α->Tr}{l:List (Str×α)}{a:α}:fB (dP f l) (.inr z) (f a)=dP f (dR l z a):=by
 unfold fB dR;have e:((dP f l).any λL=>decide (L.1=(.inr z:Key)))=l.any λp=>decide (p.1=z):=by
  unfold dP;rw[List.any_map];congr 1;funext p;exact F'
 rw[e];split
 .unfold dP;rw[cg,cg];apply lD;intro p b;by_cases h:p.1=z
  .simp[h]
  .simp[h]
 .unfold dP;rw[j9];rfl
def we{f:α->Tr}{l:List (Str×α)}:iu (dP f l) (.inr z)=dP f (gj l z):=by
 unfold iu gj dP;rw[pC];congr 1;apply nJ;intro p L;show decide ((Sum.inr p.1:Key)≠ .inr z)=decide (p.1≠z);simp[F_]
def jE{f:α->Tr}{l:List (Str×α)}:(dP f l).length=l.length:=aP _
def um{f:α->Tr}{l:List (Str×α)}(h:∀a n A,aF n A (f a)=f a):iM (dP f l):=λp L n A=>by
 obtain⟨q,_,rfl⟩:=bQ.mp L;exact h q.2 n A
def Ga{f:α->Tr}{l:List (Str×α)}(h:∀p∈l,p.1.length<=cH):Cq (dP f l)=.ok (l.map λp=>.str p.1):=by
 unfold Cq;rw[av]
 .unfold dP;rw[cg];rfl
 .unfold dP;rw[List.all_map,fh];intro p L;exact jb (h p L)
theorem zJ{h:List Tr->Rs Tr}{o:Tr}{k:Str->Int×Int}:∀{ns:List Str},(∀z∈ns,h [o,.str z]=.ok (.tup [.int (k z).1,.int (k z).2]))->keysOf h o (ns.map .str)=some (ns.map k)
 |[],_=>rfl
 |z::ns,q=>by
  show((keyOf (h [o,.str z])).bind λk=>(keysOf h o (ns.map .str)).map λks=>k::ks)=_;rw[q z (bF ..),zJ λy L=>q y (bG _ L)]
  rfl
theorem u0:∀j,cC kf j<=j
 |0=>aK _
 |j+1=>by
  unfold cC;split
  .exact aK _
  .exact Nat.le_succ_of_le (u0 j)
theorem uo{kf:Nat->Int×Int}:∀j,(∀a b,a<b->b<=j->(kf a).2<(kf b).2)->(∀a,a<=j->(kf (cC kf j)).1<=(kf a).1)/\(∀a,a<cC kf j->(kf (cC kf j)).1<(kf a).1)
 |0,_=>⟨λa ha=>by cases Nat.le_zero.mp ha;exact Int.le_refl _,λa ha=>absurd ha (Nat.not_lt_zero _)⟩
 |j+1,L=>by
  obtain⟨h1,h2⟩:=uo (kf:=kf) j λa b r hb=>L a b r (Nat.le_succ_of_le hb);have hb:=u0 (kf:=kf) j;have I:=L (cC kf j) (j+1) (Nat.lt_succ_of_le hb) (aK _);have e:jA (kf (j+1)) (kf (cC kf j))=decide ((kf (j+1)).1<(kf (cC kf j)).1):=by
   unfold jA;by_cases q:(kf (j+1)).1<(kf (cC kf j)).1
   .simp[q]
   .simp[q];intros;omega
  unfold cC;rw[e];by_cases q:(kf (j+1)).1<(kf (cC kf j)).1
  .rw[av (jb q)];refine⟨λa ha=>?_,λa ha=>Int.lt_of_lt_of_le q (h1 a (w4 ha))⟩;rcases Nat.lt_or_eq_of_le ha with ha|rfl
   .exact Int.le_of_lt (Int.lt_of_lt_of_le q (h1 a (w4 ha)))
   .exact Int.le_refl _
  .rw[aA (by simpa using q)];refine⟨λa ha=>?_,h2⟩;rcases Nat.lt_or_eq_of_le ha with ha|rfl
   .exact h1 a (w4 ha)
   .exact Int.not_lt.mp q
def ej{f:α->Tr}{l:List (Str×α)}:fU (.bh (dP f l)) (.str z)=jx ((l.lookup z).map f):=by
 show(jx (jw (.str z))).bind (λk=>jx (du (dP f l) k))=_;show jx (du (dP f l) (.inr z))=_;rw[dS]
theorem qO:∀{ns:List Str},jy (ns.map .str)=true
 |[]=>rfl
 |z::ns=>by rw[a_,jy,G9,kc];exact qO
def wg{ns:List Str}:(ns.map Tr.str).map (aF n A)=ns.map .str:=by
 rw[cg];exact lD λz _=>r8
theorem CQ{C:bS->Rs Bool}{F:bS->Rs Tr}{Y:bS}{P:Str->Bool}(hF:∀z,F (.sh (.str z)::Y)=.ok (.str z)):∀{ns:List Str} {c:Cell},(∀z∈ns,C (.sh (.str z)::Y)=.ok (P z))->HR (gN 0) C F (ns.map .str) (c::Y)=.ok ((ns.filter P).map .str)
 |[],_,_=>rfl
 |z::ns,c,hC=>by
  have L:=CQ (Y:=Y) hF (ns:=ns) (c:=.sh (.str z)) λy b=>hC y (bG _ b);show(N_ (C (.sh (.str z)::Y))).bind (λk=>if k then(N_ (F (.sh (.str z)::Y))).bind λy=>(HR (gN 0) C F (ns.map .str) (.sh (.str z)::Y)).bind λys=>.ok (y::ys)else HR (gN 0) C F (ns.map .str) (.sh (.str z)::Y))=_;rw[hC z (bF ..),hF z,L];show(if P z then _ else _)=_;cases e:P z with
  |true=>rw[jW e];rfl
  |false=>rw[i_ (by rw[e];exact hX)];rfl
def JY{ts:List Tr}(b:DK fs m=true)(q:0<ts.length)(hs:keysOf h (.ob c fs) ts=some ks)(r:ts[cC (λi=>ks.getD i (0,0)) (ts.length - 1)]?=some t):vz c m h (.lst ts) (.ob c fs)=.ok t:=by
 unfold vz;simp only[b,q,and_self,bo,hs,r]
 rfl
def zK{C:bS->Rs Bool}{F:bS->Rs Tr}{r:Rs (List Tr)}{sF:bS}{c:Cell}(P:Str->Bool){ns:List Str}(b:r=.ok (ns.map .str))(I:ns.length<=dy)(q:t9 ix Y=c::sF)(hF:∀z,F (.sh (.str z)::sF)=.ok (.str z))(hC:∀z∈ns,C (.sh (.str z)::sF)=.ok (P z)):zh ix (gN 0) C F r Y=.ok (.lst ((ns.filter P).map .str)):=by
 unfold zh;rw[b,q];show(if(ns.map Tr.str).length<=dy then _ else _)=_;rw[av (by rwa[aP]),CQ hF hC]
 rfl
def wj(h:jy ts=true):uS (.ok (.lst ts)) A=.ok (.at A.length) (A++[.lst ts]):=av h
def AS{f:α->Tr}{l:List (Str×α)}(h:∀p∈l,p.1.length<=1000):Us (.ok (.bh (dP f l)))=.ok (l.map λp=>.str p.1):=Ga λp L=>aV (h p L) ∅
def map_fst{l:List (Str×α)}:(l.map λp=>Tr.str p.1)=(l.map (·.1)).map .str:=by rw[cg];rfl
def Ext.idem {k:Nat}(e:Ext A A' pins)(h:A[k]?=some o)(b:pins.lookup k=none):Ext A A' ((k,o)::pins):=⟨e.le,λj x q=>by
 rw[bT];by_cases L:j=k
 .subst L;rw[h]at q;cases q;rw[e.at' j o h,b];simp
 .have:(j==k)=false:=by simpa using L
  rw[this];exact e.at' j x q⟩
def Ext.cons {k:Nat}{o:Ao}(a:Ext A A' pins)(b:Ext A' q [(k,o)]):Ext A q ((k,o)::pins):=a.trans b
def Ext.past (a:Ext A A' [])(b:Ext A' q pins):Ext A q pins:=by have:=a.trans b;rwa[j6]at this
structure bN(A:Ab)(aB:List (Str×Bool))(b8:List (Str×Nat)):Prop where
 o:A[0]?=some (.ins "Hall" [("persons",.at 1),("places",.at 2),("hands",.at 3)])
 ps:A[1]?=some (.bh (dP .bl aB))
 pl:A[2]?=some (.bh (dP .at b8))
def flB:iM (dP .bl l):=um λ_ _ _=>JW
def bN.JZ (h:bN A aB b8):lP ["Hall"] "persons" (aF 5 A (.at 0))=.ok (.bh (dP .bl aB)):=by
 rw[jB h.o];show Rs.ok (aF 4 A (.at 1))=_;rw[iy h.ps,nZ flB]
def bN.Vd (h:bN A aB b8):lP ["Hall"] "places" (aF 5 A (.at 0))=.ok (.bh (dP (λj=>aF 3 A (.at j)) b8)):=by
 rw[jB h.o];show Rs.ok (aF 4 A (.at 2))=_;rw[iy h.pl];unfold dP;rw[cg];rfl
def bN.Yv (h:bN A aB b8):uZ ["Hall"] "places" (.ok (.at 0) A)=.ok (.at 2) A:=by unfold uZ Rz.bind;simp only[h.o];rfl
def bN.call {A:Ab}(h:bN A aB b8)(hm:DK [("persons",.at 1),("places",.at 2),("hands",.at 3)] m=true)(F:List Tr->Ab->Rz Tr)(l:Ab->Rz (List Tr)):vx "Hall" m F (.ok (.at 0) A) l=(l A).bind λts A=>F (.at 0::ts) A:=by
 show(match A[0]? with|some (.ins x fs)=>if x="Hall"/\DK fs m=true then(l A).bind λts A=>F (.at 0::ts) A else .bad|_=>.bad)=_;rw[h.o];exact av ⟨rfl,hm⟩
def jh{A:Ab}:QM h (.ok x A) b=(b A).bind λy A=>mH (h (aF 1 A x) (aF 1 A y)) A:=rfl
def uq{A:Ab}{f:α->Tr}{l:List (Str×α)}(h:A[aa]?=some (.bh (dP f l))):aF 1 A (.at aa)=.bh (dP f l):=by
 rw[iy h];unfold dP;rw[cg];rfl
theorem EL:(∀T G Y A,mv T G [] Y A=.ok (.nx Y) A)/\(∀T G t ts Y A,mv T G (t::ts) Y A=(kJ (T t Y) A).bind λq A=>(G q A).bind λo A=>match o with
  |.nx b=>mv T G ts b A
  |.ct b=>mv T G ts b A
  |.bk b=>.ok (.nx b) A
  |.ret t=>.ok (.ret t) A)/\(∀T G ts A Y,FX T G (.ok ts A) Y=mv T G ts Y A)/\(∀i t Y,gN i t Y=.ok (Y.set i (.sh t)))/\(∀ts,uO (.ok (.tup ts))=.ok ts)/\(∀ts,uO (.ok (.lst ts))=.ok ts):=by
 refine⟨?_,?_,?_,?_,?_,?_⟩<;>intros<;>rfl
noncomputable def AU(j ks kb ka:Nat)(d v p:Str):List (Str×Tr):=[("rows",.at (j+1)),("roles",.at (j+2)),("stays",.at ks),("barred",.at kb),("asked",.at ka),("door",.str d),("voice",.str v),("past",.str p)]
abbrev o4:=Str×Int×Int×Option Int
noncomputable def EM:Option Int->Tr
 |none=>.bM
 |some n=>.int n
def vU(s:o4):Tr:=.tup [.str s.1,.int s.2.1,.int s.2.2.1,EM s.2.2.2]
structure bc(A:Ab)(j ks kb ka:Nat)(rows:List Tr)(aY:List (Str×Str))(stays:List o4)(aN asked:List Str)(d v p:Str):Prop where
 o:A[j]?=some (.bh (dP id (AU j ks kb ka d v p)))
 rw:A[j+1]?=some (.lst rows)
 rl:A[j+2]?=some (.bh (dP .str aY))
 st:A[ks]?=some (.lst (stays.map vU))
 br:A[kb]?=some (.lst (aN.map .str))
 as:A[ka]?=some (.lst (asked.map .str))
 nd:[j,j+1,j+2,ks,kb,ka].Nodup
def qP{A:Ab}{n:Nat}(h:A[aa]?=some (.bh (dP id l))):aF (n+1) A (.at aa)=.bh (dP (aF n A) l):=by
 rw[iy h];unfold dP;rw[cg];rfl
def AV{A:Ab}(h:A[aa]?=some (.bh (dP id l))):aF 1 A (.at aa)=.bh (dP id l):=by
 rw[iy h];unfold dP;rw[cg];rfl
def J0{stays:List o4}:(stays.map vU).map (aF n A)=stays.map vU:=wd λt L=>by obtain⟨s,_,rfl⟩:=bQ.mp L;exact⟨_,rfl⟩
def bc.Ro {n:Nat}(h:bc A j ks kb ka rows aY stays aN asked d v p)(f:ee rows):fU (aF (n+2) A (.at j)) (.str "rows")=.ok (.lst rows):=by
 rw[qP h.o,ej];show Rs.ok (aF (n+1) A (.at (j+1)))=_;rw[nY h.rw,wd f]
def bc.Ve {n:Nat}(h:bc A j ks kb ka rows aY stays aN asked d v p):fU (aF (n+2) A (.at j)) (.str "roles")=.ok (.bh (dP .str aY)):=by
 rw[qP h.o,ej];show Rs.ok (aF (n+1) A (.at (j+2)))=_;rw[iy h.rl,nZ (um λ_ _ _=>r8)]
def bc.Vf {n:Nat}(h:bc A j ks kb ka rows aY stays aN asked d v p):fU (aF (n+2) A (.at j)) (.str "stays")=.ok (.lst (stays.map vU)):=by
 rw[qP h.o,ej];show Rs.ok (aF (n+1) A (.at ks))=_;rw[nY h.st,J0]
def bc.Yw {n:Nat}(h:bc A j ks kb ka rows aY stays aN asked d v p):fU (aF (n+2) A (.at j)) (.str "asked")=.ok (.lst (asked.map .str)):=by
 rw[qP h.o,ej];show Rs.ok (aF (n+1) A (.at ka))=_;rw[nY h.as,wg]
def bc.a_p {n:Nat}(h:bc A j ks kb ka rows aY stays aN asked d v p):fU (aF (n+1) A (.at j)) (.str "past")=.ok (.str p):=by
 rw[qP h.o,ej];show Rs.ok (aF n A (.str p))=_;rw[r8]
def bc.Yx (h:bc A j ks kb ka rows aY stays aN asked d v p):fU (aF 1 A (.at j)) (.str "rows")=.ok (.at (j+1)):=by rw[AV h.o,ej];rfl
def bc.M3 (h:bc A j ks kb ka rows aY stays aN asked d v p):fU (aF 1 A (.at j)) (.str "roles")=.ok (.at (j+2)):=by rw[AV h.o,ej];rfl
def bc.Yy (h:bc A j ks kb ka rows aY stays aN asked d v p):fU (aF 1 A (.at j)) (.str "stays")=.ok (.at ks):=by rw[AV h.o,ej];rfl
def bc.ext {j ks kb ka:Nat}(h:bc A j ks kb ka rows aY stays aN asked d v p)(e:Ext A A' pins)(q:∀k∈[j,j+1,j+2,ks,kb,ka],pins.lookup k=none):bc A' j ks kb ka rows aY stays aN asked d v p:=
 ⟨e.same h.o (q _ *...*),e.same h.rw (q _ *...*),e.same h.rl (q _ *...*),e.same h.st (q _ *...*),e.same h.br (q _ *...*),e.same h.as (q _ *...*),h.nd⟩
def bc.ne (h:bc A j ks kb ka rows aY stays aN asked d v p):j≠ks/\j≠kb/\j≠ka/\j+1≠ks/\j+1≠kb/\j+1≠ka/\j+2≠ks/\j+2≠kb/\j+2≠ka/\ks≠kb/\ks≠ka/\kb≠ka:=by
 have:=h.nd;simp only[lG,aZ,dF,dH,not_or]at this;obtain⟨⟨_,_,a,b,c⟩,⟨_,d,e,f⟩,⟨g,i,k⟩,⟨l,m⟩,n,_⟩:=this;exact⟨a,b,c,d,e,f,g,i,k,l,m,n⟩
def bc.Vg {j:Nat}:j+2≠j+1/\j+2≠j:=⟨pB _,h_ (Nat.lt_add_of_pos_right (Nat.succ_pos 1))⟩
def bc.yW (h:bc A j ks kb ka rows aY stays aN asked d v p)(e:Ext A A' [(j+1,.lst b)]):bc A' j ks kb ka b aY stays aN asked d v p:=by
 obtain⟨_,_,_,b1,b2,b3,_⟩:=h.ne;exact⟨e.same h.o (gU (pB j).symm),e.new h.rw JX,e.same h.rl (gU bc.Vg.1),e.same h.st (gU b1.symm),e.same h.br (gU b2.symm),e.same h.as (gU b3.symm),h.nd⟩
def bc.M4 (h:bc A j ks kb ka rows aY stays aN asked d v p)(e:Ext A A' [(j+2,.bh (dP .str mD))]):bc A' j ks kb ka rows mD stays aN asked d v p:=by
 obtain⟨_,_,_,_,_,_,b1,b2,b3,_⟩:=h.ne;exact⟨e.same h.o (gU bc.Vg.2.symm),e.same h.rw (gU bc.Vg.1.symm),e.new h.rl JX,e.same h.st (gU b1.symm),e.same h.br (gU b2.symm),e.same h.as (gU b3.symm),h.nd⟩
def bc.Yz {n5:List o4}(h:bc A j ks kb ka rows aY stays aN asked d v p)(e:Ext A A' [(ks,.lst (n5.map vU))]):bc A' j ks kb ka rows aY n5 aN asked d v p:=by
 obtain⟨a,_,_,b,_,_,c,_,_,L,q,_⟩:=h.ne;exact⟨e.same h.o (gU a),e.same h.rw (gU b),e.same h.rl (gU c),e.new h.st JX,e.same h.br (gU L.symm),e.same h.as (gU q.symm),h.nd⟩
def gB{A:Ab}(h:A[aa]?=some o):aa<A.length:=(gE.mp h).1
def J4{l1 l2:List Nat}{y:Nat}(h:(l1++aa::l2).Nodup)(b:∀k∈l1++l2,k<y):(l1++y::l2).Nodup:=
 List.perm_middle.nodup_iff.mpr (lG.mpr ⟨λm=>eN _ (b _ m),(lG.mp (List.perm_middle.nodup_iff.mp h)).2⟩)
def bc.YA {x_:List Str}(h:bc A j ks kb ka rows aY stays aN asked d v p):bc ((A++[Ao.lst (x_.map .str)]).set j (.bh (dP id (AU j ks kb A.length d v p)))) j ks kb A.length rows aY stays aN x_ d v p:=by
 obtain⟨a,b,_⟩:=h.ne;have L:Ext A (A++[Ao.lst (x_.map .str)]) []:=Ext.push;have q:Ext (A++[Ao.lst (x_.map .str)]) _ _:=Ext.put (o:=.bh (dP id (AU j ks kb A.length d v p))) (L.same h.o rfl);refine⟨q.new (L.same h.o rfl) JX,q.same (L.same h.rw rfl) (gU (pB j)),q.same (L.same h.rl rfl) (gU bc.Vg.2),q.same (L.same h.st rfl) (gU a.symm),q.same (L.same h.br rfl) (gU b.symm),q.same lQ (gU (h_ (gB h.o))),J4 (l1:=[j,j+1,j+2,ks,kb]) (l2:=[]) h.nd λk m=>?_⟩;simp only[cE,aZ,dF,dH]at m;rcases m with rfl|rfl|rfl|rfl|rfl
 .exact gB h.o
 .exact gB h.rw
 .exact gB h.rl
 .exact gB h.st
 .exact gB h.br
def bc.YB {n5:List o4}(h:bc A j ks kb ka rows aY stays aN asked d v p):bc ((A++[Ao.lst (n5.map vU)]).set j (.bh (dP id (AU j A.length kb ka d v p)))) j A.length kb ka rows aY n5 aN asked d v p:=by
 obtain⟨_,b,c,_⟩:=h.ne;have L:Ext A (A++[Ao.lst (n5.map vU)]) []:=Ext.push;have q:Ext (A++[Ao.lst (n5.map vU)]) _ _:=Ext.put (o:=.bh (dP id (AU j A.length kb ka d v p))) (L.same h.o rfl);refine⟨q.new (L.same h.o rfl) JX,q.same (L.same h.rw rfl) (gU (pB j)),q.same (L.same h.rl rfl) (gU bc.Vg.2),q.same lQ (gU (h_ (gB h.o))),q.same (L.same h.br rfl) (gU b.symm),q.same (L.same h.as rfl) (gU c.symm),J4 (l1:=[j,j+1,j+2]) (l2:=[kb,ka]) h.nd λk m=>?_⟩;simp only[cE,aZ,dF,dH,or_assoc]at m;rcases m with rfl|rfl|rfl|rfl|rfl
 .exact gB h.o
 .exact gB h.rw
 .exact gB h.rl
 .exact gB h.br
 .exact gB h.as
def M5:HP (.str a) (.str b)=.ok (.bl (!(a==b))):=rfl
theorem ya:∀{stays:List o4},jy (stays.map vU)=true
 |[]=>rfl
 |s::stays=>by
  rw[a_,jy,ya,pF];obtain⟨a,b,c,e⟩:=s;cases e<;>rfl
theorem J5{C:bS->Rs Bool}{F:bS->Rs Tr}{Y:bS}{P:α->Bool}{g h:α->Tr}:∀{xs:List α} {c:Cell},(∀x∈xs,C (.sh (g x)::Y)=.ok (P x))->(∀x∈xs,P x=true->F (.sh (g x)::Y)=.ok (h x))->HR (gN 0) C F (xs.map g) (c::Y)=.ok ((xs.filter P).map h)
 |[],_,_,_=>rfl
 |x::xs,c,hC,hF=>by
  have b:=J5 (Y:=Y) (C:=C) (F:=F) (P:=P) (g:=g) (h:=h) (xs:=xs) (c:=.sh (g x)) (λy L=>hC y (bG _ L)) λy L=>hF y (bG _ L);show(N_ (C (.sh (g x)::Y))).bind (λk=>if k then(N_ (F (.sh (g x)::Y))).bind λy=>(HR (gN 0) C F (xs.map g) (.sh (g x)::Y)).bind λys=>.ok (y::ys)else HR (gN 0) C F (xs.map g) (.sh (g x)::Y))=_;rw[hC x (bF ..),b];show(if P x then _ else _)=_;cases e:P x with
  |true=>rw[jW e,hF x (bF ..) e];rfl
  |false=>rw[i_ (by rw[e];exact hX)];rfl
def dk{C:bS->Rs Bool}{F:bS->Rs Tr}{r:Rs (List Tr)}{sF:bS}{c:Cell}(P:α->Bool)(g h:α->Tr){xs:List α}(b:r=.ok (xs.map g))(I:xs.length<=dy)(q:t9 ix Y=c::sF)(hC:∀x∈xs,C (.sh (g x)::sF)=.ok (P x))(hF:∀x∈xs,P x=true->F (.sh (g x)::sF)=.ok (h x)):zh ix (gN 0) C F r Y=.ok (.lst ((xs.filter P).map h)):=by
 unfold zh;rw[b,q];show(if(xs.map g).length<=dy then _ else _)=_;rw[av (by rwa[aP]),J5 hC hF]
 rfl
def Hz:fB (dP id (AU j ks kb ka d v p)) (.inr "asked") (.at aa)=dP id (AU j ks kb aa d v p):=kP (f:=id) (a:=.at aa)
def HC:fB (dP id (AU j ks kb ka d v p)) (.inr "stays") (.at aa)=dP id (AU j aa kb ka d v p):=kP (f:=id) (a:=.at aa)
def bc.YC {x:Ao}(h:bc A j ks kb ka rows aY stays aN asked d v p):putD (A++[x]) (.at j) (.str "asked") (.at A.length) Y=.ok (.nx Y) ((A++[x]).set j (.bh (dP id (AU j ks kb A.length d v p)))):=by
 rw[mC (Ext.push.same h.o rfl) (by rw[jE];show 8<dy;decide),Hz]
def bc.YD {x:Ao}(h:bc A j ks kb ka rows aY stays aN asked d v p):putD (A++[x]) (.at j) (.str "stays") (.at A.length) Y=.ok (.nx Y) ((A++[x]).set j (.bh (dP id (AU j A.length kb ka d v p)))):=by
 rw[mC (Ext.push.same h.o rfl) (by rw[jE];show 8<dy;decide),HC]
open PyProof
def EN{ns:List Int}(h:0<ns.length):rH ns∈ns/\∀x∈ns,x<=rH ns:=by
 obtain⟨h1,h2⟩:=argBest_gt (λi=>ns.getD i 0) (ns.length - 1);have L:argBest (λi j=>decide (ns.getD i 0>ns.getD j 0)) (ns.length - 1)<ns.length:=∎
 constructor
 .unfold rH;rw[qA,cj L];exact kA _
 .intro x b;obtain⟨a,ha,e⟩:=wL b;have:=h2 a ∎;have q:ns.getD a 0=x:=by rw[qA,cj ha,e];rfl
  rwa[<-q]
theorem ints_map{f:α->Int}:∀{l:List α},rG (l.map λx=>.int (f x))=some (l.map f)
 |[]=>rfl
 |x::l=>by show(rG (l.map λx=>.int (f x))).map (λr=>f x::r)=_;rw[ints_map];rfl
def max_map{f:α->Int}{l:List α}(h:l≠[]):JA [.lst (l.map λx=>.int (f x))]=.ok (.int (rH (l.map f))):=by
 show(match rG (l.map λx=>Tr.int (f x))with|some ns=>if 0<ns.length then Rs.ok (Tr.int (rH ns))else .bad|none=>.bad)=_;rw[ints_map];exact av (by rw[aP];exact sO.mpr h)
def M6{ns:List Str}:zl (.str z) (.lst (ns.map .str))=.ok (.bl (ns.contains z)):=by
 show P4 (HU (.str z) (ns.map .str))=_;have:((ns.map Tr.str).all rb)=true:=by rw[List.all_map];exact fh.mpr λ_ _=>rfl
 unfold HU;rw[av ⟨rfl,this⟩,List.any_map];show Rs.ok (Tr.bl _)=_;congr 2;rw[List.contains_eq_any_beq];congr 1;funext y;show(y==z)=(z==y);exact mV
def Rp{f:α->Tr}{l:List (Str×α)}:nO (.bh (dP f l))=.ok (!l.isEmpty):=by cases l<;>rfl
def nS(l:List Str):List (Key×Tr):=dP .bl (l.map λz=>(z,true))
theorem Gb{z:Str}:∀{l:List Str},(l.map λz=>(z,true)).lookup z=if l.contains z=true then some true else none
 |[]=>rfl
 |y::l=>by
  rw[a_,bT,wR];cases e:(z==y)with
  |true=>rfl
  |false=>rw[Gb,j_]
def EO:du (nS l) (.inr z)=if l.contains z=true then some (.bl true)else none:=by
 unfold nS;rw[dS,Gb];cases l.contains z<;>rfl
def M7:iu (nS l) (.inr z)=nS (l.filter λy=>!(y==z)):=by
 unfold nS;rw[we];congr 1;unfold gj;rw[pC];congr 1;apply nJ;intro y _;show decide (y≠z)=!(y==z);by_cases h:y=z
 .subst h;simp
 .simp[h]
def Gd:iM (nS l):=um λ_ _ _=>JW
structure eB(A:Ab)(bB:List Str)(c8:List (Str×Nat)):Prop where
 o:A[4]?=some (.bh (dP id [("people",.at 5),("rooms",.at 6)]))
 pe:A[5]?=some (.lst (bB.map .str))
 rs:A[6]?=some (.bh (dP .at c8))
def eB.YE {n:Nat}(h:eB A bB c8):fU (aF (n+2) A (.at 4)) (.str "rooms")=.ok (.bh (dP (λj=>aF n A (.at j)) c8)):=by
 rw[qP h.o,ej];show Rs.ok (aF (n+1) A (.at 6))=_;rw[iy h.rs];unfold dP;rw[cg];rfl
def eB.M8 (h:eB A bB c8):fU (aF 1 A (.at 4)) (.str "rooms")=.ok (.at 6):=by rw[AV h.o,ej];rfl
def bc.e_o (h:bc A j ks kb ka rows aY stays aN asked d v p)(e:Ext A A' [(j,.bh (dP id (AU j ks kb ka d' b p')))]):bc A' j ks kb ka rows aY stays aN asked d' b p':=by
 have n:=h.ne;exact⟨e.new h.o JX,e.same h.rw (gU ∎),e.same h.rl (gU ∎),e.same h.st (gU ∎),e.same h.br (gU ∎),e.same h.as (gU ∎),h.nd⟩
def bc.p_o {l:List (Str×Tr)}(h:bc A j ks kb ka rows aY stays aN asked d v p)(e:dR (AU j ks kb ka d v p) fm t=l):putD A (.at j) (.str fm) t Y=.ok (.nx Y) (A.set j (.bh (dP id l))):=by
 rw[mC h.o (by rw[jE];show 8<dy;decide),<-e];exact cF (λz=>Rz.ok (Out.nx Y) (A.set j (.bh z))) (kP (f:=id) (a:=t))
set_option maxHeartbeats 4000000 in
def aW.Rq {n:Nat}{bn iv:List (Key×Tr)}(h:aW A i rows rk en ch bn iv)(f:ee rows):lP ["Room"] "log" (aF (n+2) A (.at i))=.ok (.lst rows):=by
 rw[jB h.o];show Rs.ok (aF (n+1) A (.at (i+1)))=_;rw[nY h.lg,wd f]
def aW.d9 {bn iv:List (Key×Tr)}(h:aW A i rows rk en ch bn iv)(hm:DK ((roomF i).map λp=>(p.1,aF n A p.2)) m=true)(F:List Tr->Rs Tr)(l:Rs (List Tr)):vw "Room" m F (.ok (aF (n+1) A (.at i))) l=l.bind λts=>F (aF (n+1) A (.at i)::ts):=by
 rw[jB h.o];exact av ⟨rfl,hm⟩
def bN.d9 (h:bN A aB b8)(hm:DK (([("persons",.at 1),("places",.at 2),("hands",.at 3)]:List (Str×Tr)).map λp=>(p.1,aF n A p.2)) m=true)(F:List Tr->Rs Tr)(l:Rs (List Tr)):vw "Hall" m F (.ok (aF (n+1) A (.at 0))) l=l.bind λts=>F (aF (n+1) A (.at 0)::ts):=by
 rw[jB h.o];exact av ⟨rfl,hm⟩
theorem CT{f:α->Tr}:∀{l:List (Str×α)},(∀p∈l,p.1.length<=1000)->vv (dP f l)=some (l.map (·.1))
 |[],_=>rfl
 |p::l,h=>by
  show(if p.1.length<=cH then(vv (dP f l)).map (λr=>p.1::r)else none)=_;rw[av (aV (h p (bF ..)) ∅),CT λq L=>h q (bG _ L)]
  rfl
def M9{f:α->Tr}{l:List (Str×α)}(h:∀p∈l,p.1.length<=1000)(b:l.length<64):AB [.bh (dP f l)]=.ok (.lst ((eJ (l.map (·.1))).map .str)):=by
 show Cz (vv (dP f l))=_;rw[CT h];exact av (by rwa[aP])
theorem SF:(∀T G Y,vP T G [] Y=.ok (.nx Y))/\(∀T G t ts Y,vP T G (t::ts) Y=(T t Y).bind λq=>(G q).bind λo=>match o with
  |.nx b=>vP T G ts b
  |.ct b=>vP T G ts b
  |.bk b=>.ok (.nx b)
  |.ret t=>.ok (.ret t))/\(∀T G ts Y,N9 T G (.ok ts) Y=vP T G ts Y)/\(∀ts,As [.lst ts]=.ok (.tup ts)):=by
 refine⟨?_,?_,?_,?_⟩<;>intros<;>rfl
structure SG where
 bl:List Str
 own:List Str
 UJ:List Str
 fl:List (Str×List Str)
 kd:List Df
 er:List Str
 xs:List (Str⊕String)
 cs:List Str
 rs:List Str
namespace SG
def val(K:Frag):Str⊕String->Value
 |.inl c=>.ref (clsAt K c)
 |.inr c=>.type c
noncomputable def tab(b:List Str):Str⊕String->List (Str×Bool)
 |.inl c=>b.map λx=>(x,x==c)
 |.inr _=>b.map λx=>(x,true)
def OC(K:Frag)(o:SG):Bool:=o.bl.all (λx=>decide (nsIn K mainGlobals x=some none))&&(o.own.all (λc=>decide (nsIn K mainGlobals c=some (some (.ref (clsAt K c)))))&&(o.UJ.all (λc=>makesIn K (clsAt K c)&&(keepIn K (.ref (clsAt K c))&&decide (nsIn K mainGlobals c=some (some (.ref (clsAt K c))))))&&
 (o.fl.all (λp=>MU K (clsAt K p.1)&&Yg K (clsAt K p.1) p.2)&&(o.kd.all (λd=>decide (specialIn K (.ref (d.adr K)) "__get__"=some (some (.builtin "function.__get__")))&&decide (takesIn K (.ref (d.adr K))=some false))&&
 (U9 K o.er&&(o.xs.all (λc=>U8 K (val K c) (tab o.er c))&&(o.cs.all (λc=>U_ K c o.er)&&o.rs.all (λc=>excIn K (clsAt K c) Zq "ValueError.__new__"))))))))
structure Ok(o:SG)(K:Frag)(mg:Str->Option Value):Prop where
 bl:∀{x},o.bl.contains x=true->mg x=none
 Ge:∀{c},o.own.contains c=true->mg c=some (.ref (clsAt K c))
 ZY:∀{c},o.UJ.contains c=true->Hv K mg c
 fl:∀{c f fs},o.fl.lookup c=some fs->fs.contains f=true->kM K [c] f
 bn:∀(i:Nat) {d:Df},o.kd[i]?=some d->CN K (d.adr K)
 xc:∀(i:Nat) {c},o.xs[i]?=some c->jQ K (val K c) (tab o.er c)
 ca:∀{c},o.cs.contains c=true->o.own.contains c=true->qM K mg c o.er
 er:∀{c},o.rs.contains c=true->o.own.contains c=true->rE K mg c
def ok{o:SG}{K:Frag}(X:K.In h)(G:h.Ns mainGlobals mg)(k:o.OC K=true):o.Ok K mg:=by
 unfold OC at k;simp only[bg,fh,hZ]at k;obtain⟨k1,k2,k3,L,k5,b,r,I,M⟩:=k;have Ge:∀{c},o.own.contains c=true->mg c=some (.ref (clsAt K c)):=λm=>mg_of X G (k2 _ (dz.mp m));refine⟨λm=>mg_none_of X G (k1 _ (dz.mp m)),Ge,λm=>?_,λ{c f fs} l m=>?_,λi d e=>?_,λi c e=>?_,λm n=>JN (Ge n) (I _ (dz.mp m)),λm n=>⟨Ge n,M _ (dz.mp m)⟩⟩
 .have q:=k3 _ (dz.mp m);exact⟨q.1,q.2.1,mg_of X G q.2.2⟩
 .have q:=L _ (iV l);refine⟨λx S=>?_⟩;cases cn.mp S;exact⟨JO q.1,(fg (fh.mp q.2 f (dz.mp m)):findIn K (.ref (clsAt K c)) f=some none)⟩
 .have q:=k5 _ (eK e);exact⟨q.1,q.2⟩
 .refine Q9 (r _ (eK e)) b ?_
  cases c<;>simp[tab,Function.comp_def]
end SG
end L2
namespace YF
open PySem.W (Frag)
open PySem L2
variable {aw d4:Str}{aq:List (Str×Str)}{rows:List Tr}{α:Type}{K:bS->Ab->Rz Out}
noncomputable def top(i:Nat):Stmt:=PySem.Challenge.pw_talkhall_k20_whole_all_see_alike.main.body.getD i (.Pass ⟨0,0,0,0⟩)
def M_:Stmt->List Stmt
 |.ClassDef _ _ _ b _ _ _ _ _ _ _=>b
 |_=>[]
def e_(i j:Nat):Stmt:=(M_ (top i)).getD j (.Pass ⟨0,0,0,0⟩)
def AW:Df:=⟨none,"level","level",top 25,["role"]⟩
def iz:Df:=⟨some "Room","claim","Room.claim",e_ 26 4,["self","who"]⟩
def iW:Df:=⟨some "Room","write_row","Room.write_row",e_ 26 1,["self","who","word","parts"]⟩
def mE:Df:=⟨some "Room","let_in","Room.let_in",e_ 26 2,["self","who","word","role"]⟩
def iX:Df:=⟨some "Room","give_role","Room.give_role",e_ 26 3,["self","who","whom","role"]⟩
def kQ:Df:=⟨some "Room","need_in","Room.need_in",e_ 26 6,["self","who"]⟩
def dU:Df:=⟨some "Hall","need_people","Hall.need_people",e_ 28 1,["self","names"]⟩
def iC:Df:=⟨some "Hall","place","Hall.place",e_ 28 2,["self","room"]⟩
def fb:Df:=⟨some "Hall","place_for","Hall.place_for",e_ 28 3,["self","names","room"]⟩
def p9:Df:=⟨some "Hall","come","Hall.come",e_ 28 5,["self","who"]⟩
def gK:Df:=⟨some "Room","__init__","Room.__init__",e_ 26 0,["self","who"]⟩
def jF:Df:=⟨some "Hall","__init__","Hall.__init__",e_ 28 0,["self"]⟩
def n6:Df:=⟨some "Hall","found","Hall.found",e_ 28 8,["self","who","room"]⟩
def eQ:Df:=⟨some "Room","see_to_owner","Room.see_to_owner",e_ 26 5,["self"]⟩
def gV:Df:=⟨some "Room","need_keeper","Room.need_keeper",e_ 26 7,["self","who"]⟩
def iD:Df:=⟨some "Room","need_above","Room.need_above",e_ 26 8,["self","who","whom"]⟩
def jG:Df:=⟨some "Room","may_give","Room.may_give",e_ 26 9,["self","who","whom","role"]⟩
def r9:Df:=⟨none,"comes_in","comes_in",top 18,["row","who"]⟩
def r_:Df:=⟨none,"goes_out","goes_out",top 19,["row","who"]⟩
def p_:Df:=⟨none,"sets_past","sets_past",top 20,["row"]⟩
def u3:Df:=⟨none,"seen_by","seen_by",top 21,["rows","who"]⟩
def jH:Df:=⟨some "Room","sees_say","Room.sees_say",e_ 26 10,["self","who","number"]⟩
def dZ:Df:=⟨some "Room","was_taken_back","Room.was_taken_back",e_ 26 11,["self","number"]⟩
def jI:Df:=⟨some "Room","has_said","Room.has_said",e_ 26 13,["self","who","number"]⟩
def jJ:Df:=⟨some "Room","need_say","Room.need_say",e_ 26 12,["self","who","number"]⟩
def n8:Df:=⟨some "Room","enter","Room.enter",e_ 26 14,["self","who"]⟩
def n_:Df:=⟨some "Room","leave","Room.leave",e_ 26 15,["self","who"]⟩
def kR:Df:=⟨some "Room","arrange","Room.arrange",e_ 26 16,["self","who","what","value"]⟩
def qa:Df:=⟨some "Room","role","Room.role",e_ 26 18,["self","who","whom","role"]⟩
def sf:Df:=⟨some "Room","out","Room.out",e_ 26 19,["self","who","whom"]⟩
def sj:Df:=⟨some "Room","say","Room.say",e_ 26 22,["self","who","words","answer"]⟩
def qd:Df:=⟨some "Room","mend","Room.mend",e_ 26 24,["self","who","number","words"]⟩
def iY:Df:=⟨some "Room","take_back","Room.take_back",e_ 26 25,["self","who","number"]⟩
def og:Df:=⟨some "Hall","enter","Hall.enter",e_ 28 9,["self","who","room"]⟩
def oh:Df:=⟨some "Hall","leave","Hall.leave",e_ 28 10,["self","who","room"]⟩
def kS:Df:=⟨some "Hall","arrange","Hall.arrange",e_ 28 11,["self","who","room","what","value"]⟩
def qe:Df:=⟨some "Hall","role","Hall.role",e_ 28 13,["self","who","room","whom","role"]⟩
def sk:Df:=⟨some "Hall","out","Hall.out",e_ 28 14,["self","who","room","whom"]⟩
def sr:Df:=⟨some "Hall","say","Hall.say",e_ 28 17,["self","who","room","words","answer"]⟩
def qf:Df:=⟨some "Hall","mend","Hall.mend",e_ 28 18,["self","who","room","number","words"]⟩
def iZ:Df:=⟨some "Hall","take_back","Hall.take_back",e_ 28 19,["self","who","room","number"]⟩
def qg:Df:=⟨some "Hall","sees","Hall.sees",e_ 28 26,["self","room","who"]⟩
def kT:Df:=⟨none,"latest_words","latest_words",top 22,["rows"]⟩
def i5:Df:=⟨none,"view_of","view_of",top 23,["rows","who"]⟩
def qi:Df:=⟨some "Hall","view","Hall.view",e_ 28 27,["self","room","who"]⟩
def mF:Df:=⟨some "Hall","people","Hall.people",e_ 28 6,["self"]⟩
def qj:Df:=⟨some "Room","rows","Room.rows",e_ 26 30,["self"]⟩
def qm:Df:=⟨some "Hall","rows","Hall.rows",e_ 28 25,["self","room"]⟩
def yb:Df:=⟨none,"_law_rank","_law_rank",top 38,["_law_room","_law_who"]⟩
def yc:Df:=⟨none,"_law_word","_law_word",top 34,["_law_kept"]⟩
def u4:Df:=⟨none,"_law_begin","_law_begin",top 37,["_law_people"]⟩
def AX:Df:=⟨none,"_law_row","_law_row",top 40,["_law_room","_law_who","_law_parts"]⟩
def qQ:Df:=⟨none,"_law_enter","_law_enter",top 41,["_law_room","_law_who","_law_word_here"]⟩
def ur:Df:=⟨none,"_law_quit","_law_quit",top 42,["_law_room","_law_who","_law_number"]⟩
def AY:Df:=⟨none,"_law_mix","_law_mix",top 31,["_law_cell_here","_law_prime","_law_many"]⟩
def yd:Df:=⟨none,"_law_cell","_law_cell",top 30,["_law_script","_law_k"]⟩
def ko:Df:=⟨none,"_law_owned","_law_owned",top 43,["_law_room"]⟩
def lS:Df:=⟨none,"_law_changed","_law_changed",top 45,["_law_room","_law_deed_here"]⟩
def ye:Df:=⟨none,"_law_done","_law_done",top 44,["_law_model","_law_deed_here"]⟩
def yf:Df:=⟨none,"_law_last","_law_last",top 49,["_law_rows","_law_number"]⟩
def cu:Df:=⟨none,"_law_are_alike","_law_are_alike",top 48,["_law_hall_here","_law_room","_law_one","_law_other"]⟩
def qR:Df:=⟨none,"_law_words","_law_words",top 33,["_law_cell_here"]⟩
def uu:Df:=⟨none,"_law_deed","_law_deed",top 46,["_law_cell_here","_law_model","_law_words_here"]⟩
def yg:Df:=⟨none,"_law_call","_law_call",top 35,["_law_hall_here","_law_deed_here"]⟩
def yh:Df:=⟨none,"_law_told","_law_told",top 36,["_law_hall_here","_law_deed_here"]⟩
def yi:Df:=⟨none,"_law_hall","_law_hall",top 47,["_law_hall_here","_law_model"]⟩
def zL:Df:=⟨none,"law","law",top 50,["_law_script"]⟩
def DS:List Df:=[AW,iz,iW,mE,iX,kQ,dU,iC,fb,p9,gK,jF,n6,eQ,gV,iD,jG,r9,r_,p_,u3,jH,dZ,jI,jJ,n8,n_,kR,qa,sf,sj,qd,iY,og,oh,kS,qe,sk,sr,qf,iZ,qg,kT,i5,qi,mF,qj,qm,yb,yc,u4,AX,qQ,ur,AY,yd,ko,lS,ye,yf,cu,qR,uu,yg,yh,yi,zL]
structure SH(K:Frag)(w:World)(mg:Str->Option Value):Prop where
 d:∀(i:Nat) {e:Df},DS[i]?=some e->e.Ok K mg
 ValueError:mg "ValueError"=none
 all:mg "all"=none
 any:mg "any"=none
 dict:mg "dict"=none
 int:mg "int"=none
 isinstance:mg "isinstance"=none
 len:mg "len"=none
 list:mg "list"=none
 max:mg "max"=none
 min:mg "min"=none
 range:mg "range"=none
 sorted:mg "sorted"=none
 str:mg "str"=none
 tuple:mg "tuple"=none
 AZ:CN K (iz.adr K)
 Rr:Hv K mg "Hall"
 Rt:Hv K mg "Room"
 M':Ou K mg "ROLES" [.str "guest",.str "speaker",.str "keeper",.str "owner"]
 CU:kM K ["Room"] "banned"
 uv:kM K ["Room"] "chosen"
 u5:kM K ["Room"] "entries"
 Na:kM K ["Hall"] "hands"
 u6:kM K ["Room"] "invited"
 rJ:kM K ["Room"] "log"
 kr:kM K ["Hall"] "persons"
 kU:kM K ["Hall"] "places"
 dm:kM K ["Room"] "ranks"
 A5:kM K ["Room"] "read_marks"
 yX:kM K ["Room"] "said_by_key"
 J7:El K w mg "SETTINGS" [("door",.tup [.str "open",.str "asked"]),("voice",.tup [.str "all",.str "some"]),("past",.tup [.str "shown",.str "hidden"])]
 ER:EC K w mg "SETTINGS" ["door","voice","past"]
 J8:jQ K (.ref (clsAt K "Barred")) [("Known",false),("NoPerson",false),("NoRoom",false),("NotIn",false),("NotAsked",false),("Barred",true),("NoRight",false),("NoRow",false),("NoHand",false),("NoLine",false)]
 Nb:jQ K (.ref (clsAt K "Known")) [("Known",true),("NoPerson",false),("NoRoom",false),("NotIn",false),("NotAsked",false),("Barred",false),("NoRight",false),("NoRow",false),("NoHand",false),("NoLine",false)]
 J9:jQ K (.ref (clsAt K "NoHand")) [("Known",false),("NoPerson",false),("NoRoom",false),("NotIn",false),("NotAsked",false),("Barred",false),("NoRight",false),("NoRow",false),("NoHand",true),("NoLine",false)]
 J_:jQ K (.ref (clsAt K "NoLine")) [("Known",false),("NoPerson",false),("NoRoom",false),("NotIn",false),("NotAsked",false),("Barred",false),("NoRight",false),("NoRow",false),("NoHand",false),("NoLine",true)]
 ES:jQ K (.ref (clsAt K "NoPerson")) [("Known",false),("NoPerson",true),("NoRoom",false),("NotIn",false),("NotAsked",false),("Barred",false),("NoRight",false),("NoRow",false),("NoHand",false),("NoLine",false)]
 HD:jQ K (.ref (clsAt K "NoRight")) [("Known",false),("NoPerson",false),("NoRoom",false),("NotIn",false),("NotAsked",false),("Barred",false),("NoRight",true),("NoRow",false),("NoHand",false),("NoLine",false)]
 J':jQ K (.ref (clsAt K "NoRoom")) [("Known",false),("NoPerson",false),("NoRoom",true),("NotIn",false),("NotAsked",false),("Barred",false),("NoRight",false),("NoRow",false),("NoHand",false),("NoLine",false)]
 Nc:jQ K (.ref (clsAt K "NoRow")) [("Known",false),("NoPerson",false),("NoRoom",false),("NotIn",false),("NotAsked",false),("Barred",false),("NoRight",false),("NoRow",true),("NoHand",false),("NoLine",false)]
 ET:jQ K (.ref (clsAt K "NotAsked")) [("Known",false),("NoPerson",false),("NoRoom",false),("NotIn",false),("NotAsked",true),("Barred",false),("NoRight",false),("NoRow",false),("NoHand",false),("NoLine",false)]
 Nd:jQ K (.ref (clsAt K "NotIn")) [("Known",false),("NoPerson",false),("NoRoom",false),("NotIn",true),("NotAsked",false),("Barred",false),("NoRight",false),("NoRow",false),("NoHand",false),("NoLine",false)]
 A6:jQ K (.type "ValueError") [("Known",true),("NoPerson",true),("NoRoom",true),("NotIn",true),("NotAsked",true),("Barred",true),("NoRight",true),("NoRow",true),("NoHand",true),("NoLine",true)]
 HE:mg "Barred"=some (.ref (clsAt K "Barred"))
 Ka:mg "Known"=some (.ref (clsAt K "Known"))
 HF:mg "NoHand"=some (.ref (clsAt K "NoHand"))
 HG:mg "NoLine"=some (.ref (clsAt K "NoLine"))
 CV:mg "NoPerson"=some (.ref (clsAt K "NoPerson"))
 EU:mg "NoRight"=some (.ref (clsAt K "NoRight"))
 HH:mg "NoRoom"=some (.ref (clsAt K "NoRoom"))
 Kb:mg "NoRow"=some (.ref (clsAt K "NoRow"))
 CW:mg "NotAsked"=some (.ref (clsAt K "NotAsked"))
 Kc:mg "NotIn"=some (.ref (clsAt K "NotIn"))
 CY:qM K mg "TalkError" ["Known","NoPerson","NoRoom","NotIn","NotAsked","Barred","NoRight","NoRow","NoHand","NoLine"]
 Ke:rE K mg "Barred"
 wk:rE K mg "Known"
 EV:rE K mg "NoPerson"
 nu:rE K mg "NoRight"
 Kf:rE K mg "NoRoom"
 Gf:rE K mg "NoRow"
 EW:rE K mg "NotAsked"
 Nf:rE K mg "NotIn"
abbrev CS(n:Nat)(d:Df)(a b:Nat):={F:bS->Ab->Rz Out//∀{P:Program} {w:World} {K:Frag} {mg:Str->Option Value} {base:Heap},SH K w mg->DL P w K mg base (zv P w) n d (Bt K (dN a b F))}
abbrev CP(n:Nat)(d:Df)(a b:Nat):={F:bS->Rs Out//∀{P:Program} {w:World} {K:Frag} {mg:Str->Option Value} {base:Heap},SH K w mg->DL P w K mg base rj n d (spT K (rD a b F))}
abbrev CZ(n:Nat)(d:Df)(a b:Nat):={F:bS->Ab->Rz Out//∀{P:Program} {w:World} {K:Frag} {mg:Str->Option Value} {base:Heap},SH K w mg->DL P w K mg base rj n d (spT K (vQ a b F))}
abbrev KS(n:Nat)(d:Df)(m:List Tr->Ab->Rz Tr):Prop:=∀{P:Program} {w:World} {K:Frag} {mg:Str->Option Value} {base:Heap},SH K w mg->DL P w K mg base (zv P w) n d (Bt K m)
abbrev KP(n:Nat)(d:Df)(m:List Tr->Rs Tr):Prop:=∀{P:Program} {w:World} {K:Frag} {mg:Str->Option Value} {base:Heap},SH K w mg->DL P w K mg base rj n d (spT K m)
noncomputable def Gg:CP 1 AW 1 1:=⟨_,λT=>js ["role"] (T.d 0 rfl) λ_ _ _ _ _ _ _ L=>(cc (cR (Uy (ay L) T.M' (aj 0))))⟩
def wm:=rD 1 1 Gg.1
def lT:KP 1 AW wm:=Gg.2
noncomputable def kg:CP 2 iz 2 2:=⟨_,λT=>js ["self","who"] (T.d 1 rfl) λ_ _ _ _ _ _ _ L=>(cc (cR (bE (ak (Of (cS (lT T) L (ak (aQ (ay L) (cf T.dm (aj 0)) (aj 1)) aC))) (ak (aQ (ay L) (cf T.u5 (aj 0)) (aj 1)) aC)))))⟩
def iE:=rD 2 2 kg.1
def A7:KP 2 iz iE:=kg.2
noncomputable def f9:CS 1 iW 4 5:=⟨_,λT=>eZ ["self","who","word","parts","number"] (T.d 2 rfl) λL _ _ _ _ _ _ b=>(aE (eY (i:=4) (az (cV fH (eC jz T.len (ak (cf T.rJ (aj 0)) aC)) aD)) L) (aE (bf (xY lx nB g0 r6 (dC (kN T.rJ (au (aj 0)))) (ar (az (cV fH (bE (ak (aj 4) (ak (aj 1) (ak (aj 2) aC)))) (aj 3))) aJ))) (aO (d_ (au (aj 4))))))⟩
def nv:=dN 4 5 f9.1
def cK:KS 1 iW nv:=f9.2
noncomputable def ji:CS 2 mE 4 4:=⟨_,λT=>eZ ["self","who","word","role"] (T.d 3 rfl) λ_ _ _ _ _ _ _ L=>(aE (fD (ay L) (dC (kN T.u5 (au (aj 0)))) (au (aj 1)) (bu (cK T) L `e (ar (au (aj 1)) (ar (au (aj 2)) (ar (az (bE aC)) aJ))))) (aE (fD (ay L) (dC (kN T.dm (au (aj 0)))) (au (aj 1)) (au (aj 3))) (aO (bf (QQ (dC (kN T.u6 (au (aj 0)))) (au (aj 1)) (az jL))))))⟩
def rK:=dN 4 4 ji.1
def rL:KS 2 mE rK:=ji.2
noncomputable def f_:CS 2 iX 4 4:=⟨_,λT=>eZ ["self","who","whom","role"] (T.d 4 rfl) λ_ _ _ _ _ _ _ L=>(aE (bf (bu (cK T) L `e (ar (au (aj 1)) (ar (az ax) (ar (az (bE (ak (aj 2) (ak (aj 3) aC)))) aJ))))) (aO (fD (ay L) (dC (kN T.dm (au (aj 0)))) (au (aj 2)) (au (aj 3)))))⟩
def ny:=dN 4 4 f_.1
def nz:KS 2 iX ny:=f_.2
noncomputable def iF:CS 1 kQ 2 2:=⟨_,λT=>eZ ["self","who"] (T.d 5 rfl) λ_ _ _ _ _ _ _ L=>(aO (dv (ba (aX (zm (ay L)) (aj 1) (cf T.dm (aj 0)))) (aO (eP T.Nf (ar (az (gs (bV (dQ (aj 1)) (bV ax jP)))) aJ))) bZ))⟩
def kW:=dN 2 2 iF.1
def cT:KS 1 kQ kW:=iF.2
noncomputable def dg:CS 1 dU 2 3:=⟨_,λT=>eZ ["self","names","name"] (T.d 6 rfl) λL _ _ _ _ _ _ b=>(aO (xX (eD (aj 1)) (ck 2 L) (cz 2) (aO (dv (ba (aX (zm (ay b)) (aj 2) (cf T.kr (aj 0)))) (aO (eP T.EV (ar (az (gs (bV ax (bV (dQ (aj 2)) jP)))) aJ))) bZ))))⟩
def gW:=dN 2 3 dg.1
def kX:KS 1 dU gW:=dg.2
noncomputable def kh:CS 1 iC 2 2:=⟨_,λT=>eZ ["self","room"] (T.d 7 rfl) λ_ _ _ _ _ _ _ L=>(aE (dv (ba (aX (zm (ay L)) (aj 1) (cf T.kU (aj 0)))) (aO (eP T.Kf (ar (az (gs (bV ax (bV (dQ (aj 1)) jP)))) aJ))) bZ) (aO (d_ (uj (ay L) (dC (kN T.kU (au (aj 0)))) (au (aj 1))))))⟩
def uw:=dN 2 2 kh.1
def A8:KS 1 iC uw:=kh.2
noncomputable def dO:CS 2 fb 3 3:=⟨_,λT=>eZ ["self","names","room"] (T.d 8 rfl) λ_ _ _ _ _ _ _ L=>(aE (bf (bu (kX T) L `e (ar (au (aj 1)) aJ))) (aO (d_ (bu (A8 T) L `e (ar (au (aj 2)) aJ)))))⟩
def i6:=dN 3 3 dO.1
def cL:KS 2 fb i6:=dO.2
noncomputable def vA:CS 1 p9 2 2:=⟨_,λT=>eZ ["self","who"] (T.d 9 rfl) λ_ _ _ _ _ _ _ L=>(aE (dv (ba (aX (nQ (ay L)) (aj 1) (cf T.kr (aj 0)))) (aO (eP T.wk (ar (az (gs (bV (dQ (aj 1)) (bV ax jP)))) aJ))) bZ) (aO (fD (ay L) (dC (kN T.kr (au (aj 0)))) (au (aj 1)) (az uN))))⟩
def C0:=dN 2 2 vA.1
def vB:KS 1 p9 C0:=vA.2
def oG:CS 3 gK 2 2:=⟨_,λT=>eZ ["self","who"] (T.d 10 rfl) λ_ _ _ _ _ _ _ L=>(aE (p5 T.rJ (au (aj 0)) (fu (x6 aC))) (aE (p5 T.dm (au (aj 0)) (fu kK)) (aE (p5 T.u5 (au (aj 0)) (fu kK)) (aE (p5 T.uv (au (aj 0)) (fu (ug (AI rfl) T.dict (ak (uP (N':=["what"]) (ix:=[none]) (fy.of (N:=["self","who"]) (sc:=aL gK.st) rfl rfl ∅) (Q1 T.ER) ⟨λs H ex=>⟨(ck 0 (by show List.Nodup (["what"]:List Str);decide)),lO,(bE (ak (aj 0) (ak (aQ (ay L) (Uj T.J7 (aj 0)) aD) aC)))⟩⟩ (cz 0)) aC)))) (aE (p5 T.CU (au (aj 0)) (fu kK)) (aE (p5 T.u6 (au (aj 0)) (fu kK)) (aE (p5 T.A5 (au (aj 0)) (fu kK)) (aE (p5 T.yX (au (aj 0)) (fu kK)) (aO (bf (bu (rL T) L `e (ar (au (aj 1)) (ar (az ax) (ar (az ax) aJ))))))))))))))⟩
def vV:=dN 2 2 oG.1
def vW:KS 3 gK vV:=oG.2
noncomputable def oH:CS 1 jF 1 1:=⟨_,λT=>eZ ["self"] (T.d 11 rfl) λ_ _ _ _ _ _ _ L=>(aE (p5 T.kr (au (aj 0)) (fu kK)) (aE (p5 T.kU (au (aj 0)) (fu kK)) (aO (p5 T.Na (au (aj 0)) (fu (x6 aC))))))⟩
def oJ:=dN 1 1 oH.1
def vX:KS 1 jF oJ:=oH.2
noncomputable def ux:CS 5 n6 3 3:=⟨_,λT=>eZ ["self","who","room"] (T.d 12 rfl) λ_ _ _ _ _ _ _ L=>(aE (bf (bu (kX T) L `e (ar (az (bE (ak (aj 1) aC))) aJ))) (aE (dv (ba (aX (nQ (ay L)) (aj 2) (cf T.kU (aj 0)))) (aO (eP T.wk (ar (az (gs (bV ax (bV (dQ (aj 2)) (bV ax jP))))) aJ))) bZ) (aO (fD (ay L) (dC (kN T.kU (au (aj 0)))) (au (aj 2)) (Rb (vW T) T.Rt L (ar (au (aj 1)) aJ))))))⟩
def A9:=dN 3 3 ux.1
def A_:KS 5 n6 A9:=ux.2
def eR:CS 4 eQ 1 3:=⟨_,λT=>eZ ["self","owners","heir"] (T.d 13 rfl) λb _ _ _ _ _ _ L=>(aE (Jw (i:=1) (N':=["name","self"]) (ix:=[none,some 0]) (fy.of (N:=["self","owners","heir"]) (sc:=aL eQ.st) rfl rfl ∅) (Jk (cf T.dm (aj 0))) ⟨λs H ex=>⟨(ck 0 (by show List.Nodup (["name","self"]:List Str);decide)),(pS (aX (cG (cq L)) (aQ (ay L) (cf T.dm (aj 1)) (aj 0)) ax)),(aj 0)⟩⟩ (cz 0) b) (aO (dv (ba (fN (lM (aX T8 (eC jz T.len (ak (cf T.dm (aj 0)) aC)) aD) (ij (aX (cG (cq L)) (eC jz T.len (ak (aj 1) aC)) aD))))) (aE (eY (i:=2) (az (JS (A7 T) T.AZ L T.min (m_ (MC rfl) T.list (ak (cf T.dm (aj 0)) aC)) (aj 0))) b) (aO (bf (bu (nz T) L `e (ar (au (aj 2)) (ar (au (aj 2)) (ar (az ax) aJ))))))) bZ)))⟩
def jR:=dN 1 3 eR.1
def gv:KS 4 eQ jR:=eR.2
noncomputable def fo:CS 2 gV 2 2:=⟨_,λT=>eZ ["self","who"] (T.d 14 rfl) λ_ _ _ _ _ _ _ L=>(aO (dv (ba (aX T7 (cS (lT T) L (ak (aQ (ay L) (cf T.dm (aj 0)) (aj 1)) aC)) (cS (lT T) L (ak ax aC)))) (aO (eP T.nu (ar (az (gs (bV (dQ (aj 1)) (bV ax jP)))) aJ))) bZ))⟩
def kY:=dN 2 2 fo.1
def gX:KS 2 gV kY:=fo.2
noncomputable def fI:CS 3 iD 3 3:=⟨_,λT=>eZ ["self","who","whom"] (T.d 15 rfl) λ_ _ _ _ _ _ _ L=>(aE (bf (bu (gX T) L `e (ar (au (aj 1)) aJ))) (aO (dv (ba (fN (lM (aX (nQ (ay L)) (aj 2) (cf T.dm (aj 0))) (ij (aX Xw (cS (lT T) L (ak (aQ (ay L) (cf T.dm (aj 0)) (aj 2)) aC)) (cS (lT T) L (ak (aQ (ay L) (cf T.dm (aj 0)) (aj 1)) aC))))))) (aO (eP T.nu (ar (az (gs (bV (dQ (aj 2)) (bV ax (bV (dQ (aj 1)) jP))))) aJ))) bZ)))⟩
def lU:=dN 3 3 fI.1
def uy:KS 3 iD lU:=fI.2
noncomputable def gL:CP 2 jG 4 4:=⟨_,λT=>js ["self","who","whom","role"] (T.d 16 rfl) λ_ _ _ _ _ _ _ L=>(bq (mq (aX (cG (cq L)) (aQ (ay L) (cf T.dm (aj 0)) (aj 1)) ax) (cc (cR (kH Xv (eC (OB rfl) T.max (ak (cS (lT T) L (ak (aQ (ay L) (cf T.dm (aj 0)) (aj 2)) aC)) (ak (cS (lT T) L (ak (aj 3) aC)) aC))) (cS (lT T) L (ak ax aC))))) gA) (cc (cR (kH (cG (cq L)) (aQ (ay L) (cf T.dm (aj 0)) (aj 1)) ax))))⟩
def oK:=rD 4 4 gL.1
def vY:KP 2 jG oK:=gL.2
def oj:CP 1 r9 2 2:=⟨_,λT=>js ["row","who"] (T.d 17 rfl) λ_ _ _ _ _ _ _ L=>(cc (cR (BY (kH (cG (cq L)) (aQ (ay L) (aj 0) aD) (aj 1)) (BZ (kH (nQ (ay L)) (aQ (ay L) (aj 0) aD) (bE (ak ax (ak ax aC))))))))⟩
def yj:=rD 2 2 oj.1
def EY:KP 1 r9 yj:=oj.2
def om:CP 1 r_ 2 2:=⟨_,λT=>js ["row","who"] (T.d 18 rfl) λ_ _ _ _ _ _ _ L=>(bq (mq (aX (cG (cq L)) (aQ (ay L) (aj 0) aD) ax) (cc (cR (kH (cG (cq L)) (aQ (ay L) (aj 0) aD) (aj 1)))) gA) (cc (cR (BY (kH (nQ (ay L)) (aQ (ay L) (aj 0) aD) (bE (ak ax (ak ax aC)))) (BZ (kH (cG (cq L)) (aQ (ay L) (aj 0) aD) (aj 1)))))))⟩
def yk:=rD 2 2 om.1
def EZ:KP 1 r_ yk:=om.2
def lW:CP 1 p_ 1 1:=⟨_,λT=>js ["row"] (T.d 19 rfl) λ_ _ _ _ _ _ _ L=>(cc (cR (BY (kH (cG (cq L)) (aQ (ay L) (aj 0) aD) ax) (BZ (kH (cG (cq L)) (aQ (ay L) (aj 0) aD) ax)))))⟩
def vC:=rD 1 1 lW.1
def C1:KP 1 p_ vC:=lW.2
def qS:CZ 2 u3 2 6:=⟨_,λT=>Ra ["rows","who","seen","inside","past","row"] (T.d 20 rfl) λL _ _ _ _ _ _ b=>(aE (eY (i:=2) (fu (x6 aC)) L) (aE (eY (i:=3) (az uN) L) (aE (eY (i:=4) (az ax) L) (aE (xX (eD (aj 0)) (ck 5 L) (cz 5) (aE (dv (ba (lL (cS (EY T) b (ak (aj 5) (ak (aj 1) aC))))) (aE (eY (i:=3) (az uN) L) (aO (dv (ba (aX (cG (cq b)) (aj 4) ax)) (aO (eY (i:=2) (fu (MR T.list T.range (ak aD (ak (aQ (ay b) (aj 5) aD) aC)))) L)) bZ))) bZ) (aE (dv (ba (lL (aj 3))) (aO (bf (xY lx nB g0 r6 (dC (au (aj 2))) (ar (az (aQ (ay b) (aj 5) aD)) aJ)))) bZ) (aE (dv (ba (lL (cS (EZ T) b (ak (aj 5) (ak (aj 1) aC))))) (aO (eY (i:=3) (az uN) L)) bZ) (aO (dv (ba (lL (cS (C1 T) b (ak (aj 5) aC)))) (aO (eY (i:=4) (az (aQ (ay b) (aj 5) aD)) L)) bZ)))))) (aO (d_ (az (m_ wb T.tuple (ak (aj 2) aC)))))))))⟩
def u7:=vQ 2 6 qS.1
def u9:KP 2 u3 u7:=qS.2
def gM:CP 3 jH 3 3:=⟨_,λT=>js ["self","who","number"] (T.d 21 rfl) λ_ _ _ _ _ _ _ L=>(cc (cR (BY (kH (nQ (ay L)) (aj 2) (cS (u9 T) L (ak (cf T.rJ (aj 0)) (ak (aj 1) aC)))) (BZ (kH (cG (cq L)) (aQ (ay L) (aQ (ay L) (cf T.rJ (aj 0)) (cV FL (aj 2) aD)) aD) ax)))))⟩
def oM:=rD 3 3 gM.1
def oN:KP 3 jH oM:=gM.2
def d5:CP 1 dZ 2 2:=⟨_,λT=>js ["self","number"] (T.d 22 rfl) λ_ _ _ _ _ _ _ L=>(cc (cR (eC (UT rfl) T.any (ak (uP (N':=["row","number"]) (ix:=[none,some 1]) (fy.of (N:=["self","number"]) (sc:=aL dZ.st) rfl rfl ∅) (eD (cf T.rJ (aj 0))) ⟨λs H ex=>⟨(ck 0 (by show List.Nodup (["row","number"]:List Str);decide)),lO,(BY (kH (cG (cq L)) (aQ (ay L) (aj 0) aD) ax) (BZ (kH (cG (cq L)) (aQ (ay L) (aj 0) aD) (aj 1))))⟩⟩ (cz 0)) aC))))⟩
def iN:=rD 2 2 d5.1
def o5:KP 1 dZ iN:=d5.2
def gO:CP 1 jI 3 3:=⟨_,λT=>js ["self","who","number"] (T.d 23 rfl) λ_ _ _ _ _ _ _ L=>(cc (cR (kH (cG (cq L)) (aQ (ay L) (aQ (ay L) (cf T.rJ (aj 0)) (cV FL (aj 2) aD)) aD) (aj 1))))⟩
def gP:=rD 3 3 gO.1
def oO:KP 1 jI gP:=gO.2
def gQ:CS 4 jJ 3 3:=⟨_,λT=>eZ ["self","who","number"] (T.d 24 rfl) λ_ _ _ _ _ _ _ L=>(aO (dv (ba (fN (P0 (vo (lL (gu (oN T) L (aj 0) (ak (aj 1) (ak (aj 2) aC))))) (IS (lL (gu (o5 T) L (aj 0) (ak (aj 2) aC))))))) (aO (eP T.Gf (ar (az (gs (bV (dQ (aj 1)) (bV ax (bV (dQ (aj 2)) (bV ax jP)))))) aJ))) bZ))⟩
def oP:=dN 3 3 gQ.1
def oQ:KS 4 jJ oP:=gQ.2
noncomputable def dq:CS 5 n8 2 2:=⟨_,λT=>eZ ["self","who"] (T.d 25 rfl) λ_ _ _ _ _ _ _ L=>(aE (dv (ba (aX (nQ (ay L)) (aj 1) (cf T.dm (aj 0)))) (aO (eP T.wk (ar (az (gs (bV (dQ (aj 1)) (bV ax jP)))) aJ))) bZ) (aE (dv (ba (aX (nQ (ay L)) (aj 1) (cf T.CU (aj 0)))) (aO (eP T.Ke (ar (az (gs (bV (dQ (aj 1)) (bV ax jP)))) aJ))) bZ) (aE (dv (ba (fN (lM (aX (cG (cq L)) (aQ (ay L) (cf T.uv (aj 0)) ax) ax) (ij (aX (zm (ay L)) (aj 1) (cf T.u6 (aj 0))))))) (aO (eP T.EW (ar (az (gs (bV (dQ (aj 1)) (bV ax jP)))) aJ))) bZ) (aE (bf (bu (rL T) L `e (ar (au (aj 1)) (ar (az ax) (ar (az ax) aJ))))) (aO (bf (AM (gv T) L `e)))))))⟩
def eE:=dN 2 2 dq.1
def Ba:KS 5 n8 eE:=dq.2
noncomputable def f':CS 5 n_ 2 2:=⟨_,λT=>eZ ["self","who"] (T.d 26 rfl) λ_ _ _ _ _ _ _ L=>(aE (bf (bu (cT T) L `e (ar (au (aj 1)) aJ))) (aE (bf (bu (cK T) L `e (ar (au (aj 1)) (ar (az ax) (ar (az (bE aC)) aJ))))) (aE (bf (Ey (dC (kN T.dm (au (aj 0)))) (au (aj 1)))) (aO (bf (AM (gv T) L `e))))))⟩
def gb:=dN 2 2 f'.1
def Bc:KS 5 n_ gb:=f'.2
noncomputable def iG:CS 3 kR 4 4:=⟨_,λT=>eZ ["self","who","what","value"] (T.d 27 rfl) λ_ _ _ _ _ _ _ L=>(aE (bf (bu (cT T) L `e (ar (au (aj 1)) aJ))) (aE (bf (bu (gX T) L `e (ar (au (aj 1)) aJ))) (aE (bf (bu (cK T) L `e (ar (au (aj 1)) (ar (az ax) (ar (az (bE (ak (aj 2) (ak (aj 3) aC)))) aJ))))) (aO (fD (ay L) (dC (kN T.uv (au (aj 0)))) (au (aj 2)) (au (aj 3)))))))⟩
def kZ:=dN 4 4 iG.1
def yl:KS 3 kR kZ:=iG.2
noncomputable def g8:CS 5 qa 4 4:=⟨_,λT=>eZ ["self","who","whom","role"] (T.d 28 rfl) λ_ _ _ _ _ _ _ L=>(aE (bf (bu (cT T) L `e (ar (au (aj 1)) aJ))) (aE (bf (bu (cT T) L `e (ar (au (aj 2)) aJ))) (aE (dv (ba (vo (lL (gu (vY T) L (aj 0) (ak (aj 1) (ak (aj 2) (ak (aj 3) aC))))))) (aO (eP T.nu (ar (az (gs (bV (dQ (aj 1)) (bV ax (bV (dQ (aj 2)) (bV ax (bV (dQ (aj 3)) jP))))))) aJ))) bZ) (aE (dv (ba (aX (cG (cq L)) (aQ (ay L) (cf T.dm (aj 0)) (aj 2)) (aj 3))) (aO (eP T.wk (ar (az (gs (bV (dQ (aj 2)) (bV ax (bV (dQ (aj 3)) jP))))) aJ))) bZ) (aE (bf (bu (nz T) L `e (ar (au (aj 1)) (ar (au (aj 2)) (ar (au (aj 3)) aJ))))) (aO (bf (AM (gv T) L `e))))))))⟩
def fO:=dN 4 4 g8.1
def C5:KS 5 qa fO:=g8.2
noncomputable def oo:CS 4 sf 3 3:=⟨_,λT=>eZ ["self","who","whom"] (T.d 29 rfl) λ_ _ _ _ _ _ _ L=>(aE (bf (bu (cT T) L `e (ar (au (aj 1)) aJ))) (aE (bf (bu (cT T) L `e (ar (au (aj 2)) aJ))) (aE (bf (bu (uy T) L `e (ar (au (aj 1)) (ar (au (aj 2)) aJ)))) (aE (bf (bu (cK T) L `e (ar (au (aj 1)) (ar (az ax) (ar (az (bE (ak (aj 2) aC))) aJ))))) (aO (bf (Ey (dC (kN T.dm (au (aj 0)))) (au (aj 2)))))))))⟩
def sv:=dN 3 3 oo.1
def E1:KS 4 sf sv:=oo.2
def oq:CS 4 sj 4 4:=⟨_,λT=>eZ ["self","who","words","answer"] (T.d 30 rfl) λ_ _ _ _ _ _ _ L=>(aE (bf (bu (cT T) L `e (ar (au (aj 1)) aJ))) (aE (dv (ba (fN (lM (aX (cG (cq L)) (aQ (ay L) (cf T.uv (aj 0)) ax) ax) (ij (aX (cG (cq L)) (aQ (ay L) (cf T.dm (aj 0)) (aj 1)) ax))))) (aO (eP T.nu (ar (az (gs (bV (dQ (aj 1)) (bV ax jP)))) aJ))) bZ) (aE (dv (ba (fN (lM (aX T_ (aj 3) jL) (ij (vo (lL (gu (oN T) L (aj 0) (ak (aj 1) (ak (aj 3) aC))))))))) (aO (eP T.Gf (ar (az (gs (bV (dQ (aj 1)) (bV ax (bV (dQ (aj 3)) jP))))) aJ))) bZ) (aO (d_ (bu (cK T) L `e (ar (au (aj 1)) (ar (az ax) (ar (az (bE (ak (aj 2) (ak (aj 3) aC)))) aJ)))))))))⟩
def sx:=dN 4 4 oq.1
def E2:KS 4 sj sx:=oq.2
def lX:CS 5 qd 4 4:=⟨_,λT=>eZ ["self","who","number","words"] (T.d 31 rfl) λ_ _ _ _ _ _ _ L=>(aE (bf (bu (cT T) L `e (ar (au (aj 1)) aJ))) (aE (bf (bu (oQ T) L `e (ar (au (aj 1)) (ar (au (aj 2)) aJ)))) (aE (dv (ba (vo (lL (gu (oO T) L (aj 0) (ak (aj 1) (ak (aj 2) aC)))))) (aO (eP T.nu (ar (az (gs (bV (dQ (aj 1)) (bV ax (bV (dQ (aj 2)) jP))))) aJ))) bZ) (aO (bf (bu (cK T) L `e (ar (au (aj 1)) (ar (az ax) (ar (az (bE (ak (aj 2) (ak (aj 3) aC)))) aJ)))))))))⟩
def qv:=dN 4 4 lX.1
def C6:KS 5 qd qv:=lX.2
def gc:CS 5 iY 3 3:=⟨_,λT=>eZ ["self","who","number"] (T.d 32 rfl) λ_ _ _ _ _ _ _ L=>(aE (bf (bu (cT T) L `e (ar (au (aj 1)) aJ))) (aE (bf (bu (oQ T) L `e (ar (au (aj 1)) (ar (au (aj 2)) aJ)))) (aE (dv (ba (vo (lL (gu (oO T) L (aj 0) (ak (aj 1) (ak (aj 2) aC)))))) (aO (bf (bu (gX T) L `e (ar (au (aj 1)) aJ)))) bZ) (aO (bf (bu (cK T) L `e (ar (au (aj 1)) (ar (az ax) (ar (az (bE (ak (aj 2) aC))) aJ)))))))))⟩
def i7:=dN 3 3 gc.1
def u_:KS 5 iY i7:=gc.2
noncomputable def ki:CS 6 og 3 3:=⟨_,λT=>eZ ["self","who","room"] (T.d 33 rfl) λ_ _ _ _ _ _ _ L=>(aO (bf (bu (Ba T) L (dC (bu (cL T) L `e (ar (az (bE (ak (aj 1) aC))) (ar (au (aj 2)) aJ)))) (ar (au (aj 1)) aJ))))⟩
def ou:=dN 3 3 ki.1
def Be:KS 6 og ou:=ki.2
noncomputable def kj:CS 6 oh 3 3:=⟨_,λT=>eZ ["self","who","room"] (T.d 34 rfl) λ_ _ _ _ _ _ _ L=>(aO (bf (bu (Bc T) L (dC (bu (cL T) L `e (ar (az (bE (ak (aj 1) aC))) (ar (au (aj 2)) aJ)))) (ar (au (aj 1)) aJ))))⟩
def ox:=dN 3 3 kj.1
def Bf:KS 6 oh ox:=kj.2
noncomputable def iH:CS 4 kS 5 5:=⟨_,λT=>eZ ["self","who","room","what","value"] (T.d 35 rfl) λ_ _ _ _ _ _ _ L=>(aO (bf (bu (yl T) L (dC (bu (cL T) L `e (ar (az (bE (ak (aj 1) aC))) (ar (au (aj 2)) aJ)))) (ar (au (aj 1)) (ar (au (aj 3)) (ar (au (aj 4)) aJ))))))⟩
def ym:=dN 5 5 iH.1
def yn:KS 4 kS ym:=iH.2
noncomputable def lY:CS 6 qe 5 5:=⟨_,λT=>eZ ["self","who","room","whom","role"] (T.d 36 rfl) λ_ _ _ _ _ _ _ L=>(aO (bf (bu (C5 T) L (dC (bu (cL T) L `e (ar (az (bE (ak (aj 1) (ak (aj 3) aC)))) (ar (au (aj 2)) aJ)))) (ar (au (aj 1)) (ar (au (aj 3)) (ar (au (aj 4)) aJ))))))⟩
def C7:=dN 5 5 lY.1
def C8:KS 6 qe C7:=lY.2
noncomputable def oy:CS 5 sk 4 4:=⟨_,λT=>eZ ["self","who","room","whom"] (T.d 37 rfl) λ_ _ _ _ _ _ _ L=>(aO (bf (bu (E1 T) L (dC (bu (cL T) L `e (ar (az (bE (ak (aj 1) (ak (aj 3) aC)))) (ar (au (aj 2)) aJ)))) (ar (au (aj 1)) (ar (au (aj 3)) aJ)))))⟩
def E3:=dN 4 4 oy.1
def E4:KS 5 sk E3:=oy.2
def oz:CS 5 sr 5 5:=⟨_,λT=>eZ ["self","who","room","words","answer"] (T.d 38 rfl) λ_ _ _ _ _ _ _ L=>(aO (d_ (bu (E2 T) L (dC (bu (cL T) L `e (ar (az (bE (ak (aj 1) aC))) (ar (au (aj 2)) aJ)))) (ar (au (aj 1)) (ar (au (aj 3)) (ar (au (aj 4)) aJ))))))⟩
def yo:=dN 5 5 oz.1
def E5:KS 5 sr yo:=oz.2
def lZ:CS 6 qf 5 5:=⟨_,λT=>eZ ["self","who","room","number","words"] (T.d 39 rfl) λ_ _ _ _ _ _ _ L=>(aO (bf (bu (C6 T) L (dC (bu (cL T) L `e (ar (az (bE (ak (aj 1) aC))) (ar (au (aj 2)) aJ)))) (ar (au (aj 1)) (ar (au (aj 3)) (ar (au (aj 4)) aJ))))))⟩
def C9:=dN 5 5 lZ.1
def C_:KS 6 qf C9:=lZ.2
def gf:CS 6 iZ 4 4:=⟨_,λT=>eZ ["self","who","room","number"] (T.d 40 rfl) λ_ _ _ _ _ _ _ L=>(aO (bf (bu (u_ T) L (dC (bu (cL T) L `e (ar (az (bE (ak (aj 1) aC))) (ar (au (aj 2)) aJ)))) (ar (au (aj 1)) (ar (au (aj 3)) aJ)))))⟩
def va:=dN 4 4 gf.1
def vc:KS 6 iZ va:=gf.2
noncomputable def gR:CP 1 iC 2 2:=⟨_,λT=>js ["self","room"] (T.d 7 rfl) λ_ _ _ _ _ _ _ L=>(bq (mq (aX (zm (ay L)) (aj 1) (cf T.kU (aj 0))) (cc Oz) gA) (cc (cR (aQ (ay L) (cf T.kU (aj 0)) (aj 1)))))⟩
def oR:=rD 2 2 gR.1
def oS:KP 1 iC oR:=gR.2
def d6:CP 1 dU 2 3:=⟨_,λT=>js ["self","names","name"] (T.d 6 rfl) λL _ _ _ _ _ _ b=>(cc (IU (eD (aj 1)) (ck 2 L) (cc (mq (aX (zm (ay b)) (aj 2) (cf T.kr (aj 0))) (cc Oz) gA))))⟩
def iO:=rD 2 3 d6.1
def o6:KP 1 dU iO:=d6.2
def eV:CP 2 fb 3 3:=⟨_,λT=>js ["self","names","room"] (T.d 8 rfl) λ_ _ _ _ _ _ _ L=>(bq (P5 (gu (o6 T) L (aj 0) (ak (aj 1) aC))) (cc (cR (gu (oS T) L (aj 0) (ak (aj 2) aC)))))⟩
def jT:=rD 3 3 eV.1
def jU:KP 2 fb jT:=eV.2
def l6:CP 3 qg 3 3:=⟨_,λT=>js ["self","room","who"] (T.d 41 rfl) λ_ _ _ _ _ _ _ L=>(cc (cR (cS (u9 T) L (ak (cf T.rJ (gu (jU T) L (aj 0) (ak (bE (ak (aj 2) aC)) (ak (aj 1) aC)))) (ak (aj 2) aC)))))⟩
def vD:=rD 3 3 l6.1
def vE:KP 3 qg vD:=l6.2
def iI:CZ 1 kT 1 3:=⟨_,λT=>Ra ["rows","latest","row"] (T.d 42 rfl) λb _ _ _ _ _ _ L=>(aE (eY (i:=1) (fu kK) b) (aE (xX (eD (aj 0)) (ck 2 b) (cz 2) (aE (dv (ba (aX (cG (cq L)) (aQ (ay L) (aj 2) aD) ax)) (aO (fD (ay L) (dC (au (aj 1))) (az (aQ (ay L) (aj 2) aD)) (az (aQ (ay L) (aj 2) aD)))) bZ) (aE (dv (ba (aX (cG (cq L)) (aQ (ay L) (aj 2) aD) ax)) (aO (fD (ay L) (dC (au (aj 1))) (az (aQ (ay L) (aj 2) aD)) (az (aQ (ay L) (aj 2) aD)))) bZ) (aO (dv (ba (aX (cG (cq L)) (aQ (ay L) (aj 2) aD) ax)) (aO (fD (ay L) (dC (au (aj 1))) (az (aQ (ay L) (aj 2) aD)) (az jL))) bZ))))) (aO (d_ (au (aj 1))))))⟩
def k_:=vQ 1 3 iI.1
def yp:KP 1 kT k_:=iI.2
def qT:CP 3 i5 2 6:=⟨_,λT=>js ["rows","who","seen","says","latest","numbers"] (T.d 43 rfl) λb _ _ _ _ _ _ L=>(bq (ua (i:=2) (N':=["number","rows"]) (ix:=[none,some 0]) (fy.of (N:=["rows","who","seen","says","latest","numbers"]) (sc:=aL i5.st) rfl rfl ∅) (eD (cS (u9 T) L (ak (aj 0) (ak (aj 1) aC)))) ⟨λs H ex=>⟨(ck 0 (by show List.Nodup (["number","rows"]:List Str);decide)),lO,(aQ (ay L) (aj 1) (cV FL (aj 0) aD))⟩⟩ (cz 0) b) (bq (ua (i:=3) (N':=["row"]) (ix:=[none]) (fy.of (N:=["rows","who","seen","says","latest","numbers"]) (sc:=aL i5.st) rfl rfl ∅) (eD (aj 2)) ⟨λs H ex=>⟨(ck 0 (by show List.Nodup (["row"]:List Str);decide)),(pS (aX (cG (cq L)) (aQ (ay L) (aj 0) aD) ax)),(aj 0)⟩⟩ (cz 0) b) (bq (dB (i:=4) (cS (yp T) L (ak (aj 2) aC)) b) (bq (dB (i:=5) (N_p (ug (AI rfl) T.dict (ak (uP (N':=["row"]) (ix:=[none]) (fy.of (N:=["rows","who","seen","says","latest","numbers"]) (sc:=aL i5.st) rfl rfl ∅) (eD (aj 3)) ⟨λs H ex=>⟨(ck 0 (by show List.Nodup (["row"]:List Str);decide)),lO,(bE (ak (aQ (ay L) (aj 0) aD) (ak uN aC)))⟩⟩ (cz 0)) aC))) b) (cc (cR (m_ wb T.tuple (ak (uP (N':=["row","latest","numbers"]) (ix:=[none,some 4,some 5]) (fy.of (N:=["rows","who","seen","says","latest","numbers"]) (sc:=aL i5.st) rfl rfl ∅) (eD (aj 3)) ⟨λs H ex=>⟨(ck 0 (by show List.Nodup (["row","latest","numbers"]:List Str);decide)),lO,(bE (ak (aQ (ay L) (aj 0) aD) (ak (aQ (ay L) (aj 0) aD) (ak (aQ (ay L) (aj 1) (aQ (ay L) (aj 0) aD)) (ak (LX (aX (Va (ay L)) (aQ (ay L) (aj 0) aD) (aj 2)) (aQ (ay L) (aj 0) aD) jL) aC)))))⟩⟩ (cz 0)) aC))))))))⟩
def zM:=rD 2 6 qT.1
def HI:KP 3 i5 zM:=qT.2
def l7:CP 4 qi 3 3:=⟨_,λT=>js ["self","room","who"] (T.d 44 rfl) λ_ _ _ _ _ _ _ L=>(cc (cR (cS (HI T) L (ak (cf T.rJ (gu (jU T) L (aj 0) (ak (bE (ak (aj 2) aC)) (ak (aj 1) aC)))) (ak (aj 2) aC)))))⟩
def vF:=rD 3 3 l7.1
def vG:KP 4 qi vF:=l7.2
noncomputable def jj:CP 1 mF 1 1:=⟨_,λT=>js ["self"] (T.d 45 rfl) λ_ _ _ _ _ _ _ L=>(cc (cR (m_ wb T.tuple (ak (eC (Jn rfl) T.sorted (ak (cf T.kr (aj 0)) aC)) aC))))⟩
def jk:=rD 1 1 jj.1
def rN:KP 1 mF jk:=jj.2
noncomputable def l8:CP 1 qj 1 1:=⟨_,λT=>js ["self"] (T.d 46 rfl) λ_ _ _ _ _ _ _ L=>(cc (cR (m_ wb T.tuple (ak (cf T.rJ (aj 0)) aC))))⟩
def vH:=rD 1 1 l8.1
def C':KP 1 qj vH:=l8.2
noncomputable def l9:CP 2 qm 2 2:=⟨_,λT=>js ["self","room"] (T.d 47 rfl) λ_ _ _ _ _ _ _ L=>(cc (cR (AL (C' T) L (gu (oS T) L (aj 0) (ak (aj 1) aC)))))⟩
def vI:=rD 2 2 l9.1
def Dc:KP 2 qm vI:=l9.2
noncomputable def uz:CP 1 yb 2 2:=⟨_,λT=>js ["_law_room","_law_who"] (T.d 48 rfl) λ_ _ _ _ _ _ _ L=>(cc (cR (LX (aX (nQ (ay L)) (aj 1) (aQ (ay L) (aj 0) ax)) (Uz (ay L) (ak ax (ak ax (ak ax (ak ax aC)))) (aQ (ay L) (aQ (ay L) (aj 0) ax) (aj 1))) (Of aD))))⟩
def De:=rD 2 2 uz.1
def Dg:KP 1 yb De:=uz.2
noncomputable def Dh:CP 1 yc 1 3:=⟨_,λT=>js ["_law_kept","_law_kinds","_law_words_here"] (T.d 49 rfl) λL _ _ _ _ _ _ b=>(bq (dB (i:=1) (rA (ak (mz T.Nb T.Ka T.isinstance (aj 0)) (ak (mz T.ES T.CV T.isinstance (aj 0)) aC))) L) (bq (dB (i:=1) (cV fH (aj 1) (rA (ak (mz T.J' T.HH T.isinstance (aj 0)) (ak (mz T.Nd T.Kc T.isinstance (aj 0)) aC)))) L) (bq (dB (i:=1) (cV fH (aj 1) (rA (ak (mz T.ET T.CW T.isinstance (aj 0)) (ak (mz T.J8 T.HE T.isinstance (aj 0)) aC)))) L) (bq (dB (i:=1) (cV fH (aj 1) (rA (ak (mz T.HD T.EU T.isinstance (aj 0)) aC))) L) (bq (dB (i:=1) (cV fH (aj 1) (rA (ak (mz T.Nc T.Kb T.isinstance (aj 0)) (ak (mz T.J9 T.HF T.isinstance (aj 0)) (ak (mz T.J_ T.HG T.isinstance (aj 0)) aC))))) L) (bq (dB (i:=2) (bE (ak ax (ak ax (ak ax (ak ax (ak ax (ak ax aC))))))) L) (bq (dB (i:=2) (cV fH (aj 2) (bE (ak ax (ak ax (ak ax (ak ax aC)))))) L) (bq (mq (fN (P0 (aX (Ei (cq b)) (Uw PySem.F.slot_list_count PySem.F.type_list_count (QH (ay b)) (aj 1) uN) aD) (IS (vo (lL (Q0 T.A6 T.ValueError T.isinstance (aj 0))))))) (cc (cR ax)) gA) (cc (cR (aQ (ay b) (aj 2) (Uw PySem.F.slot_list_index PySem.F.type_list_index (QC (ay b)) (aj 1) uN))))))))))))⟩
def yq:=rD 1 3 Dh.1
def Kg:KP 1 yc yq:=Dh.2
noncomputable def zN:CS 1 u4 1 1:=⟨_,λT=>eZ ["_law_people"] (T.d 50 rfl) λ_ _ _ _ _ _ _ L=>(aO (d_ (JL (nX (au ax) (fu (ug Mz T.list (ak (aj 0) aC))) (nX (au ax) (fu kK) Ju)))))⟩
def zO:=dN 1 1 zN.1
def HJ:KS 1 u4 zO:=zN.2
noncomputable def wo:CS 1 AX 3 3:=⟨_,λT=>eZ ["_law_room","_law_who","_law_parts"] (T.d 51 rfl) λ_ _ _ _ _ _ _ L=>(aE (bf (xY lx nB g0 r6 (dC (uj (ay L) `e (az ax))) (ar (az (cV fH (bE (ak (cV fH (eC jz T.len (ak (aQ (ay L) (aj 0) ax) aC)) aD) (ak (aj 1) aC))) (aj 2))) aJ))) (aO (d_ (az (eC jz T.len (ak (aQ (ay L) (aj 0) ax) aC))))))⟩
def Bg:=dN 3 3 wo.1
def uA:KS 1 AX Bg:=wo.2
def qU:CS 2 qQ 3 5:=⟨_,λT=>eZ ["_law_room","_law_who","_law_word_here","_law_number","_law_first"] (T.d 52 rfl) λb _ _ _ _ _ _ L=>(aE (eY (i:=3) (iL (uA T) L (ar (au (aj 0)) (ar (au (aj 1)) (ar (az (bE (ak (aj 2) aC))) aJ)))) b) (aE (eY (i:=4) (az (LX (aX (cG (cq L)) (aQ (ay L) (aj 0) ax) ax) aD (aj 3))) b) (aE (bf (xY lx nB g0 r6 (dC (uj (ay L) `e (az ax))) (ar (az (bE (ak (aj 1) (ak (aj 4) (ak (aj 3) (ak jL aC)))))) aJ))) (aE (fD (ay L) (dC (uj (ay L) `e (az ax))) (au (aj 1)) (az ax)) (aO (fD (ay L) `e (az ax) (fu (Qt (N':=["_law_one","_law_who"]) (ix:=[none,some 1]) (fy.of (N:=["_law_room","_law_who","_law_word_here","_law_number","_law_first"]) (sc:=aL qQ.st) rfl rfl ∅) (eD (aQ (ay L) (aj 0) ax)) ⟨λs H ex=>⟨(ck 0 (by show List.Nodup (["_law_one","_law_who"]:List Str);decide)),(pS (aX (Ei (cq L)) (aj 0) (aj 1))),(aj 0)⟩⟩ (cz 0)))))))))⟩
def vd:=dN 3 5 qU.1
def zP:KS 2 qQ vd:=qU.2
def uB:CS 1 ur 3 3:=⟨_,λT=>eZ ["_law_room","_law_who","_law_number"] (T.d 53 rfl) λ_ _ _ _ _ _ _ L=>(aE (bf (Ey (dC (uj (ay L) `e (az ax))) (au (aj 1)))) (aO (fD (ay L) `e (az ax) (fu (Qt (N':=["_law_stay","_law_who","_law_number"]) (ix:=[none,some 1,some 2]) (fy.of (N:=["_law_room","_law_who","_law_number"]) (sc:=aL ur.st) rfl rfl ∅) (eD (aQ (ay L) (aj 0) ax)) ⟨λs H ex=>⟨(ck 0 (by show List.Nodup (["_law_stay","_law_who","_law_number"]:List Str);decide)),lO,(LX (fN (lM (aX (cG (cq L)) (aQ (ay L) (aj 0) aD) (aj 1)) (ij (aX Qg (aQ (ay L) (aj 0) aD) jL)))) (cV fH (uk (aj 0) nR (nT aD)) (bE (ak (aj 2) aC))) (aj 0))⟩⟩ (cz 0))))))⟩
def yr:=dN 3 3 uB.1
def Di:KS 1 ur yr:=uB.2
noncomputable def wq:CP 1 AY 3 4:=⟨_,λT=>js ["_law_cell_here","_law_prime","_law_many","_law_blend"] (T.d 54 rfl) λL _ _ _ _ _ _ b=>(bq (dB (i:=3) (cV zj (cV FN (aj 0) aD) (aj 1)) L) (cc (cR (cV zj (cV zj (cV FN (aj 3) (cV fH (aj 3) aD)) (aj 1)) (aj 2)))))⟩
def Bh:=rD 3 4 wq.1
def fJ:KP 1 AY Bh:=wq.2
noncomputable def Dj:CP 1 yd 2 2:=⟨_,λT=>js ["_law_script","_law_k"] (T.d 55 rfl) λ_ _ _ _ _ _ _ L=>(bq (mq (aX T7 (aj 1) (eC jz T.len (ak (aj 0) aC))) (cc (cR (aQ (ay L) (aj 0) (aj 1)))) gA) (cc (cR aD)))⟩
def Dk:=rD 2 2 Dj.1
def Kh:KP 1 yd Dk:=Dj.2
def qV:CS 2 ko 1 3:=⟨_,λT=>eZ ["_law_room","_law_most","_law_there"] (T.d 56 rfl) λb _ _ _ _ _ _ L=>(aE (dv (ba (fN (P0 (vo (lL (aQ (ay L) (aj 0) ax))) (IS (aX (nQ (ay L)) ax (Ot (N':=["_law_who","_law_room"]) (ix:=[none,some 0]) (fy.of (N:=["_law_room","_law_most","_law_there"]) (sc:=aL ko.st) rfl rfl ∅) (Jk (aQ (ay L) (aj 0) ax)) ⟨λs H ex=>⟨(ck 0 (by show List.Nodup (["_law_who","_law_room"]:List Str);decide)),lO,(aQ (ay L) (aQ (ay L) (aj 1) ax) (aj 0))⟩⟩ (cz 0))))))) (aO Qp) bZ) (aE (eY (i:=1) (az (eC (OB rfl) T.max (ak (Ot (N':=["_law_who","_law_room"]) (ix:=[none,some 0]) (fy.of (N:=["_law_room","_law_most","_law_there"]) (sc:=aL ko.st) rfl rfl ∅) (Jk (aQ (ay L) (aj 0) ax)) ⟨λs H ex=>⟨(ck 0 (by show List.Nodup (["_law_who","_law_room"]:List Str);decide)),lO,(cS (Dg T) L (ak (aj 1) (ak (aj 0) aC)))⟩⟩ (cz 0)) aC))) b) (aE (My (i:=2) (N':=["_law_stay","_law_most","_law_room"]) (ix:=[none,some 1,some 0]) (fy.of (N:=["_law_room","_law_most","_law_there"]) (sc:=aL ko.st) rfl rfl ∅) (eD (aQ (ay L) (aj 0) ax)) ⟨λs H ex=>⟨(ck 0 (by show List.Nodup (["_law_stay","_law_most","_law_room"]:List Str);decide)),(pS (fN (lM (aX Qg (aQ (ay L) (aj 0) aD) jL) (ij (aX (cG (cq L)) (cS (Dg T) L (ak (aj 2) (ak (aQ (ay L) (aj 0) aD) aC))) (aj 1)))))),(aQ (ay L) (aj 0) aD)⟩⟩ (cz 0) b) (aE (fD (ay L) (dC (uj (ay L) `e (az ax))) (az (aQ (ay L) (aj 2) aD)) (az ax)) (aO (bf (iL (uA T) L (ar (au (aj 0)) (ar (az (aQ (ay L) (aj 2) aD)) (ar (az (bE (ak ax (ak (aQ (ay L) (aj 2) aD) (ak ax aC))))) aJ))))))))))⟩
def kx:=dN 1 3 qV.1
def HK:KS 2 ko kx:=qV.2
def cW:CS 2 lS 2 6:=⟨_,λT=>eZ ["_law_room","_law_deed_here","_law_word_here","_law_who","_law_names","_law_number"] (T.d 57 rfl) λb _ _ _ _ _ _ L=>(aE (Oo (N8 (is:=[2,3]) (Ak (i:=2) (Ak (i:=3) N7 b) b)) (IX [2,3]) (az (uk (aj 1) nR (nT aD)))) (aE (eY (i:=4) (fu (ug (AI rfl) T.dict (ak (rA (ak (bE (ak ax (ak ax aC))) (ak (bE (ak ax (ak ax aC))) aC))) aC))) b) (aE (eY (i:=5) (iL (uA T) L (ar (au (aj 0)) (ar (au (aj 3)) (ar (az (cV fH (bE (ak (Ja (ay L) (aj 4) (aj 2) (aj 2)) aC)) (uk (aj 1) (nT aD) nR))) aJ)))) b) (aE (dv (ba (aX (cG (cq L)) (aj 2) ax)) (aO (fD (ay L) `e `f `f)) bZ) (aE (dv (ba (aX (cG (cq L)) (aj 2) ax)) (aO (bf (xY lx nB g0 r6 (dC (uj (ay L) `e (az ax))) (ar `f aJ)))) bZ) (aE (dv (ba (aX (cG (cq L)) (aj 2) ax)) (aO (fD (ay L) (dC (uj (ay L) `e (az ax))) `f `f)) bZ) (aE (dv (ba (aX (cG (cq L)) (aj 2) ax)) (aO (bf (xY lx nB g0 r6 (dC (uj (ay L) `e (az ax))) (ar `f aJ)))) bZ) (aE (dv (ba (aX (cG (cq L)) (aj 2) ax)) (aO (fD (ay L) `e (az ax) (fu (Qt (N':=["_law_one","_law_deed_here"]) (ix:=[none,some 1]) (fy.of (N:=["_law_room","_law_deed_here","_law_word_here","_law_who","_law_names","_law_number"]) (sc:=aL lS.st) rfl rfl ∅) (eD (aQ (ay L) (aj 0) ax)) ⟨λs H ex=>⟨(ck 0 (by show List.Nodup (["_law_one","_law_deed_here"]:List Str);decide)),(pS (aX (Ei (cq L)) (aj 0) (aQ (ay L) (aj 1) aD))),(aj 0)⟩⟩ (cz 0))))) bZ) (aO (dv (ba (fN (lM (aX (nQ (ay L)) (aj 2) (bE (ak ax (ak ax aC)))) (ij (aX (nQ (ay L)) (aQ (ay L) (aj 1) aD) (aQ (ay L) (aj 0) ax)))))) (aO (bf (iL (Di T) L (ar (au (aj 0)) (ar `f (ar (au (aj 5)) aJ)))))) bZ))))))))))⟩
def fP:=dN 2 6 cW.1
def Dl:KS 2 lS fP:=cW.2
noncomputable def gC:CS 3 ye 2 5:=⟨_,λT=>eZ ["_law_model","_law_deed_here","_law_word_here","_law_who","_law_room"] (T.d 58 rfl) λb _ _ _ _ _ _ L=>(aE (Oo (N8 (is:=[2,3]) (Ak (i:=2) (Ak (i:=3) N7 b) b)) (IX [2,3]) (az (uk (aj 1) nR (nT aD)))) (aE (dv (ba (aX (cG (cq L)) (aj 2) ax)) (aE (bf (xY lx nB g0 r6 (dC (uj (ay L) `e (az ax))) (ar (au (aj 3)) aJ))) (aO (d_ (az jL)))) bZ) (aE (dv (ba (aX (cG (cq L)) (aj 2) ax)) (aE (eY (i:=4) (JL (nX (au ax) (fu (x6 aC)) (nX (au ax) (fu kK) (nX (au ax) (fu (x6 aC)) (nX (au ax) (fu (x6 aC)) (nX (au ax) (fu (x6 aC)) Ju)))))) b) (aE (bf (US (dC (au (aj 4))) (au (I_ (AK ax ax (AK ax ax (AK ax ax Og))))))) (aE (fD (ay L) (dC (uj (ay L) `e (az ax))) `f (au (aj 4))) (aE (bf (iL (zP T) L (ar (au (aj 4)) (ar (au (aj 3)) (ar (az ax) aJ))))) (aE (fD (ay L) (dC (uj (ay L) (dC (au (aj 4))) (az ax))) (au (aj 3)) (az ax)) (aO (d_ (az jL)))))))) bZ) (aE (eY (i:=4) (uj (ay L) (dC (uj (ay L) `e (az ax))) `f) b) (aE (dv (ba (aX (cG (cq L)) (aj 2) ax)) (aO (d_ (iL (uA T) L (ar (au (aj 4)) (ar (au (aj 3)) (ar (az (cV fH (uk (aj 1) nR (nT aD)) (uk (aj 1) (nT aD) nR))) aJ)))))) bZ) (aE (dv (ba (aX (cG (cq L)) (aj 2) ax)) (aO (bf (iL (zP T) L (ar (au (aj 4)) (ar (au (aj 3)) (ar (az ax) aJ)))))) (aO (dv (ba (aX (cG (cq L)) (aj 2) ax)) (aO (bf (iL (Di T) L (ar (au (aj 4)) (ar (au (aj 3)) (ar (iL (uA T) L (ar (au (aj 4)) (ar (au (aj 3)) (ar (az (bE (ak ax aC))) aJ)))) aJ)))))) (aO (bf (iL (Dl T) L (ar (au (aj 4)) (ar (au (aj 1)) aJ)))))))) (aE (bf (iL (HK T) L (ar (au (aj 4)) aJ))) (aO (d_ (az jL))))))))))⟩
def cM:=dN 2 5 gC.1
def Dm:KS 3 ye cM:=gC.2
def uC:CP 1 yf 2 4:=⟨_,λT=>js ["_law_rows","_law_number","_law_words_here","_law_row_here"] (T.d 59 rfl) λb _ _ _ _ _ _ L=>(bq (dB (i:=2) (aQ (ay L) (aQ (ay L) (aj 0) (cV FL (aj 1) aD)) aD) b) (bq (IU (eD (aj 0)) (ck 3 b) (bq (mq (fN (lM (aX (cG (cq L)) (aQ (ay L) (aj 3) aD) ax) (ij (aX (cG (cq L)) (aQ (ay L) (aj 3) aD) (aj 1))))) (cc (dB (i:=2) (aQ (ay L) (aj 3) aD) b)) gA) (cc (mq (fN (lM (aX (cG (cq L)) (aQ (ay L) (aj 3) aD) ax) (ij (aX (cG (cq L)) (aQ (ay L) (aj 3) aD) (aj 1))))) (cc (dB (i:=2) jL b)) gA)))) (cc (cR (aj 2)))))⟩
def Dn:=rD 2 4 uC.1
def Ki:KP 1 yf Dn:=uC.2
def jl:CP 5 cu 4 14:=⟨_,λT=>js ["_law_hall_here","_law_room","_law_one","_law_other","_law_rows","_law_mine","_law_yours","_law_seen_here","_law_there","_law_both","_law_entry","_law_late","_law_knows","_law_words_here"] (T.d 60 rfl) λb _ _ _ _ _ _ L=>(bq (dB (i:=4) (gu (Dc T) L (aj 0) (ak (aj 1) aC)) b) (bq (dB (i:=5) (gu (vG T) L (aj 0) (ak (aj 1) (ak (aj 2) aC))) b) (bq (dB (i:=6) (gu (vG T) L (aj 0) (ak (aj 1) (ak (aj 3) aC))) b) (bq (dB (i:=7) (rA (ak (gu (vE T) L (aj 0) (ak (aj 1) (ak (aj 2) aC))) (ak (gu (vE T) L (aj 0) (ak (aj 1) (ak (aj 3) aC))) aC))) b) (bq (JU (i:=8) (uP (N':=["_law_entry"]) (ix:=[none]) `b (eD (aj 6)) ⟨λs H ex=>⟨(ck 0 (by show List.Nodup (["_law_entry"]:List Str);decide)),lO,(aQ (ay L) (aj 0) aD)⟩⟩ (cz 0)) b) (bq (ua (i:=9) (N':=["_law_entry","_law_there"]) (ix:=[none,some 8]) `b (eD (aj 5)) ⟨λs H ex=>⟨(ck 0 (by show List.Nodup (["_law_entry","_law_there"]:List Str);decide)),(pS (aX (nQ (ay L)) (aQ (ay L) (aj 0) aD) (aj 1))),(aj 0)⟩⟩ (cz 0) b) (bq (mq (aX (Ei (cq L)) (uP (N':=["_law_entry"]) (ix:=[none]) `b (eD (aj 9)) ⟨λs H ex=>⟨(ck 0 (by show List.Nodup (["_law_entry"]:List Str);decide)),lO,(uk (aj 0) nR (nT aD))⟩⟩ (cz 0)) (uP (N':=["_law_entry","_law_mine"]) (ix:=[none,some 5]) `b (eD (aj 6)) ⟨λs H ex=>⟨(ck 0 (by show List.Nodup (["_law_entry","_law_mine"]:List Str);decide)),(pS (aX (nQ (ay L)) (aQ (ay L) (aj 0) aD) (uP (N':=["_law_own"]) (ix:=[none]) (fy.of (N:=["_law_entry","_law_mine"]) (sc:=Vb _ (aL cu.st)) rfl rfl ∅) (eD (aj 1)) ⟨λs H ex=>⟨(ck 0 (by show List.Nodup (["_law_own"]:List Str);decide)),lO,(aQ (ay L) (aj 0) aD)⟩⟩ (cz 0)))),(uk (aj 0) nR (nT aD))⟩⟩ (cz 0))) (cc (cR uN)) gA) (bq (IU (eD (aj 9)) (ck 10 b) (bq (JU (i:=11) (uP (N':=["_law_row_here","_law_entry"]) (ix:=[none,some 10]) `b (eD (aj 4)) ⟨λs H ex=>⟨(ck 0 (by show List.Nodup (["_law_row_here","_law_entry"]:List Str);decide)),(pS (fN (lM (aX (nQ (ay L)) (aQ (ay L) (aj 0) aD) (bE (ak ax (ak ax aC)))) (ij (aX (cG (cq L)) (aQ (ay L) (aj 0) aD) (aQ (ay L) (aj 1) aD)))))),(aQ (ay L) (aj 0) aD)⟩⟩ (cz 0)) b) (bq (ua (i:=12) (N':=["_law_some","_law_late"]) (ix:=[none,some 11]) `b (eD (aj 7)) ⟨λs H ex=>⟨(ck 0 (by show List.Nodup (["_law_some","_law_late"]:List Str);decide)),lO,(uP (N':=["_law_number","_law_some"]) (ix:=[none,some 0]) (fy.of (N:=["_law_some","_law_late"]) (sc:=Vb _ (aL cu.st)) rfl rfl ∅) (eD (aj 1)) ⟨λs H ex=>⟨(ck 0 (by show List.Nodup (["_law_number","_law_some"]:List Str);decide)),(pS (aX (nQ (ay L)) (aj 0) (aj 1))),(aj 0)⟩⟩ (cz 0))⟩⟩ (cz 0) b) (bq (dB (i:=13) (aQ (ay L) (uP (N':=["_law_own","_law_entry"]) (ix:=[none,some 10]) `b (eD (aj 6)) ⟨λs H ex=>⟨(ck 0 (by show List.Nodup (["_law_own","_law_entry"]:List Str);decide)),(pS (aX (cG (cq L)) (aQ (ay L) (aj 0) aD) (aQ (ay L) (aj 1) aD))),(aQ (ay L) (aj 0) aD)⟩⟩ (cz 0)) aD) b) (bq (mq (fN (lM (aX (cG (cq L)) (aQ (ay L) (aj 12) aD) (aQ (ay L) (aj 12) aD)) (ij (aX (Ei (cq L)) (aj 13) (aQ (ay L) (aj 10) aD))))) (cc (cR uN)) gA) (cc (mq (fN (lM (aX (cG (cq L)) (aQ (ay L) (aj 12) aD) (aj 11)) (ij (aX (Ei (cq L)) (aQ (ay L) (aj 10) aD) (cS (Ki T) L (ak (aj 4) (ak (aQ (ay L) (aj 10) aD) aC))))))) (cc (cR uN)) gA))))))) (cc (cR uN))))))))))⟩
def mG:=rD 4 14 jl.1
def yY:KP 5 cu mG:=jl.2
def qW:CP 2 qR 1 4:=⟨_,λT=>js ["_law_cell_here","_law_signs","_law_some","_law_many"] (T.d 61 rfl) λb _ _ _ _ _ _ L=>(bq (dB (i:=1) ax b) (bq (mq (aX (cG (cq L)) (cV zj (aj 0) aD) aD) (bq (dB (i:=2) (bE (ak ax (ak ax (ak ax (ak ax (ak ax (ak ax (ak ax (ak ax aC))))))))) b) (bq (dB (i:=2) (cV fH (aj 2) (bE (ak ax (ak ax (ak ax (ak ax aC)))))) b) (cc (cR (aQ (ay L) (aj 2) (cS (fJ T) L (ak (aj 0) (ak aD (ak aD aC))))))))) gA) (bq (dB (i:=3) (cV fH aD (cS (fJ T) L (ak (aj 0) (ak aD (ak aD aC))))) b) (bq (mq (aX (cG (cq L)) (cS (fJ T) L (ak (aj 0) (ak aD (ak aD aC)))) aD) (cc (dB (i:=3) aD b)) gA) (cc (cR (Xz PySem.F.slot_str_join PySem.F.type_str_join Qi ax (ak (uP (N':=["_law_k","_law_signs","_law_cell_here"]) (ix:=[none,some 1,some 0]) (fy.of (N:=["_law_cell_here","_law_signs","_law_some","_law_many"]) (sc:=aL qR.st) rfl rfl ∅) (B_ T.range (ak (aj 3) aC)) ⟨λs H ex=>⟨(ck 0 (by show List.Nodup (["_law_k","_law_signs","_law_cell_here"]:List Str);decide)),lO,(aQ (ay L) (aj 1) (cS (fJ T) L (ak (cV fH (aj 2) (cV FN aD (aj 0))) (ak aD (ak (eC jz T.len (ak (aj 1) aC)) aC)))))⟩⟩ (cz 0)) aC))))))))⟩
def zQ:=rD 1 4 qW.1
def zR:KP 2 qR zQ:=qW.2
def uD:CP 3 uu 3 12:=⟨_,λT=>js ["_law_cell_here","_law_model","_law_words_here","_law_names","_law_who","_law_whom","_law_room","_law_word_here","_law_some","_law_there","_law_number","_law_said"] (T.d 62 rfl) λb _ _ _ _ _ _ L=>(bq (dB (i:=3) (bE (ak ax (ak ax (ak ax (ak ax (ak ax aC)))))) b) (bq (mq (aX (cG (cq L)) (cS (fJ T) L (ak (aj 0) (ak aD (ak aD aC)))) aD) (cc (dB (i:=3) (bE (ak ax (ak ax (ak ax aC)))) b)) gA) (bq (dB (i:=4) (aQ (ay L) (aj 3) (cS (fJ T) L (ak (aj 0) (ak aD (ak (eC jz T.len (ak (aj 3) aC)) aC))))) b) (bq (dB (i:=5) (aQ (ay L) (aj 3) (cS (fJ T) L (ak (aj 0) (ak aD (ak (eC jz T.len (ak (aj 3) aC)) aC))))) b) (bq (dB (i:=6) (aQ (ay L) (bE (ak ax (ak ax (ak ax (ak ax aC))))) (cS (fJ T) L (ak (aj 0) (ak aD (ak aD aC))))) b) (bq (dB (i:=7) (aQ (ay L) (aj 2) (cS (fJ T) L (ak (aj 0) (ak aD (ak (eC jz T.len (ak (aj 2) aC)) aC))))) b) (bq (mq (aX (nQ (ay L)) (aj 7) (bE (ak ax (ak ax (ak ax (ak ax aC)))))) (cc (cR (uk (bE (ak (aj 7) (ak (aj 4) (ak (aj 6) aC)))) nR (nT (cV fH aD (m_ UB T.int (ak (kH (Ei (cq L)) (aj 7) ax) aC))))))) gA) (bq (mq (aX (cG (cq L)) (aj 7) ax) (bq (dB (i:=8) (rA (ak (bE (ak ax (ak ax aC))) (ak (bE (ak ax (ak ax aC))) (ak (bE (ak ax (ak ax aC))) aC)))) b) (bq (dB (i:=8) (cV fH (aj 8) (rA (ak (bE (ak ax (ak ax aC))) (ak (bE (ak ax (ak ax aC))) (ak (bE (ak ax (ak ax aC))) aC))))) b) (cc (cR (cV fH (bE (ak (aj 7) (ak (aj 4) (ak (aj 6) aC)))) (aQ (ay L) (aj 8) (cS (fJ T) L (ak (aj 0) (ak aD (ak aD aC)))))))))) gA) (bq (mq (aX (cG (cq L)) (aj 7) ax) (cc (cR (bE (ak (aj 7) (ak (aj 4) (ak (aj 6) (ak (aj 5) (ak (aQ (ay L) (bE (ak ax (ak ax (ak ax (ak ax aC))))) (cS (fJ T) L (ak (aj 0) (ak aD (ak aD aC))))) aC)))))))) gA) (bq (mq (aX (nQ (ay L)) (aj 7) (bE (ak ax (ak ax (ak ax (ak ax aC)))))) (cc (cR (bE (ak (aj 7) (ak (aj 4) (ak (aj 6) (ak (aj 5) aC))))))) gA) (bq (dB (i:=9) (aQ (ay L) (Ja (ay L) (aQ (ay L) (aj 1) ax) (aj 6) (I_ (AK ax (rA aC) Og))) ax) b) (bq (dB (i:=10) (cS (fJ T) L (ak (aj 0) (ak aD (ak (cV fH (eC jz T.len (ak (aj 9) aC)) aD) aC)))) b) (bq (ua (i:=11) (N':=["_law_row_here"]) (ix:=[none]) (fy.of (N:=["_law_cell_here","_law_model","_law_words_here","_law_names","_law_who","_law_whom","_law_room","_law_word_here","_law_some","_law_there","_law_number","_law_said"]) (sc:=aL uu.st) rfl rfl ∅) (eD (aj 9)) ⟨λs H ex=>⟨(ck 0 (by show List.Nodup (["_law_row_here"]:List Str);decide)),(pS (aX (cG (cq L)) (aQ (ay L) (aj 0) aD) ax)),(aQ (ay L) (aj 0) aD)⟩⟩ (cz 0) b) (bq (mq (fN (lM (lL (aj 11)) (ij (aX T8 (cV zj (aj 0) aD) aD)))) (cc (dB (i:=10) (aQ (ay L) (aj 11) (cS (fJ T) L (ak (aj 0) (ak aD (ak (eC jz T.len (ak (aj 11) aC)) aC))))) b)) gA) (bq (mq (aX (cG (cq L)) (aj 7) ax) (cc (cR (bE (ak (aj 7) (ak (aj 4) (ak (aj 6) (ak (cS (zR T) L (ak (cV fH (aj 0) aD) aC)) (ak (aQ (ay L) (bE (ak jL (ak jL (ak (aj 10) aC)))) (cS (fJ T) L (ak (aj 0) (ak aD (ak aD aC))))) aC)))))))) gA) (bq (mq (aX (cG (cq L)) (aj 7) ax) (cc (cR (bE (ak (aj 7) (ak (aj 4) (ak (aj 6) (ak (aj 10) (ak (cS (zR T) L (ak (cV fH (aj 0) aD) aC)) aC)))))))) gA) (cc (cR (bE (ak (aj 7) (ak (aj 4) (ak (aj 6) (ak (aj 10) aC)))))))))))))))))))))))⟩
def Dp:=rD 3 12 uD.1
def Kj:KP 3 uu Dp:=uD.2
noncomputable def dc:CS 7 yg 2 3:=⟨_,λT=>eZ ["_law_hall_here","_law_deed_here","_law_word_here"] (T.d 63 rfl) λb _ _ _ _ _ _ L=>(aE (eY (i:=2) `f b) (aE (dv (ba (aX (cG (cq L)) (aj 2) ax)) (aO (d_ (bu (vB T) L `e (ar `f aJ)))) bZ) (aE (dv (ba (aX (cG (cq L)) (aj 2) ax)) (aO (d_ (bu (A_ T) L `e (ar `f (ar `f aJ))))) bZ) (aE (dv (ba (aX (cG (cq L)) (aj 2) ax)) (aO (d_ (bu (Be T) L `e (ar `f (ar `f aJ))))) bZ) (aE (dv (ba (aX (cG (cq L)) (aj 2) ax)) (aO (d_ (bu (Bf T) L `e (ar `f (ar `f aJ))))) bZ) (aE (dv (ba (aX (cG (cq L)) (aj 2) ax)) (aO (d_ (bu (yn T) L `e (ar `f (ar `f (ar `f (ar `f aJ))))))) bZ) (aE (dv (ba (aX (cG (cq L)) (aj 2) ax)) (aO (d_ Jf)) bZ) (aE (dv (ba (aX (cG (cq L)) (aj 2) ax)) (aO (d_ (bu (C8 T) L `e (ar `f (ar `f (ar `f (ar `f aJ))))))) bZ) (aE (dv (ba (aX (cG (cq L)) (aj 2) ax)) (aO (d_ (bu (E4 T) L `e (ar `f (ar `f (ar `f aJ)))))) bZ) (aE (dv (ba (aX (cG (cq L)) (aj 2) ax)) (aO (d_ Jf)) bZ) (aE (dv (ba (aX (cG (cq L)) (aj 2) ax)) (aO (d_ Jf)) bZ) (aE (dv (ba (aX (cG (cq L)) (aj 2) ax)) (aO (d_ (bu (E5 T) L `e (ar `f (ar `f (ar `f (ar `f aJ))))))) bZ) (aE (dv (ba (aX (cG (cq L)) (aj 2) ax)) (aO (d_ (bu (C_ T) L `e (ar `f (ar `f (ar `f (ar `f aJ))))))) bZ) (aO (d_ (bu (vc T) L `e (ar `f (ar `f (ar `f aJ)))))))))))))))))))⟩
def de:=dN 2 3 dc.1
def Dq:KS 7 yg de:=dc.2
noncomputable def jt:CS 8 yh 2 5:=⟨_,λT=>eZ ["_law_hall_here","_law_deed_here","_law_kept","_law_answer","e"] (T.d 64 rfl) λL _ _ _ _ _ _ b=>(aE (eY (i:=2) (az jL) L) (aE (eY (i:=3) (az jL) L) (aE (Rc 5 (i:=4) T.CY (λpn q=>(aO (eY (i:=3) (iL (Dq T) b (ar (au (aj 0)) (ar (au (aj 1)) aJ))) L))) (λpn e=>(aO (eY (i:=2) (au (aj 4)) L))) L) (aE (dv (ba (aX Qg (aj 2) jL)) (aO (d_ (au (aj 3)))) bZ) (aO (d_ (az (cS (Kg T) b (ak (aj 2) aC)))))))))⟩
def fQ:=dN 2 5 jt.1
def Kk:KS 8 yh fQ:=jt.2
noncomputable def Ds:CS 8 yi 2 4:=⟨_,λT=>eZ ["_law_hall_here","_law_model","_law_who","_law_deed_here"] (T.d 65 rfl) λb _ _ _ _ _ _ L=>(aE (xX (eD (bE (ak ax (ak ax (ak ax (ak ax (ak ax aC))))))) (ck 2 b) (cz 2) (aO (bf (bu (vB T) L `e (ar (au (aj 2)) aJ))))) (aO (xX (eD (bE (ak (bE (ak ax (ak ax (ak ax aC)))) (ak (bE (ak ax (ak ax (ak ax aC)))) (ak (bE (ak ax (ak ax (ak ax aC)))) (ak (bE (ak ax (ak ax (ak ax aC)))) aC)))))) (ck 3 b) (cz 3) (aE (bf (iL (Dq T) L (ar (au (aj 0)) (ar (au (aj 3)) aJ)))) (aO (bf (iL (Dm T) L (ar (au (aj 1)) (ar (au (aj 3)) aJ)))))))))⟩
def Dt:=dN 2 4 Ds.1
def Kl:KS 8 yi Dt:=Ds.2
def Gh:CZ 9 zL 1 8:=⟨_,λT=>Ra ["_law_script","_law_hall_here","_law_model","_law_words_here","_law_k","_law_deed_here","_law_room","_law_one"] (T.d 66 rfl) λb _ _ _ _ _ _ L=>(aE (eY (i:=1) (MV (vX T) T.Rr L) b) (aE (eY (i:=2) (iL (HJ T) L (ar (az (bE (ak ax (ak ax (ak ax (ak ax (ak ax aC))))))) aJ)) b) (aE (bf (iL (Kl T) L (ar (au (aj 1)) (ar (au (aj 2)) aJ)))) (aE (eY (i:=3) (az (bE (ak ax (ak ax (ak ax (ak ax (ak ax (ak ax (ak ax (ak ax aC)))))))))) b) (aE (eY (i:=3) (az (cV fH (aj 3) (bE (ak ax (ak ax (ak ax (ak ax aC))))))) b) (aE (xX (B_ T.range (ak aD aC)) (ck 4 b) (cz 4) (aE (eY (i:=5) (az (cS (Kj T) L (ak (cV fH (cS (Kh T) L (ak (aj 0) (ak (cV zj (aj 4) aD) aC))) (cV FN aD (aj 4))) (ak (aj 2) (ak (aj 3) aC))))) b) (aO (dv (QY (QX (MI Ud T.isinstance (ar (iL (Kk T) L (ar (au (aj 1)) (ar (au (aj 5)) aJ))) (ar (au (Xm T.str)) aJ))))) (aO (bf (iL (Dm T) L (ar (au (aj 2)) (ar (au (aj 5)) aJ))))) bZ)))) (aE (xX (eD (bE (ak ax (ak ax aC)))) (ck 6 b) (cz 6) (aO (Ri (az (AL (rN T) L (aj 1))) (ck 7 b) (cz 7) (aO (dv (ba (vo (lL (eC (Uk rfl) T.all (ak (uP (N':=["_law_other","_law_hall_here","_law_room","_law_one"]) (ix:=[none,some 1,some 6,some 7]) (fy.of (N:=["_law_script","_law_hall_here","_law_model","_law_words_here","_law_k","_law_deed_here","_law_room","_law_one"]) (sc:=aL zL.st) rfl rfl ∅) (eD (AL (rN T) L (aj 1))) ⟨λs H ex=>⟨(ck 0 (by show List.Nodup (["_law_other","_law_hall_here","_law_room","_law_one"]:List Str);decide)),lO,(cS (yY T) L (ak (aj 1) (ak (aj 2) (ak (aj 3) (ak (aj 0) aC)))))⟩⟩ (cz 0)) aC))))) (aO (d_ (az uN))) bZ))))) (aO (d_ (az uN))))))))))⟩
def yt:=vQ 1 8 Gh.1
def Vh:KP 9 zL yt:=Gh.2
def l_{ps:List Tr}(h:aW A i rows rk en ch bn iv)(f:dI rows rk en ch bn iv)(b:`d<dy)(q:3+ps.length<=dy)(r:jy ps=true):
  nv [.at i,.str aw,.str c7,.tup ps] A=.ok (.int (`d+1)) (A.set (i+1) (.lst (rows++[.tup (.int (`d+1):: .str aw:: .str c7::ps)]))):=by
 show bx (f9.1 [.sh (.at i),.sh (.str aw),.sh (.str c7),.sh (.tup ps),.no] A)=_;unfold f9;have L:rX (.tup [.int (`d+1),.str aw,.str c7]) (.tup ps)=.ok (.tup (.int (`d+1):: .str aw:: .str c7::ps)):=av q;have I:∀A,mH (.ok (.tup (.int (`d+1):: .str aw:: .str c7::ps))) A=.ok (.tup (.int (`d+1):: .str aw:: .str c7::ps)) A:=λA=>av (by simpa only[G9,jy,kc]using r);simp![h.Hx f,h.Yo,aT,aU,AN h.lg,AO h.lg b,L,I]
noncomputable abbrev fw(rows:List Tr)(aw c7:Str)(ps:List Tr):Tr:=.tup (.int (`d+1):: .str aw:: .str c7::ps)
def Ng(h:aW A i rows rk en ch bn iv)(f:dI rows rk en ch bn iv)(b:`d<dy)(q:rk.length<dy)(he:en.length<dy):
  ∃A',rK [.at i,.str aw,.str c7,.str role] A=.ok .bM A'/\Ext A A' [(i+6,.bh (iu iv (.inr aw))),(i+2,.bh (fB rk (.inr aw) (.str role))),(i+3,.bh (fB en (.inr aw) (.int (`d+1)))),(i+1,.lst (rows++[fw rows aw c7 []]))]/\aW A' i (rows++[fw rows aw c7 []]) (fB rk (.inr aw) (.str role)) (fB en (.inr aw) (.int (`d+1))) ch bn (iu iv (.inr aw)):=by
 have h1:=h.vS (Ext.put (o:=.lst (rows++[fw rows aw c7 []])) h.lg);have h2:=h1.Yr (Ext.put (o:=.bh (fB en (.inr aw) (.int (`d+1)))) h1.en);have h3:=h2.M0 (Ext.put (o:=.bh (fB rk (.inr aw) (.str role))) h2.rk);refine⟨_,?_,((Ext.put h.lg).trans (Ext.put h1.en)).trans ((Ext.put h2.rk).trans (Ext.put h3.iv)),h3.Yt (Ext.put h3.iv)⟩;show bx (ji.1 [.sh (.at i),.sh (.str aw),.sh (.str c7),.sh (.str role)] A)=_;unfold ji;have L:∀A,mH (.ok (.tup [])) A=.ok (.tup []) A:=λA=>rfl;have w:=l_ (aw:=aw) (c7:=c7) (ps:=[]) h f b ∅ rfl;simp![h.call (m:="write_row") rfl,L,w,jD,h1.Yp,mC h1.en he,h2.MY,mC h2.rk q,h3.Yq,MW h3.iv,MX _ h3.iv]
def Km(h:aW A i rows rk en ch bn iv)(f:dI rows rk en ch bn iv)(b:`d<dy)(q:rk.length<dy):
  ∃A',ny [.at i,.str aw,.str d4,.str role] A=.ok .bM A'/\Ext A A' [(i+2,.bh (fB rk (.inr d4) (.str role))),(i+1,.lst (rows++[fw rows aw "role" [.str d4,.str role]]))]/\aW A' i (rows++[fw rows aw "role" [.str d4,.str role]]) (fB rk (.inr d4) (.str role)) en ch bn iv:=by
 have h1:=h.vS (Ext.put (o:=.lst (rows++[fw rows aw "role" [.str d4,.str role]])) h.lg);refine⟨_,?_,(Ext.put h.lg).trans (Ext.put h1.rk),h1.M0 (Ext.put h1.rk)⟩;show bx (f_.1 [.sh (.at i),.sh (.str aw),.sh (.str d4),.sh (.str role)] A)=_;unfold f_;have L:∀A,mH (.ok (.tup [.str d4,.str role])) A=.ok (.tup [.str d4,.str role]) A:=λA=>rfl;have w:=l_ (aw:=aw) (c7:="role") (ps:=[.str d4,.str role]) h f b (by show 3+2<=dy;decide) rfl;simp![h.call (m:="write_row") rfl,L,w,jD,h1.MY,mC h1.rk q]
def yu(h:aW A i rows rk en ch bn iv)(f:dI rows rk en ch bn iv)(hw:aw.length<=1000):
  kW [.at i,.str aw] A=if(du rk (.inr aw)).isSome=true then .ok .bM A else .exc (.str "NotIn") A:=by
 show bx (iF.1 [.sh (.at i),.sh (.str aw)] A)=_;unfold iF;simp![h.p8 f];cases e:(du rk (.inr aw)).isSome with
 |true=>simp only[dG,ev,bo]
 |false=>
  have s:=EK (z:=aw) (y:=" is not in the room") hw ∅;simp![fi,s,bR,bO]
noncomputable abbrev fq:List Str:=["guest","speaker","keeper","owner"]
noncomputable def lvl(r:Str):Int:=if r="owner"then 3 else if r="keeper"then 2 else if r="speaker"then 1 else 0
def kl{r:Str}(h:r∈fq):wm [.str r]=.ok (.int (lvl r)):=by
 have:r="guest"\/r="speaker"\/r="keeper"\/r="owner":=by simpa using h
 rcases this with rfl|rfl|rfl|rfl<;>rfl
structure HL(aq:List (Str×Str))(z:Str):Prop where
 ex:∃j r,aq[j]?=some (z,r)/\(∀p∈aq,lvl p.2<=lvl r)/\∀(a:Nat) (p:Str×Str),a<j->aq[a]?=some p->lvl p.2<lvl r
theorem HL.one (a:HL aq y)(b:HL aq z):y=z:=by
 obtain⟨j,r,h1,h2,h3⟩:=a.ex;obtain⟨k,s,g1,g2,g3⟩:=b.ex;have L:=h2 _ (eK g1);have I:=g2 _ (eK h1);rcases Nat.lt_trichotomy j k with q|q|q
 .have:=g3 j _ q h1;simp only at L I this;omega
 .subst q;rw[h1]at g1;cases g1;rfl
 .have:=h3 k _ q g1;simp only at L I this;omega
structure cD(aq:List (Str×Str))(ents:List (Str×Int))(ent:Str->Int):Prop where
 rl:∀p∈aq,p.2∈fq
 nd:(aq.map (·.1)).Nodup
 sh:∀p∈aq,p.1.length<=1000
 en:∀p∈aq,ents.lookup p.1=some (ent p.1)
 up:(aq.map λp=>ent p.1).Pairwise (· <·)
theorem jn:∀{aq:List (Str×Str)},(aq.map (·.1)).Nodup->∀p∈aq,aq.lookup p.1=some p.2
 |q::aq,nd,p,L=>by
  rw[a_,lG]at nd;rw[bT];rcases aZ.mp L with rfl|L
  .simp
  .have:(p.1==q.1)=false:=by
    simp only[gG];intro e;exact nd.1 (e▸fE L)
   rw[this];exact jn nd.2 p L
def Nh{p:Str×Str}(h:aW A i rows (dP .str aq) (dP .int ents) ch bn iv)(f:dI rows (dP .str aq) (dP .int ents) ch bn iv)(k:cD aq ents ent)(b:p∈aq):
  iE [aF 5 A (.at i),.str p.1]=.ok (.tup [.int (-(lvl p.2)),.int (ent p.1)]):=by
 show dh (kg.1 [.sh (aF 5 A (.at i)),.sh (.str p.1)])=_;unfold kg;simp only[ev,bw,h.p8 f,h.Yn f,ej,jn k.nd p b,k.en p b,cZ,jx,kl (k.rl p b)]
theorem Ru(h:aW A i rows (dP .str aq) (dP .int ents) ch bn iv)(f:dI rows (dP .str aq) (dP .int ents) ch bn iv)(k:cD aq ents ent)(jM:aq≠[]):
  ∃z,HL aq z/\JH "Room" "claim" iE (.ok (.lst (aq.map λp=>.str p.1))) (.ok (aF 5 A (.at i)))=.ok (.str z):=by
 have c4:0<aq.length:=sO.mpr jM
 let key:Str->Int×Int:=λz=>(-(lvl ((aq.lookup z).getD "")),ent z)
 have M:∀p∈aq,key p.1=(-(lvl p.2),ent p.1):=λp q=>by show(-(lvl ((aq.lookup p.1).getD "")),ent p.1)=_;rw[jn k.nd p q];rfl
 have hs:keysOf iE (aF 5 A (.at i)) ((aq.map (·.1)).map .str)=some ((aq.map (·.1)).map key):=zJ λz hz=>by
  obtain⟨p,q,rfl⟩:=bQ.mp hz;rw[Nh h f k q,M p q]
 let kf:Nat->Int×Int:=λa=>((aq.map (·.1)).map key).getD a (0,0)
 have r:∀a p,aq[a]?=some p->kf a=(-(lvl p.2),ent p.1):=λa p e=>by
  show((aq.map (·.1)).map key).getD a (0,0)=_;rw[qA,bW,bW,e];exact M p (eK e)
 have I:∀a b,a<b->b<=aq.length - 1->(kf a).2<(kf b).2:=λa b Ma hb=>by
  have L:b<aq.length:=∎
  have S:a<aq.length:=∎
  rw[r a _ (cj S),r b _ (cj L)];have:=List.pairwise_iff_getElem.mp k.up a b (by simpa using S) (by simpa using L) Ma;simpa using this
 obtain⟨h1,h2⟩:=uo (kf:=kf) (aq.length - 1) I;have hb:=u0 (kf:=kf) (aq.length - 1);have L:cC kf (aq.length - 1)<aq.length:=∎
 refine⟨aq[cC kf (aq.length - 1)].1,⟨cC kf (aq.length - 1),aq[cC kf (aq.length - 1)].2,cj L,λp q=>?_,λa p ha e=>?_⟩,?_⟩
 .obtain⟨a,ha,e⟩:=wL q;have:=h1 a ∎;rw[r _ _ (cj L),r a p (by rw[cj ha,e])]at this;simp only at this;omega
 .have:=h2 a ha;rw[r _ _ (cj L),r a p e]at this;simp only at this;omega
 .show vz "Room" "claim" iE (.lst (aq.map λp=>.str p.1)) (aF 5 A (.at i))=_;rw[jB h.o]at hs⊢;rw[show(aq.map λp=>Tr.str p.1)=(aq.map (·.1)).map .str by rw[cg];rfl];refine JY rfl (by simpa using c4) hs ?_
  rw[show((aq.map (·.1)).map Tr.str).length=aq.length by simp];show((aq.map (·.1)).map Tr.str)[cC kf (aq.length - 1)]?=_
  rw[bW,bW,cj L]
  rfl
inductive fS(rows:List Tr)(aq:List (Str×Str)):List Tr->List (Str×Str)->Prop
 |same:(aq=[]\/∃p∈aq,p.2="owner")->fS rows aq rows aq
 |yv (z:Str):HL aq z->(∀p∈aq,p.2≠"owner")->aq≠[]->fS rows aq (rows++[fw rows z "role" [.str z,.str "owner"]]) (dR aq z "owner")
theorem fS.one (a:fS rows aq q k1)(b:fS rows aq r k2):q=r/\k1=k2:=by
 cases a with
 |same h=>
  cases b with
  |same _=>exact⟨rfl,rfl⟩
  |yv z _ h2 h3=>
   rcases h with h|⟨p,L,e⟩
   .exact absurd h h3
   .exact absurd e (h2 p L)
 |yv z g h2 h3=>
  cases b with
  |same h=>
   rcases h with h|⟨p,L,e⟩
   .exact absurd h h3
   .exact absurd e (h2 p L)
  |yv y g' _ _=>cases g.one g';exact⟨rfl,rfl⟩
theorem Kn(h:aW A i rows (dP .str aq) (dP .int ents) ch bn iv)(f:dI rows (dP .str aq) (dP .int ents) ch bn iv)(k:cD aq ents ent)(hl:`d<dy)(hr:aq.length<dy):
  ∃A' q r,jR [.at i] A=.ok .bM A'/\fS rows aq q r/\Ext A A' [(i+2,.bh (dP .str r)),(i+1,.lst q)]/\aW A' i q (dP .str r) (dP .int ents) ch bn iv:=by
 let P:Str->Bool:=λz=>aq.lookup z==some ("owner":Str)
 have h1:=h.e_0 (Ext.push (o:=.lst ((((aq.map (·.1)).filter P).map .str))));have e0:Ext A (A++[.lst ((((aq.map (·.1)).filter P).map .str))]) [(i+2,.bh (dP .str aq)),(i+1,.lst rows)]:=(Ext.push.idem h.lg rfl).idem h.rk (gU ∎);have M:∀p∈aq,P p.1=(p.2==("owner":Str)):=λp L=>by show(aq.lookup p.1==some ("owner":Str))=_;rw[jn k.nd p L];rfl
 have t1:aF 5 (A++[Ao.lst (((aq.map (·.1)).filter P).map .str)]) (.at A.length)=.lst (((aq.map (·.1)).filter P).map .str):=by rw[nY lQ,wg]
 show∃A' q r,bx (eR.1 [.sh (.at i),.no,.no] A)=.ok .bM A'/\_;unfold eR;simp![h.p8 f,AS k.sh,map_fst];rw[zK (sF:=[.sh (aF 5 A (.at i))]) P rfl (by simpa using cP hr) rfl (λ_=>rfl) ?hC]
 case hC=>
  intro z b;obtain⟨p,L,rfl⟩:=bQ.mp b;simp only[ev,bw,h.p8 f,ej,jn k.nd p L,cZ,jx,M p L]
 simp![wj qO,aT,aU,h1.p8 f,t1,jE,aP];by_cases I:aq=[]
 .subst I;exact⟨_,_,_,rfl,.same (.inl rfl),e0,h1⟩
 have S:(decide ((0:Int)<(aq.length:Int)))=true:=jb (by have:=sO.mpr I;omega);simp only[S,ev,bw,cI];by_cases ho:∃p∈aq,p.2="owner"
 .have:((((aq.map (·.1)).filter P).length:Int)==0)=false:=by
   obtain⟨p,L,e⟩:=ho;have hm:p.1∈(aq.map (·.1)).filter P:=bP.mpr ⟨fE L,by rw[M p L,e];exact bD _⟩;have:=List.length_pos_of_mem hm;simp only[gG];omega
  simp only[this,ev];exact⟨_,_,_,rfl,.same (.inr ho),e0,h1⟩
 .have HX:∀p∈aq,p.2≠"owner":=λp L e=>ho ⟨p,L,e⟩;have:((aq.map (·.1)).filter P)=[]:=List.filter_eq_nil_iff.mpr λz b=>by
   obtain⟨p,L,rfl⟩:=bQ.mp b;rw[M p L];simpa using HX p L
  obtain⟨z,b,ez⟩:=Ru h1 f k I;obtain⟨A',q1,q2,q3⟩:=Km (aw:=z) (d4:=z) (role:="owner") h1 f hl (by rwa[jE]);rw[map_fst]at ez;have el:Et [.bh (dP .str aq)]=.ok (.lst ((aq.map (·.1)).map .str)):=by
   show(Cq (dP .str aq)).bind (λts=>Rs.ok (Tr.lst ts))=_;rw[Ga λp L=>aV (k.sh p L) ∅,map_fst];rfl
  have e9:((((aq.map (·.1)).filter P).length:Int)==0)=true:=by rw[this];rfl
  simp![e9,h1.p8 f,el,ez,aT,aU,h1.call (m:="give_role") rfl,q1];rw[kP]at q2 q3;exact⟨_,_,_,rfl,.yv z b HX I,Ext.past Ext.push q2,q3⟩
theorem lookup_none:∀{l:List (Str×α)},l.lookup z=none->∀p∈l,p.1≠z
 |q::l,h,p,L=>by
  rw[bT]at h;cases e:(z==q.1)with
  |true=>rw[e]at h;cases h
  |false=>
   rw[e]at h;rcases aZ.mp L with rfl|L
   .intro q;rw[q,bD]at e;cases e
   .exact lookup_none h p L
def uE{l:List (Str×α)}{a:α}(h:l.lookup z=none):dR l z a=l++[(z,a)]:=by
 unfold dR;rw[aA];intro q;obtain⟨p,L,e⟩:=pA.mp q;exact lookup_none h p L (fg e)
def sA{a:α}:∀{l:List (Str×α)},(dR l z a).lookup y=if y=z then some a else l.lookup y:=by
 intro l;unfold dR;split
 .rename_i h
  induction l with
  |nil=>cases h
  |cons p l r=>
   rw[a_,bT,bT];by_cases I:p.1=z
   .rw[av I];by_cases L:y=z
    .subst L;rw[av rfl,I];simp
    .have e1:(y==p.1)=false:=by simpa[I]using L
     rw[aA L];simp only[e1]
     clear r h
     induction l with
     |nil=>rfl
     |cons q l r=>
      rw[a_,bT,bT];by_cases S:q.1=z
      .rw[av S];have M:(y==q.1)=false:=by simpa[S]using L
       simp only[M];exact r
      .rw[aA S];split
       .rfl
       .exact r
   .rw[aA I];have h2:(l.any λp=>decide (p.1=z))=true:=by
     rw[jc]at h;simpa[I]using h
    cases e:(y==p.1)with
    |true=>
     have:y=p.1:=by simpa using e
     rw[aA (by rwa[this])]
    |false=>exact r h2
 .rename_i h;rw[sP];have hn:l.lookup z=none:=by
   cases e:l.lookup z with
   |none=>rfl
   |some b=>
    exfalso;apply h
    clear h
    induction l with
    |nil=>cases e
    |cons p l r=>
     rw[bT]at e;rw[jc];cases M:(z==p.1)with
     |true=>have:z=p.1:=by simpa using M
            simp[this]
     |false=>rw[M]at e;simp[r e]
  by_cases L:y=z
  .subst L;rw[hn,av rfl];simp
  .rw[aA L];have:(y==z)=false:=by simpa using L
   simp[List.lookup,this]
theorem cD.enter {n:Int}{r:Str}(k:cD aq ents ent)(M:aq.lookup aw=none)(S:∀p∈aq,ent p.1<n)(hw:aw.length<=1000)(hr:r∈fq):cD (dR aq aw r) (dR ents aw n) λz=>if z=aw then n else ent z:=by
 rw[uE M];have q:=lookup_none M;refine⟨λp L=>?_,?_,λp L=>?_,λp L=>?_,?_⟩
 .rcases cE.mp L with L|L
  .exact k.rl p L
  .cases cn.mp L;exact hr
 .rw[j9,List.nodup_append];refine⟨k.nd,by simp,λa I b hb=>?_⟩;obtain⟨p,L,rfl⟩:=bQ.mp I;cases(cn.mp hb);exact q p L
 .rcases cE.mp L with L|L
  .exact k.sh p L
  .cases cn.mp L;exact hw
 .rw[sA];rcases cE.mp L with L|L
  .rw[aA (q p L),aA (q p L)];exact k.en p L
  .cases cn.mp L;rw[av rfl,av rfl]
 .rw[j9,List.pairwise_append];refine⟨?_,by simp,λa I b hb=>?_⟩
  .have:(aq.map λp=>if p.1=aw then n else ent p.1)=aq.map λp=>ent p.1:=lD λp L=>aA (q p L);rw[this];exact k.up
  .obtain⟨p,L,rfl⟩:=bQ.mp I;simp at hb;subst hb;rw[aA (q p L)];exact S p L
def cD.leave (k:cD aq ents ent):cD (gj aq aw) ents ent:=by
 have s:(gj aq aw).Sublist aq:=wM;exact⟨λp L=>k.rl p (s.subset L),k.nd.sublist (s.map _),λp L=>k.sh p (s.subset L),λp L=>k.en p (s.subset L),k.up.sublist (s.map _)⟩
def yw{l:List (Str×α)}{a:α}(h:aw∈l.map (·.1)):(dR l aw a).map (·.1)=l.map (·.1):=by
 unfold dR;obtain⟨p,L,e⟩:=bQ.mp h;rw[av (pA.mpr ⟨p,L,jb e⟩),cg];exact lD λq _=>by show(if q.1=aw then(q.1,a)else q).1=q.1;split<;>rfl
def Ni{l:List (Str×α)}{a:α}{p:Str×α}(h:p∈dR l z a):p=(z,a)\/p∈l:=by
 unfold dR at h;split at h
 .obtain⟨q,b,e⟩:=bQ.mp h;split at e
  .rename_i L;left;rw[<-e,L]
  .right;rwa[<-e]
 .rcases cE.mp h with h|h
  .exact .inr h
  .exact .inl (cn.mp h)
theorem cD.role {r:Str}(k:cD aq ents ent)(h:aw∈aq.map (·.1))(S:r∈fq):cD (dR aq aw r) ents ent:=by
 have I:=yw (a:=r) h;have hm:∀p∈dR aq aw r,∃q∈aq,q.1=p.1:=λp L=>by
  have:p.1∈aq.map (·.1):=by rw[<-I];exact fE L
  obtain⟨q,b,e⟩:=bQ.mp this;exact⟨q,b,e⟩
 refine⟨λp L=>?_,by rw[I];exact k.nd,λp L=>?_,λp L=>?_,?_⟩
 .rcases Ni L with rfl|L
  .exact S
  .exact k.rl p L
 .obtain⟨q,b,e⟩:=hm p L;rw[<-e];exact k.sh q b
 .obtain⟨q,b,e⟩:=hm p L;rw[<-e];exact k.en q b
 .have:((dR aq aw r).map λp=>ent p.1)=aq.map λp=>ent p.1:=by
   have M:∀l:List (Str×Str),(l.map λp=>ent p.1)=(l.map (·.1)).map ent:=λl=>by rw[cg];rfl
   rw[M,M,I]
  rw[this];exact k.up
def fS.E6 (o:fS rows aq q b)(k:cD aq ents ent):cD b ents ent:=by
 cases o with
 |same _=>exact k
 |yv z g _ _=>
  obtain⟨j,r,e,_⟩:=g.ex;exact k.role (bQ.mpr ⟨_,eK e,rfl⟩) ∅
def Gi(f:dI rows rk en ch bn iv)(h1:iM b)(h2:iM q)(h3:iM r)(h4:iM I)(M:iM iv'):dI (rows++[.tup us]) b q r I iv':=⟨nt f.lg,h1,h2,h3,h4,M⟩
def Wo:iM (dP .str l):=um λ_ _ _=>r8
def YG:iM (dP .int l):=um λ_ _ _=>EJ
def Ko(h:aW A i rows (dP .str aq) (dP .int ents) (dP .str b) bn iv)(f:dI rows (dP .str aq) (dP .int ents) (dP .str b) bn iv)(hw:aw.length<=1000)(q:aq.lookup aw=some r):
  eE [.at i,.str aw] A=.exc (.str "Known") A:=by
 show bx (dq.1 [.sh (.at i),.sh (.str aw)] A)=_;unfold dq;have s:=EK (z:=aw) (y:=" is in the room") hw ∅;simp![h.p8 f,dS,q,cZ,ja,s]
def Kp(h:aW A i rows (dP .str aq) (dP .int ents) (dP .str b) bn iv)(f:dI rows (dP .str aq) (dP .int ents) (dP .str b) bn iv)(hw:aw.length<=1000)(q:aq.lookup aw=none)(hb:du bn (.inr aw)=some r):
  eE [.at i,.str aw] A=.exc (.str "Barred") A:=by
 show bx (dq.1 [.sh (.at i),.sh (.str aw)] A)=_;unfold dq;have s:=EK (z:=aw) (y:=" is barred") hw ∅;simp![h.p8 f,dS,q,sU,sQ,h.Rn f,hb,ja,s]
def Kq(h:aW A i rows (dP .str aq) (dP .int ents) (dP .str b) bn iv)(f:dI rows (dP .str aq) (dP .int ents) (dP .str b) bn iv)(hw:aw.length<=1000)(q:aq.lookup aw=none)(hb:du bn (.inr aw)=none)(hd:b.lookup ("door":Str)=some ("asked":Str))(r:du iv (.inr aw)=none):
  eE [.at i,.str aw] A=.exc (.str "NotAsked") A:=by
 show bx (dq.1 [.sh (.at i),.sh (.str aw)] A)=_;unfold dq;have s:=EK (z:=aw) (y:=" is not asked") hw ∅;have L:b.lookup (Str.ofString "door")=some (Str.ofString "asked"):=hd;simp![h.p8 f,dS,q,sU,sQ,h.Rn f,hb,h.Rm f,ej,L,cZ,jx,bD,h.Vc f,r,fi,s]
def Nj{aw:Str}(h:aW A i rows (dP .str aq) (dP .int ents) (dP .str I) bn iv)(f:dI rows (dP .str aq) (dP .int ents) (dP .str I) bn iv)(k:cD aq ents ent)(hV:∀p∈aq,ent p.1<`d+1)(hl:`d+1<dy)(ZZ:aq.length+1<dy)(he:ents.length<dy)(hw:aw.length<=1000)
  (M:aq.lookup aw=none) (hb:du bn (.inr aw)=none) (hd:I.lookup ("door":Str)=some d) (b:d≠"asked"\/(du iv (.inr aw)).isSome=true):
  ∃A' q r,eE [.at i,.str aw] A=.ok .bM A'/\fS (rows++[fw rows aw "enter" []]) (dR aq aw "guest") q r/\Ext A A' ([(i+2,.bh (dP .str r)),(i+1,.lst q)]++[(i+6,.bh (iu iv (.inr aw))),(i+2,.bh (dP .str (dR aq aw "guest"))),(i+3,.bh (dP .int (dR ents aw (`d+1)))),(i+1,.lst (rows++[fw rows aw "enter" []]))])
   /\aW A' i q (dP .str r) (dP .int (dR ents aw (`d+1))) (dP .str I) bn (iu iv (.inr aw)):=by
 obtain⟨A1,q1,S,L⟩:=Ng (aw:=aw) (c7:="enter") (role:="guest") h f ∎ (by rw[jE];omega) (by rwa[jE]);rw[kP,kP]at S L;have hs:(dR aq aw "guest").length<dy:=by rwa[uE M,di]
 obtain⟨A2,q,r,s1,s2,s3,s4⟩:=Kn L (Gi f Wo YG f.ch f.bn (Hy f.iv)) (k.enter (n:=`d+1) M hV hw ∅) (by rwa[di]) hs;refine⟨A2,q,r,?_,s2,S.trans s3,s4⟩;show bx (dq.1 [.sh (.at i),.sh (.str aw)] A)=_;unfold dq;have Ll:I.lookup (Str.ofString "door")=some d:=hd;have hc:Ed (.ok (d==("asked":Str))) (.ok (!(du iv (.inr aw)).isSome))=.ok false:=by
  rcases b with b|b
  .rw[show(d==("asked":Str))=false by simpa using b];rfl
  .rw[b];cases(d==("asked":Str))<;>rfl
 simp![h.p8 f,dS,M,sU,sQ,h.Rn f,hb,h.Rm f,ej,Ll,cZ,jx,h.Vc f,hc,h.call (m:="let_in") rfl,q1,L.call (m:="see_to_owner") rfl,s1]
def Kr(h:aW A i rows (dP .str aq) (dP .int ents) (dP .str b) bn iv)(f:dI rows (dP .str aq) (dP .int ents) (dP .str b) bn iv)(hw:aw.length<=1000)(q:aq.lookup aw=none):
  gb [.at i,.str aw] A=.exc (.str "NotIn") A:=by
 show bx (f'.1 [.sh (.at i),.sh (.str aw)] A)=_;unfold f';have n:=yu h f hw;rw[dS,q]at n;simp![h.call (m:="need_in") rfl,n,sU,sQ,bR,bO]
def Nk{aw:Str}(h:aW A i rows (dP .str aq) (dP .int ents) (dP .str I) bn iv)(f:dI rows (dP .str aq) (dP .int ents) (dP .str I) bn iv)(k:cD aq ents ent)(hl:`d+1<dy)(S:aq.length<dy)(hw:aw.length<=1000)
  (M:aq.lookup aw=some r):
  ∃A' b q,gb [.at i,.str aw] A=.ok .bM A'/\fS (rows++[fw rows aw "leave" []]) (gj aq aw) b q/\Ext A A' ([(i+2,.bh (dP .str q)),(i+1,.lst b)]++[(i+2,.bh (dP .str (gj aq aw))),(i+1,.lst (rows++[fw rows aw "leave" []]))])
   /\aW A' i b (dP .str q) (dP .int ents) (dP .str I) bn iv:=by
 have w:=l_ (aw:=aw) (c7:="leave") (ps:=[]) h f ∎ ∅ rfl;have h1:=h.vS (Ext.put (o:=.lst (rows++[fw rows aw "leave" []])) h.lg);have h2:=h1.M0 (Ext.put (o:=.bh (dP .str (gj aq aw))) h1.rk);obtain⟨L,b,q,s1,s2,s3,s4⟩:=Kn h2 (Gi f Wo YG f.ch f.bn f.iv) (k.leave (aw:=aw)) (by rwa[di]) (lF (gF ..) S);refine⟨L,b,q,?_,s2,((Ext.put h.lg).trans (Ext.put h1.rk)).trans s3,s4⟩;show bx (f'.1 [.sh (.at i),.sh (.str aw)] A)=_;unfold f';have n:=yu h f hw;rw[dS,M]at n;have ef:∀A,mH (.ok (.tup [])) A=.ok (.tup []) A:=λA=>rfl;have p:=AR (z:=aw) (v:=.str r) h1.rk (by rw[dS,M];rfl);rw[we]at p;simp![h.call (m:="need_in") rfl,n,cZ,ja,bo,h.call (m:="write_row") rfl,ef,w,h1.MY,AQ h1.rk,p,h2.call (m:="see_to_owner") rfl,s1]
def Nl(h:bN A aB b8)(hw:aw.length<=1000):gW [.at 0,.tup [.str aw]] A=if(aB.lookup aw).isSome=true then .ok .bM A else .exc (.str "NoPerson") A:=by
 show bx (dg.1 [.sh (.at 0),.sh (.tup [.str aw]),.no] A)=_;unfold dg;have s:=EK (z:="nobody is called ") (y:=aw) ∅ hw;simp![EL,aT,aU,h.JZ,dS,nH];cases(aB.lookup aw).isSome with
 |true=>simp only[dG,ev,bw,bo]
 |false=>simp![fi,s,bR,bO]
def Gj(h:bN A aB b8)(b:b8.lookup c6=some j):uw [.at 0,.str c6] A=.ok (.at j) A:=by
 show bx (kh.1 [.sh (.at 0),.sh (.str c6)] A)=_;unfold kh;simp![h.Vd,dS,b,cZ,ja,dG,h.Yv,jh,uq h.pl,ej,jx]
def i8(h:bN A aB b8)(hw:aw.length<=1000)(b:b8.lookup c6=some j):i6 [.at 0,.tup [.str aw],.str c6] A=if(aB.lookup aw).isSome=true then .ok (.at j) A else .exc (.str "NoPerson") A:=by
 show bx (dO.1 [.sh (.at 0),.sh (.tup [.str aw]),.sh (.str c6)] A)=_;unfold dO;simp![h.call (m:="need_people") rfl,Nl h hw];cases(aB.lookup aw).isSome with
 |true=>simp![bo,h.call (m:="place") rfl,Gj h b]
 |false=>simp only[bR,bO,ev]
def Ks{A:Ab}(h:bN A aB b8)(hw:aw.length<=1000)(b:b8.lookup c6=some j)(hF:vx "Room" "enter" eE (.ok (.at j) A) (λA=>.ok [.str aw] A)=eE [.at j,.str aw] A):
  ou [.at 0,.str aw,.str c6] A=if(aB.lookup aw).isSome=true then bx (oF (eE [.at j,.str aw] A) [.sh (.at 0),.sh (.str aw),.sh (.str c6)])else .exc (.str "NoPerson") A:=by
 show bx (ki.1 [.sh (.at 0),.sh (.str aw),.sh (.str c6)] A)=_;unfold ki;have L:∀A,mH (.ok (.tup [.str aw])) A=.ok (.tup [.str aw]) A:=λA=>rfl;simp![h.call (m:="place_for") rfl,L,i8 h hw b];cases(aB.lookup aw).isSome with
 |true=>simp only[bo];rw[hF]
 |false=>simp only[bR,bO];rfl
def Kt{A:Ab}(h:bN A aB b8)(hw:aw.length<=1000)(b:b8.lookup c6=some j)(hF:vx "Room" "leave" gb (.ok (.at j) A) (λA=>.ok [.str aw] A)=gb [.at j,.str aw] A):
  ox [.at 0,.str aw,.str c6] A=if(aB.lookup aw).isSome=true then bx (oF (gb [.at j,.str aw] A) [.sh (.at 0),.sh (.str aw),.sh (.str c6)])else .exc (.str "NoPerson") A:=by
 show bx (kj.1 [.sh (.at 0),.sh (.str aw),.sh (.str c6)] A)=_;unfold kj;have L:∀A,mH (.ok (.tup [.str aw])) A=.ok (.tup [.str aw]) A:=λA=>rfl;simp![h.call (m:="place_for") rfl,L,i8 h hw b];cases(aB.lookup aw).isSome with
 |true=>simp only[bo];rw[hF]
 |false=>simp only[bR,bO];rfl
def oA{ps:List Tr}(h:bc A j ks kb ka rows aY stays aN asked d v p)(f:ee rows)(b:`d<dy)(q:2+ps.length<=dy)(r:jy ps=true):
  Bg [.at j,.str aw,.tup ps] A=.ok (.int (`d+1)) (A.set (j+1) (.lst (rows++[.tup (.int (`d+1):: .str aw::ps)]))):=by
 show bx (wo.1 [.sh (.at j),.sh (.str aw),.sh (.tup ps)] A)=_;unfold wo;have h1:=h.yW (Ext.put (o:=.lst (rows++[.tup (.int (`d+1):: .str aw::ps)])) h.rw);have L:rX (.tup [.int (`d+1),.str aw]) (.tup ps)=.ok (.tup (.int (`d+1):: .str aw::ps)):=av q;have I:∀A,mH (.ok (.tup (.int (`d+1):: .str aw::ps))) A=.ok (.tup (.int (`d+1):: .str aw::ps)) A:=λA=>av (by simpa only[G9,jy,kc]using r);have M:((rows++[Tr.tup (.int (`d+1):: .str aw::ps)]).length:Int)=`d+1:=by simp
 simp![jh,h.Yx,AN h.rw,h.Ro (n:=3) f,L,I,AO h.rw b,h1.Ro (n:=3) (nt f),M]
theorem Ku(h:bc A j ks kb ka rows aY stays aN asked d v p)(f:ee rows)(I:`d<dy)(hs:stays.length<dy)(hr:aY.length<dy)(M:asked.length<=dy):
  ∃A' b f1,f1=(if p="shown"then 1 else(`d+1:Int))/\vd [.at j,.str aw,.str c7] A=.ok .bM A'/\A.length<=b/\Ext A A' [(j,.bh (dP id (AU j ks kb b d v p))),(j+2,.bh (dP .str (dR aY aw "guest"))),(ks,.lst ((stays++[(aw,f1,(`d+1:Int),none)]).map vU)),(j+1,.lst (rows++[fw rows aw c7 []]))]
   /\bc A' j ks kb b (rows++[fw rows aw c7 []]) (dR aY aw "guest") (stays++[(aw,f1,(`d+1:Int),none)]) aN (asked.filter λz=>!(z==aw)) d v p:=by
 have w:=oA (aw:=aw) (ps:=[.str c7]) h f I (by show 2+1<=dy;decide) rfl;have h1:=h.yW (Ext.put (o:=.lst (rows++[fw rows aw c7 []])) h.rw)
 let f1:Int:=if p="shown"then 1 else `d+1
 have h2:=h1.Yz (n5:=stays++[(aw,f1,(`d+1:Int),none)]) (Ext.put h1.st);have h3:=h2.M4 (mD:=dR aY aw "guest") (Ext.put h2.rl);have h4:=h3.YA (x_:=asked.filter λz=>!(z==aw));have L:=((Ext.put (o:=.lst (rows++[fw rows aw c7 []])) h.rw).trans (Ext.put (o:=.lst ((stays++[(aw,f1,(`d+1:Int),none)]).map vU)) h1.st)).trans (Ext.put (o:=.bh (dP .str (dR aY aw "guest"))) h2.rl);refine⟨_,_,f1,rfl,?_,L.le,L.cons (Ext.past Ext.push (Ext.put (Ext.push.same h3.o rfl))),h4⟩;show bx (qU.1 [.sh (.at j),.sh (.str aw),.sh (.str c7),.no,.no] A)=_;unfold qU;have S:∀A,mH (.ok (.tup [.str c7])) A=.ok (.tup [.str c7]) A:=λA=>rfl;have eg:∀A,mH (.ok (.tup [.str aw,.int f1,.int (`d+1),.bM])) A=.ok (.tup [.str aw,.int f1,.int (`d+1),.bM]) A:=λA=>rfl;have ei:LW (.ok (p==("shown":Str))) (.ok (.int 1)) (.ok (.int (`d+1)))=.ok (.int f1):=by
  show(if(p==("shown":Str))then _ else _)=_;by_cases q:p="shown"
  .subst q;rfl
  .rw[show(p==("shown":Str))=false by simpa using q];show Rs.ok _=_;congr 2;exact(aA q).symm
 have ep:=mC (z:=aw) (t:=.str "guest") (Y:=[.sh (.at j),.sh (.str aw),.sh (.str c7),.sh (.int (`d+1)),.sh (.int f1)]) h2.rl (by rwa[jE]);rw[kP]at ep;have r:=AO (t:=.tup [.str aw,.int f1,.int (`d+1),.bM]) h1.st (by rwa[aP]);rw[show stays.map vU++[.tup [.str aw,.int f1,.int (`d+1),.bM]]=(stays++[(aw,f1,(`d+1:Int),none)]).map vU by rw[j9];rfl]at r;simp![S,w,aT,aU,h1.a_p (n:=4),ei,jh,h1.Yy,AN h1.st,eg,r,jD,h2.M3,ep,EL,h3.Yw (n:=3)];rw[zK (sF:=[.sh (.str aw)]) (λz=>!(z==aw)) rfl M rfl (λ_=>rfl) ?hC]
 case hC=>intro z hz;simp only[ev,M5]
 simp![wj qO,jD,h3.YC]
noncomputable def g9(aw:Str)(n:Int)(s:o4):o4:=if s.1=aw/\s.2.2.2=none then(s.1,s.2.1,s.2.2.1,some n)else s
def Gk(h:bc A j ks kb ka rows aY stays aN asked d v p)(hs:stays.length<=dy)(hr:aY.lookup aw=some r):
  ∃A' I,yr [.at j,.str aw,.int n] A=.ok .bM A'/\A.length<=I/\Ext A A' [(j,.bh (dP id (AU j I kb ka d v p))),(j+2,.bh (dP .str (gj aY aw)))]
   /\bc A' j I kb ka rows (gj aY aw) (stays.map (g9 aw n)) aN asked d v p:=by
 have h1:=h.M4 (mD:=gj aY aw) (Ext.put h.rl);have h2:=h1.YB (n5:=stays.map (g9 aw n));have S:=Ext.put (o:=.bh (dP .str (gj aY aw))) h.rl;refine⟨_,_,?_,S.le,S.cons (Ext.past Ext.push (Ext.put (Ext.push.same h1.o rfl))),h2⟩;show bx (uB.1 [.sh (.at j),.sh (.str aw),.sh (.int n)] A)=_;unfold uB;have pp:=AR (z:=aw) (v:=.str r) h.rl (by rw[dS,hr];rfl);rw[we]at pp;simp![jh,h.M3,AQ h.rl,pp,h1.Vf (n:=3),EL];rw[dk (sF:=[.sh (.str aw),.sh (.int n)]) (λ_=>true) vU (λs=>vU (g9 aw n s)) rfl hs rfl (λ_ _=>rfl) ?hF]
 case hF=>
  intro s _ _;obtain⟨a,b,c,e⟩:=s;have L:fU (vU (a,b,c,e)) (.int 0)=.ok (.str a):=rfl;have i3:fU (vU (a,b,c,e)) (.int 3)=.ok (EM e):=rfl;have is:nW (.ok (vU (a,b,c,e))) (.ok none) (Aq (.ok (.int 3)))=.ok (.tup [.str a,.int b,.int c]):=rfl;have ia:rX (.tup [.str a,.int b,.int c]) (.tup [.int n])=.ok (.tup [.str a,.int b,.int c,.int n]):=rfl;cases e with
  |none=>
   have M:Md (EM none) .bM=.ok (.bl true):=rfl;by_cases q:a=aw
   .subst q;simp only[ev,bw,L,i3,is,ia,M,bD,g9,and_self,bo]
    rfl
   .have:(a==aw)=false:=by simpa using q
    simp only[ev,bw,L,this,g9,q,false_and,bO]
  |some m=>
   have M:Md (EM (some m)) .bM=.ok (.bl false):=rfl;simp only[ev,bw,L,i3,M,g9,reduceCtorEq,and_false,bO];cases(a==aw)<;>rfl
 rw[show stays.filter (λ_=>true)=stays from lE.mpr λ_ _=>rfl,show(stays.map λs=>vU (g9 aw n s))=(stays.map (g9 aw n)).map vU by rw[cg];rfl];simp![wj ya,jD,h1.YD]
theorem Kv(b:fU T (.str "roles")=.ok (.bh (dP .str aY)))(q:aY.lookup aw=some r)(h4:r∈fq):De [T,.str aw]=.ok (.int (lvl r)):=by
 show dh (uz.1 [.sh T,.sh (.str aw)])=_;unfold uz;have L:∀X:Rs Tr,(if([.str "guest",.str "speaker",.str "keeper",.str "owner"]:List Tr).length<=dy then X else .bad)=X:=λX=>av (by show 4<=dy;decide);have I:yU [.str "guest",.str "speaker",.str "keeper",.str "owner"] (.str r)=.ok (.int (lvl r)):=by
  have:r="guest"\/r="speaker"\/r="keeper"\/r="owner":=by simpa using h4
  rcases this with rfl|rfl|rfl|rfl<;>rfl
 simp only[ev,bw,b,dS,q,cZ,ja,L,ej,jx,I]
noncomputable def oU(stays:List o4):List Str:=(stays.filter λs=>s.2.2.2.isNone).map (·.1)
theorem uF{Q:α->Bool}{x:α}:∀{l r:List α},l.filter Q=x::r->∃a:Nat,l[a]?=some x/\Q x=true/\∀(b:Nat) (y:α),b<a->l[b]?=some y->Q y=false
 |y::l,r,h=>by
  cases e:Q y with
  |true=>
   rw[jW e]at h;cases h;exact⟨0,rfl,e,λb y hb=>absurd hb (Nat.not_lt_zero _)⟩
  |false=>
   rw[i_ (by rw[e];exact hX)]at h;obtain⟨a,h1,h2,h3⟩:=uF h;refine⟨a+1,h1,h2,λb z hb L=>?_⟩;cases b with
   |zero=>cases L;exact e
   |succ b=>exact h3 b z (Nat.lt_of_succ_lt_succ hb) L
def ix0{t:Tr}:fU (.lst (t::rows)) (.int 0)=.ok t:=by
 show jx (qZ (t::rows) 0)=_;have:K' (t::rows).length 0=some 0:=by unfold K';simp
 unfold qZ;rw[this]
 rfl
theorem uG(h:bc A j ks kb ka rows aY stays aN asked d v p)(f:ee rows)(k:cD aY ents ent)(ho:oU stays=aY.map (·.1))(hl:`d<dy)(hs:stays.length<=dy)(hr:aY.length<dy):
  ∃A' bX mD,kx [.at j] A=.ok .bM A'/\fS rows aY bX mD/\Ext A A' [(j+1,.lst bX),(j+2,.bh (dP .str mD))]/\bc A' j ks kb ka bX mD stays aN asked d v p:=by
 show∃A' bX mD,bx (qV.1 [.sh (.at j),.no,.no] A)=.ok .bM A'/\_;unfold qV;have x0:Ext A A [(j+1,.lst rows),(j+2,.bh (dP .str aY))]:=(Ext.refl.idem h.rl rfl).idem h.rw (gU ∎);have S:=h.Ve (n:=3);simp![S,Rp];by_cases jM:aY=[]
 .subst jM;exact⟨_,_,_,rfl,.same (.inl rfl),x0,h⟩
 have he:aY.isEmpty=false:=by cases aY<;>first|exact absurd rfl jM|rfl
 simp only[he,fi,dG,ev,AS k.sh,map_fst];rw[dk (sF:=[.sh (aF 5 A (.at j))]) (λ_=>true) (λp=>.str p.1) (λp=>.str p.2) (xs:=aY) (by rw[cg];rfl) (cP hr) rfl (λ_ _=>rfl) ?hF]
 case hF=>intro q L _;simp only[ev,bw,S,ej,jn k.nd q L,cZ,jx]
 rw[show aY.filter (λ_=>true)=aY from lE.mpr λ_ _=>rfl,show(aY.map λp=>Tr.str p.2)=(aY.map (·.2)).map .str by rw[cg];rfl];simp![M6];by_cases hw:∃p∈aY,p.2="owner"
 .have:(aY.map (·.2)).contains (Str.ofString "owner")=true:=by
   obtain⟨q,L,e⟩:=hw;exact dz.mpr (bQ.mpr ⟨q,L,e⟩)
  simp only[this,ev];exact⟨_,_,_,rfl,.same (.inr hw),x0,h⟩
 have HX:∀p∈aY,p.2≠"owner":=λp hp e=>hw ⟨p,hp,e⟩;have hc:(aY.map (·.2)).contains (Str.ofString "owner")=false:=by
  cases e:(aY.map (·.2)).contains (Str.ofString "owner")with
  |false=>rfl
  |true=>
   obtain⟨q,L,e⟩:=bQ.mp (dz.mp e);exact absurd e (HX q L)
 simp![hc,S,AS k.sh,map_fst];rw[dk (sF:=[.sh (aF 5 A (.at j))]) (λ_=>true) (λp=>.str p.1) (λp=>.int (lvl p.2)) (xs:=aY) (by rw[cg];rfl) (cP hr) rfl (λ_ _=>rfl) ?hF]
 case hF=>intro q L _;simp only[ev,bw,Kv S (jn k.nd q L) (k.rl q L)]
 rw[show aY.filter (λ_=>true)=aY from lE.mpr λ_ _=>rfl];have Z0:=max_map (f:=λq:Str×Str=>lvl q.2) jM;obtain⟨m1,m2⟩:=EN (ns:=aY.map λq=>lvl q.2) (by rw[aP];exact sO.mpr jM);generalize rH (aY.map λq=>lvl q.2)=most at Z0 m1 m2;simp![Z0,aT,aU,h.Vf (n:=3),EL]
 let Q:Str->Bool:=λz=>match aY.lookup z with|some r=>lvl r==most|none=>false
 have hQ:∀q∈aY,Q q.1=(lvl q.2==most):=λq L=>by show(match aY.lookup q.1 with|some r=>lvl r==most|none=>false)=_;rw[jn k.nd q L]
 rw[dk (sF:=[.sh (.int most),.sh (aF 5 A (.at j))]) (λs:o4=>s.2.2.2.isNone&&Q s.1) vU (λs=>.str s.1) rfl hs rfl ?hC ?hF]
 case hC=>
  intro s hs;obtain⟨a,b,c,e⟩:=s;have i0:fU (vU (a,b,c,e)) (.int 0)=.ok (.str a):=rfl;have i3:fU (vU (a,b,c,e)) (.int 3)=.ok (EM e):=rfl;cases e with
  |some m=>
   have ie:Md (EM (some m)) .bM=.ok (.bl false):=rfl;simp only[ev,bw,i3,ie,wU,mU]
  |none=>
   have ie:Md (EM none) .bM=.ok (.bl true):=rfl;have hm:a∈oU stays:=bQ.mpr ⟨_,bP.mpr ⟨hs,rfl⟩,rfl⟩;rw[ho]at hm;obtain⟨q,L,e⟩:=bQ.mp hm;subst e;simp only[ev,bw,i0,i3,ie,Kv S (jn k.nd q L) (k.rl q L),Option.isNone_none,kc,hQ q L]
 case hF=>intro s _ _;obtain⟨a,b,c,e⟩:=s;rfl
 have ht:(stays.filter λs:o4=>s.2.2.2.isNone&&Q s.1).map (λs=>Tr.str s.1)=((aY.filter λq=>lvl q.2==most).map (·.1)).map .str:=by
  rw[show(λs:o4=>Tr.str s.1)=Tr.str∘(·.1)from rfl,<-cg];congr 1;have e1:(stays.filter λs:o4=>s.2.2.2.isNone&&Q s.1)=(stays.filter λs=>s.2.2.2.isNone).filter λs=>Q s.1:=by
   rw[ph];congr 1;funext s;exact Bool.and_comm ..
  have e2:((stays.filter λs=>s.2.2.2.isNone).filter λs=>Q s.1).map (·.1)=(oU stays).filter Q:=by unfold oU;rw[pC];rfl
  rw[e1,e2,ho,pC];congr 1;exact nJ λq L=>hQ q L
 rw[ht];obtain⟨q0,hq0,e0⟩:=bQ.mp m1;have hfe:(aY.filter λq=>lvl q.2==most)≠[]:=List.ne_nil_of_mem (bP.mpr ⟨hq0,by simpa using e0⟩);obtain⟨⟨z,I⟩,M,Z1⟩:=List.exists_cons_of_ne_nil hfe;obtain⟨a,a1,a2,a3⟩:=uF Z1;have hz:HL aY z:=⟨a,I,a1,λq L=>by
  have:=m2 _ (fE L);have e:lvl I=most:=by simpa using a2
  rwa[e],λb q hb L=>by
  have h1:=m2 _ (fE (f:=λq:Str×Str=>lvl q.2) (eK L));have h2:¬lvl q.2=most:=by simpa using a3 b q hb L
  have e:lvl I=most:=by simpa using a2
  omega⟩
 rw[Z1];have h1:=h.ext (Ext.push (o:=.lst ((((z,I)::M).map (·.1)).map .str))) λ_ _=>rfl;have h2:=h1.M4 (mD:=dR aY z "owner") (Ext.put h1.rl);have t1:aF 5 (A++[Ao.lst ((((z,I)::M).map (·.1)).map .str)]) (.at A.length)=.lst ((((z,I)::M).map (·.1)).map .str):=by rw[nY lQ,wg]
 have t2:aF 5 ((A++[Ao.lst ((((z,I)::M).map (·.1)).map .str)]).set (j+2) (.bh (dP .str (dR aY z "owner")))) (.at A.length)=.lst ((((z,I)::M).map (·.1)).map .str):=by
  rw[nY (((Ext.put h1.rl).same lQ (gU (by have:=gB h.rl;omega)))),wg]
 have i0:fU (.lst ((((z,I)::M).map (·.1)).map .str)) (.int 0)=.ok (.str z):=ix0;have ep:=mC (z:=z) (t:=.str "owner") (Y:=[.sh (.at j),.sh (.int most),.sh (.at A.length)]) h1.rl (by rwa[jE]);rw[kP]at ep;have w:=oA (aw:=z) (ps:=[.str "role",.str z,.str "owner"]) h2 f hl (by show 2+3<=dy;decide) rfl;have ef:∀A,mH (.ok (.tup [.str "role",.str z,.str "owner"])) A=.ok (.tup [.str "role",.str z,.str "owner"]) A:=λA=>rfl;simp![wj qO,aT,aU,jD,jh,h1.M3,t1,i0,ep,t2,ef,w];exact⟨_,_,_,rfl,.yv z hz HX jM,(Ext.past Ext.push (Ext.put h1.rl)).cons (Ext.put h2.rw),h2.yW (Ext.put h2.rw)⟩
theorem YH{k:Nat}:∀{pins:List (Nat×Ao)},k∉pins.map (·.1)->pins.lookup k=none
 |[],_=>rfl
 |p::pins,h=>by
  rw[a_,aZ,not_or]at h;rw[bT];have:(k==p.1)=false:=by simpa using h.1
  rw[this];exact YH h.2
def gg(A A':Ab)(S:List Nat):Prop:=∃pins,Ext A A' pins/\∀k∈pins.map (·.1),k∈S
theorem gg.push {o:Ao}:gg A (A++[o]) S:=⟨[],Ext.push,λk h=>nomatch h⟩
theorem gg.put {A:Ab}{S:List Nat}{k:Nat}(h:A[k]?=some b)(m:k∈S):gg A (A.set k o) S:=⟨_,Ext.put h,λq L=>by cases cn.mp L;exact m⟩
def gg.of {S:List Nat}{pins:List (Nat×Ao)}(x:Ext A A' pins)(h:∀k∈pins.map (·.1),k∈S):gg A A' S:=⟨pins,x,h⟩
theorem gg.trans (a:gg A A' S)(b:gg A' B S):gg A B S:=by
 obtain⟨pins,x,p⟩:=a;obtain⟨V,y,q⟩:=b;refine⟨_,x.trans y,λk L=>?_⟩;rw[j9]at L;rcases cE.mp L with h|h
 .exact q k h
 .exact p k h
def gg.sub {S T:List Nat}(a:gg A A' S)(h:∀k∈S,k∈T):gg A A' T:=by obtain⟨pins,x,p⟩:=a;exact⟨pins,x,λk L=>h k (p k L)⟩
theorem gg.le (a:gg A A' S):A.length<=A'.length:=by obtain⟨pins,x,p⟩:=a;exact x.le
theorem gg.same {k:Nat}(a:gg A A' S)(h:A[k]?=some o)(n:k∉S):A'[k]?=some o:=by obtain⟨pins,x,p⟩:=a;exact x.same h (YH λq=>n (p k q))
def aW.kp {S:List Nat}{rk en ch bn iv:List (Key×Tr)}(h:aW A i rows rk en ch bn iv)(t:gg A A' S)(q:∀k∈S,k<i\/i+6<k):aW A' i rows rk en ch bn iv:=by
 have n:∀k,i<=k->k<=i+6->k∉S:=λk h1 h2 L=>by have:=q k L;omega
 exact⟨t.same h.o (n _ ∎ ∎),t.same h.lg (n _ ∎ ∎),t.same h.rk (n _ ∎ ∎),t.same h.en (n _ ∎ ∎),t.same h.ch (n _ ∎ ∎),t.same h.bn (n _ ∎ ∎),t.same h.iv (n _ ∎ ∎)⟩
def bc.kp {j ks kb ka:Nat}(h:bc A j ks kb ka rows aY stays aN asked d v p)(t:gg A A' S)(q:∀k∈[j,j+1,j+2,ks,kb,ka],k∉S):bc A' j ks kb ka rows aY stays aN asked d v p:=by
 obtain⟨pins,x,p⟩:=t;exact h.ext x λk L=>YH λb=>q k L (p k b)
def bN.kp {S:List Nat}(h:bN A aB b8)(t:gg A A' S)(q:∀k∈S,6<k):bN A' aB b8:=by
 have n:∀k,k<=6->k∉S:=λk h1 L=>by have:=q k L;omega
 exact⟨t.same h.o (n _ ∅),t.same h.ps (n _ ∅),t.same h.pl (n _ ∅)⟩
def eB.kp {S:List Nat}(h:eB A bB c8)(t:gg A A' S)(q:∀k∈S,6<k):eB A' bB c8:=by
 have n:∀k,k<=6->k∉S:=λk h1 L=>by have:=q k L;omega
 exact⟨t.same h.o (n _ ∅),t.same h.pe (n _ ∅),t.same h.rs (n _ ∅)⟩
noncomputable abbrev iS(i:Nat):List Nat:=[i+1,i+2,i+3,i+4,i+5,i+6]
theorem sn{a b:String}(h:(a==b)=false):(Str.ofString a==Str.ofString b)=false:=by
 have:a≠b:=by simpa using h
 refine gG.mpr λe=>this ?_
 rw[Str.ofString_eq_toList,Str.ofString_eq_toList]at e;injection e with e
 have m:∀{l r:List Char},l.map Char.toNat=r.map Char.toNat->l=r:=λ{l}=>by
  induction l with
  |nil=>intro r h;cases r with
   |nil=>rfl
   |cons=>cases h
  |cons x l L=>intro r h;cases r with
   |nil=>cases h
   |cons y r=>
    injection h with h1 h2
    rw[L h2,Char.toNat_inj.mp h1]
 exact String.toList_inj.mp (m (Array.toList_inj.mpr e:(List.map Char.toNat a.toList).toArray.toList=_))
def jN{acc:Str}(h:acc.length<=20000):∃w,uX acc=.ok (.str w):=⟨acc,av (aV h ∅)⟩
def jC{k:Str->Rs Tr}{acc z:Str}{n:Nat}(b:acc.length<=n)(q:z.length<=1000)(r:n<=10000)(h:∀a,a.length<=n+1000->∃w,k a=.ok (.str w)):∃w,gi (.ok (.str z)) k acc=.ok (.str w):=by
 have l:(acc++z).length<=n+1000:=by rw[o9];omega
 obtain⟨w,e⟩:=h _ l;refine⟨w,?_⟩;show(if(acc++z).length<=cH then k (acc++z)else .bad)=_;rw[av (aV l (by show n+1000<=1000000;omega)),e]
def fW:List (Bool×Str×Str)->Tr
 |[]=>.bM
 |(b,_,w)::cs=>if b then .str w else fW cs
noncomputable def fX(A:Ab)(X:Rz Tr):List (Bool×Str×Str)->Rz Tr
 |[]=>X
 |(b,x,_)::cs=>if b then .exc (.str x) A else fX A X cs
theorem E7:∀{cs:List (Bool×Str×Str)},(∀c∈cs,c.1=false)->fX A X cs=X
 |[],_=>rfl
 |c::cs,h=>by
  obtain⟨b,x,w⟩:=c;have:b=false:=h _ (bF ..);subst this;exact E7 (cs:=cs) λc L=>h c (bG _ L)
def wt{b:Bool}{q:Rz Tr}(h1:b=true->q=.exc (.str x) A)(h2:b=false->q=fX A X cs):q=fX A X ((b,x,aw)::cs):=by
 cases b with
 |true=>exact h1 rfl
 |false=>exact h2 rfl
def SJ{k:Nat}(h:rows[k]?=some t):fU (.tup rows) (.int k)=.ok t:=by
 show jx (L2.qZ rows k)=_;rw[lJ h];rfl
def jq:(∀a l,fU (.tup (a::l)) (.int 0)=.ok a)/\(∀a b l,fU (.tup (a::b::l)) (.int 1)=.ok b)/\(∀a b c l,fU (.tup (a::b::c::l)) (.int 2)=.ok c)/\(∀a b c d l,fU (.tup (a::b::c::d::l)) (.int 3)=.ok d)/\(∀a b c d e l,fU (.tup (a::b::c::d::e::l)) (.int 4)=.ok e):=
 ⟨λ_ _=>SJ (k:=0) rfl,λ_ _ _=>SJ (k:=1) rfl,λ_ _ _ _=>SJ (k:=2) rfl,λ_ _ _ _ _=>SJ (k:=3) rfl,λ_ _ _ _ _ _=>SJ (k:=4) rfl⟩
def YI:(∀i j:Int,Xr (.int i) (.int j)=.ok (.bl (decide (i<j))))/\(∀i j:Int,Xs (.int i) (.int j)=.ok (.bl (decide (i<=j))))/\(∀i j:Int,Xu (.int i) (.int j)=.ok (.bl (decide (j<=i))))/\(∀i j:Int,JA [.int i,.int j]=.ok (.int (if j>i then j else i))):=by
 refine⟨?_,?_,?_,?_⟩<;>intros<;>rfl
def gD(aq:List (Str×Str))(z:Str):Int:=match aq.lookup z with
 |some r=>lvl r
 |none=>-1
def Bi(r:Str):0<=lvl r/\lvl r<=3:=by
 unfold lvl;split
 .decide
 split
 .decide
 split<;>decide
def Rv{r:Str}(h:r∈fq):(r==("owner":Str))=decide (lvl r=3)/\(r==("keeper":Str))=decide (lvl r=2):=by
 have:r="guest"\/r="speaker"\/r="keeper"\/r="owner":=by simpa using h
 rcases this with rfl|rfl|rfl|rfl<;>decide
abbrev RA(A:Ab)(i:Nat)(rows:List Tr)(aq:List (Str×Str))(ents:List (Str×Int))(o7:List (Str×Str))(bn iv:List Str):Prop:=aW A i rows (dP .str aq) (dP .int ents) (dP .str o7) (nS bn) (nS iv)
def dW(tu:ee rows):dI rows (dP .str aq) (dP .int ents) (dP .str b) (nS bn) (nS iv):=⟨tu,Wo,YG,Wo,Gd,Gd⟩
def cD.lk (k:cD aq ents ent)(h:aq.lookup aw=some r):r∈fq:=k.rl _ (iV h)
theorem Vi:∀{cs:List (Bool×Str×Str)},bx (oF (fX A (.ok .bM b) cs) Y)=fX A (.ok .bM b) cs
 |[]=>rfl
 |(true,_,_)::cs=>rfl
 |(false,_,_)::cs=>Vi (cs:=cs)
def oV(h:RA A i rows aq ents b bn iv)(tu:ee rows)(hw:aw.length<=1000):kW [.at i,.str aw] A=if(aq.lookup aw).isNone then .exc (.str "NotIn") A else .ok .bM A:=by
 have n:=yu h (dW tu) hw;rw[dS]at n;rw[n];cases aq.lookup aw<;>rfl
theorem Rx(h:RA A i rows aq ents I bn iv)(tu:ee rows)(k:cD aq ents ent)(hw:aw.length<=1000)(q:(aq.lookup aw).isNone=false):kY [.at i,.str aw] A=if decide (gD aq aw<2)then .exc (.str "NoRight") A else .ok .bM A:=by
 obtain⟨r,L⟩:∃r,aq.lookup aw=some r:=by cases e:aq.lookup aw with
  |none=>rw[e]at q;cases q
  |some r=>exact⟨r,rfl⟩
 show bx (fo.1 [.sh (.at i),.sh (.str aw)] A)=_;unfold fo;obtain⟨w,s⟩:=jC (z:=aw) (acc:=Str.empty) (n:=0) (k:=λacc=>gi (.ok (.str " is no keeper or owner")) (λacc=>uX acc) acc) (aK 0) hw ∅ λa b=>jC b ∅ ∅ λa b=>jN ∎;have l2:wm [.str "keeper"]=.ok (.int 2):=kl ∅;simp![h.p8 (dW tu),ej,L,cZ,jx,kl (k.lk L),l2,YI];rw[show gD aq aw=lvl r by unfold gD;rw[L]];cases decide (lvl r<2)with
 |true=>simp only[ev,bw,cI,s,bo]
 |false=>rfl
def uH(q:(aq.lookup z).isNone=false):∃r,aq.lookup z=some r:=by
 cases e:aq.lookup z with
 |none=>rw[e]at q;cases q
 |some r=>exact⟨r,rfl⟩
def lh(h:aq.lookup z=some r):gD aq z=lvl r:=by unfold gD;rw[h]
def vM:(∀A,mH (.ok (.tup [.str a])) A=.ok (.tup [.str a]) A)/\(∀A,mH (.ok (.tup [.str a,.str b])) A=.ok (.tup [.str a,.str b]) A):=⟨λ_=>rfl,λ_=>rfl⟩
abbrev yx(rows:List Tr)(aw c7:Str)(ps:List Tr):Ao:=.lst (rows++[fw rows aw c7 ps])
theorem Vj(h:RA A i rows aq ents S bn iv)(tu:ee rows)(k:cD aq ents ent)(hw:aw.length<=1000)(I:d4.length<=1000)(q:(aq.lookup aw).isNone=false):lU [.at i,.str aw,.str d4] A=if decide (gD aq aw<2)||decide (gD aq aw<=gD aq d4)then .exc (.str "NoRight") A else .ok .bM A:=by
 obtain⟨r,L⟩:=uH q;show bx (fI.1 [.sh (.at i),.sh (.str aw),.sh (.str d4)] A)=_;unfold fI;simp![h.call (m:="need_keeper") rfl,Rx h tu k hw q];cases decide (gD aq aw<2)with
 |true=>rfl
 |false=>
  simp![h.p8 (dW tu),dS,bR,bO,j_];cases hm:aq.lookup d4 with
  |none=>
   rw[show decide (gD aq aw<=gD aq d4)=false from fV (by rw[lh L,show gD aq d4=-1 by unfold gD;rw[hm]];have:=Bi r;omega)]
   rfl
  |some s=>
   obtain⟨w,M⟩:=jC (z:=d4) (acc:=Str.empty) (n:=0) (k:=λacc=>gi (.ok (.str " has no lesser role than ")) (λacc=>gi (.ok (.str aw)) (λacc=>uX acc) acc) acc) (aK 0) I ∅ λa b=>jC b ∅ ∅ λa b=>jC b hw ∅ λa b=>jN ∎;simp only[cZ,ja,ev,bw,ej,hm,L,jx,kl (k.lk L),kl (k.lk hm),YI];rw[lh L,lh hm];cases decide (lvl r<=lvl s)with
   |true=>simp only[ev,bw,cI,M,bo]
   |false=>rfl
def Nm(h:bN A aB b8)(hw:aw.length<=1000)(b:d4.length<=1000):gW [.at 0,.tup [.str aw,.str d4]] A=if((aB.lookup aw).isSome&&(aB.lookup d4).isSome)=true then .ok .bM A else .exc (.str "NoPerson") A:=by
 show bx (dg.1 [.sh (.at 0),.sh (.tup [.str aw,.str d4]),.no] A)=_;unfold dg;have s:=EK (z:="nobody is called ") (y:=aw) ∅ hw;have L:=EK (z:="nobody is called ") (y:=d4) ∅ b;simp![EL,aT,aU,h.JZ,dS,nH];cases(aB.lookup aw).isSome with
 |false=>simp![fi,s,mU,bR,bO]
 |true=>
  simp![dG,aT,aU,h.JZ,dS,nH,kc];cases(aB.lookup d4).isSome with
  |true=>simp only[dG,ev,bw,bo]
  |false=>simp![fi,L,bR,bO]
def vJ(h:bN A aB b8)(hw:aw.length<=1000)(b:d4.length<=1000)(q:b8.lookup c6=some i):i6 [.at 0,.tup [.str aw,.str d4],.str c6] A=if((aB.lookup aw).isSome&&(aB.lookup d4).isSome)=true then .ok (.at i) A else .exc (.str "NoPerson") A:=by
 show bx (dO.1 [.sh (.at 0),.sh (.tup [.str aw,.str d4]),.sh (.str c6)] A)=_;unfold dO;simp![h.call (m:="need_people") rfl,Nm h hw b];cases((aB.lookup aw).isSome&&(aB.lookup d4).isSome)with
 |true=>simp![bo,h.call (m:="place") rfl,Gj h q]
 |false=>simp only[bR,bO,ev]
noncomputable abbrev zS:List (Key×Tr):=[(.inr "arrange",.str "set"),(.inr "take_back",.str "gone")]
def Vk:(∀a b,Aj (.ok [a,b])=.ok (.lst [a,b]))/\AH [.lst [.tup [.str "arrange",.str "set"],.tup [.str "take_back",.str "gone"]]]=.ok (.bh zS)/\(∀A,uS (.ok (.bh zS)) A=.ok (.at A.length) (A++[.bh zS])):=⟨λ_ _=>rfl,rfl,λ_=>rfl⟩
def Vl{A:Ab}:aF 5 (A++[.bh zS]) (.at A.length)=.bh zS:=by rw[iy lQ];rfl
def Ry{a b:Tr}{Y:bS}{c e:Cell}:Mw (gT [2,3]) (.ok (.tup [a,b]) A) (c::e:: .no:: .no::Y)=.ok (.nx (c::e:: .sh a:: .sh b::Y)) A:=rfl
noncomputable abbrev yZ(d v p:Str):List (Str×Str):=[("door",d),("voice",v),("past",p)]
abbrev jS(j ks kb ka:Nat):List Nat:=[j,j+1,j+2,ks,kb,ka]
def me:TZ (.ok (.bl a)) b=if a then b else .ok (.bl false):=by cases a<;>rfl
def Bj:zl (.str w) (.tup [.str a,.str b])=.ok (.bl (w==a||w==b)):=by
 show Rs.ok (Tr.bl ((a==w)||((b==w)||false)))=_;rw[pE,mV (a:=a),mV (a:=b)]
def Kw(aw z w:Str):Bool:=z==aw&&(w==("found":Str)||w==("enter":Str))
def SK(aw z w a:Str):Bool:=if w==("leave":Str)then z==aw else(w==("out":Str)||w==("bar":Str))&&a==aw
def OE(w a:Str):Bool:=w==("set":Str)&&a==("past":Str)
def Nn:yj [.tup (.int n:: .str z:: .str w::rows),.str aw]=.ok (.bl (Kw aw z w)):=by
 unfold Kw;show dh (oj.1 [.sh (.tup (.int n:: .str z:: .str w::rows)),.sh (.str aw)])=_;unfold oj;simp only[ev,bw,jq,me,Bj];cases z==aw<;>rfl
def RB{w:Str}{ps:List Tr}(h:(w==("out":Str)||w==("bar":Str))=true->∃r,ps=.str a::r):yk [.tup (.int n:: .str z:: .str w::ps),.str aw]=.ok (.bl (SK aw z w a)):=by
 unfold SK;show dh (om.1 [.sh (.tup (.int n:: .str z:: .str w::ps)),.sh (.str aw)])=_;unfold om;simp only[ev,bw,jq,me,Bj];cases w==("leave":Str)with
 |true=>simp only[ev,bo]
 |false=>
  cases e:(w==("out":Str)||w==("bar":Str))with
  |false=>simp only[ev,bw,jq,me,Bj,e,bR,bO,mU]
  |true=>
   obtain⟨r,rfl⟩:=h e;simp only[ev,bw,jq,me,Bj,e,bR,bO,bo,kc]
def RC{w:Str}{ps:List Tr}(h:w="set"->∃r,ps=.str a::r):vC [.tup (.int n:: .str z:: .str w::ps)]=.ok (.bl (OE w a)):=by
 unfold OE;show dh (lW.1 [.sh (.tup (.int n:: .str z:: .str w::ps))])=_;unfold lW;simp only[ev,bw,jq,me];cases e:w==("set":Str)with
 |false=>simp only[ev,bR,bO,mU]
 |true=>
  obtain⟨r,rfl⟩:=h (by simpa using e);simp only[ev,bw,jq,bo,kc]
def p0:List Tr->Str
 |.str a::_=>a
 |_=>Str.empty
def p1:List Tr->Str
 |_:: .str a::_=>a
 |_=>Str.empty
def nA(n:Int):List Int:=(List.range (n - 1).toNat).map λk=>1+(k:Nat)
abbrev Sb:=List Int×Bool×Str
def SM(aw:Str)(x:Sb):Tr->Sb
 |.tup (.int n:: .str z:: .str w::ps)=>
  let S:=if Kw aw z w&&x.2.2==("shown":Str)then nA n else x.1
  let i:=Kw aw z w||x.2.1
  (if i then S++[n]else S,i&&!SK aw z w (p0 ps),if OE w (p0 ps)then p1 ps else x.2.2)
 |_=>x
structure RowW(n:Int)(z w:Str)(ps:List Tr):Prop where
 b:0<=n/\n<1000
 o:(w==("out":Str)||w==("bar":Str))=true->∃r,ps=.str (p0 ps)::r
 s:w="set"->∃r,ps=.str (p0 ps):: .str (p1 ps)::r
 g:w="gone"->∃(n:Int) (r:List Tr),ps=.int n::r
def Np{A:Ab}{k:Nat}{S:List Int}{n:Nat}(h:A[k]?=some (.lst (S.map .int))):aF (n+1) A (.at k)=.lst (S.map .int):=by
 rw[nY h,cg];exact cF Tr.lst (lD λi _=>EJ)
theorem Du{Z:Type}{T:xR}{G:bS->Ab->Rz Out}{f:Z->Tr->Z}{P:Tr->Prop}(I:Z->Nat->bS->Ab->Prop)(h:∀x n t Y A,P t->I x (n+1) Y A->∃M,T t Y=.ok M/\∃b q,G M A=.ok (.nx b) q/\I (f x t) n b q):
  ∀(ts:List Tr) (x:Z) (Y:bS) (A:Ab),(∀t∈ts,P t)->I x ts.length Y A->∃r A',mv T G ts Y A=.ok (.nx r) A'/\I (ts.foldl f x) 0 r A'
 |[],x,Y,A,_,hi=>⟨Y,A,rfl,hi⟩
 |t::ts,x,Y,A,L,hi=>by
  obtain⟨M,S,b,q,e2,h2⟩:=h x ts.length t Y A (L t (bF ..)) hi;obtain⟨r,A',e3,h3⟩:=Du I h ts (f x t) b q (λu hu=>L u (bG _ hu)) h2;refine⟨r,A',?_,h3⟩;simp only[EL,S,cI,bw,e2];exact e3
def Kx{T:xR}{G:bS->Ab->Rz Out}{f:α->Tr->α}{P:Tr->Prop}{x:α}{Y:bS}{A:Ab}{r:Rs Tr}(I:α->Nat->bS->Ab->Prop)(hi:I x `d Y A)(hp:∀t∈rows,P t)(h:∀x n t Y A,P t->I x (n+1) Y A->∃b,T t Y=.ok b/\∃M S,G b A=.ok (.nx M) S/\I (f x t) n M S)
  (hK:∀Y A,I (rows.foldl f x) 0 Y A->nk (K Y A)=r):nk (Av (mv T G rows Y A) K)=r:=by
 obtain⟨L,A',e,q⟩:=Du I h rows x Y A hp hi;rw[e];exact hK L A' q
def Z2(rows:List Tr)(aw:Str)(x:Sb)(m:Nat)(Y:bS)(A:Ab):Prop:=m<=50000/\x.1.length+m<=150000/\∃k c,Y=[.sh (.lst rows),.sh (.str aw),.sh (.at k),.sh (.bl x.2.1),.sh (.str x.2.2),c]/\A[k]?=some (.lst (x.1.map .int))
def RD(t:Tr):Prop:=∃n z w ps,t=.tup (.int n:: .str z:: .str w::ps)/\RowW n z w ps
def sb(aw:Str)(rows:List Tr):Sb:=rows.foldl (SM aw) ([],false,"shown")
theorem wu:∀{S:List Int},jy (S.map .int)=true/\ff (S.map .int)=true
 |[]=>⟨rfl,rfl⟩
 |_::S=>wu (S:=S)
def E8{r:Rz Out}{Φ M:bS->Ab->Prop}(h1:∃b q,r=.ok (.nx b) q/\Φ b q)(h2:∀b q,Φ b q->∃I A2,K b q=.ok (.nx I) A2/\M I A2):∃I A2,Av r K=.ok (.nx I) A2/\M I A2:=by
 obtain⟨b,q,e,h⟩:=h1;rw[e];exact h2 _ _ h
def Nq{n:Int}(h:0<=n/\n<100000):uS (Aj (IW (.ok [.int 1,.int n]))) A=.ok (.at A.length) (A++[.lst ((nA n).map .int)]):=by
 have e:IW (.ok [.int 1,.int n])=.ok ((nA n).map .int):=by
  show(if _ then Rs.ok (oY 1 (n - 1).toNat)else .bad)=_;rw[av ∎];unfold oY nA;rw[cg];rfl
 have l:(nA n).length<100000:=by unfold nA;rw[aP,pq];omega
 rw[e];show uS (if((nA n).map Tr.int).length<=dy then Rs.ok (Tr.lst ((nA n).map .int))else .bad) A=_;rw[av (by rw[aP];exact cP (pG l ∅))];show(if jy ((nA n).map .int)=true then Rz.ok (Tr.at A.length) (A++[Ao.lst ((nA n).map .int)])else .bad)=_;rw[av wu.1]
theorem ve:∀{rows:List Tr},(∀t∈rows,∃us,t=.tup us/\us.all rb=true)->ff rows=true
 |[],_=>rfl
 |t::rows,h=>by
  obtain⟨us,rfl,L⟩:=h t (bF ..);show(ff us&&ff rows)=true;rw[ve λu L=>h u (bG _ L),pF]
  clear h
  induction us with
  |nil=>rfl
  |cons u us b=>
   rw[jd,bg]at L;show(lq u&&ff us)=true;rw[b L.2,pF];cases u<;>first|rfl|cases L.1
theorem E9(hr:∀t∈rows,RD t)(hf:∀t∈rows,∃us,t=.tup us/\us.all rb=true)(hl:`d<=50000):u7 [.lst rows,.str aw]=.ok (.tup ((sb aw rows).1.map .int)):=by
 unfold u7 vQ;have na:ff [.lst rows,.str aw]=true:=by show(ff rows&&true)=true;rw[ve hf];rfl
 rw[av ⟨rfl,na⟩];show nk (qS.1 [.sh (.lst rows),.sh (.str aw),.no,.no,.no,.no] [])=_;unfold qS;have l0:Aj (.ok [])=.ok (.lst []):=rfl;have n0:uS (.ok (.lst [])) ([]:Ab)=.ok (.at 0) [.lst []]:=rfl;have I:∀b,nO (.bl b)=.ok b:=λ_=>rfl;simp![EL,l0,n0,aT,aU];refine Kx (f:=SM aw) (x:=([],false,"shown")) (Z2 rows aw) ⟨hl,by show 0+_<=_;omega,0,.no,rfl,rfl⟩ hr (λx m t Y A ht M=>?_) λY A M=>?_
 .obtain⟨h1,h2,k,c,rfl,L⟩:=M;obtain⟨n,z,w,ps,rfl,R⟩:=ht;refine⟨_,rfl,?_⟩;have g:=RB (n:=n) (z:=z) (aw:=aw) R.o;have q:=RC (n:=n) (z:=z) (w:=w) (a:=p0 ps) (ps:=ps) λe=>by obtain⟨r,e⟩:=R.s e;exact⟨_,e⟩
  simp![EL,jq,aT,aU,Nn,I];have nr:=Nq (A:=A) (n:=n) (by have:=R.b;omega);have lr:(nA n).length+m<150000:=by unfold nA;have:=R.b;rw[aP,pq];omega
  refine E8 (Φ:=λY A=>∃k,Y=[.sh (.lst rows),.sh (.str aw),.sh (.at k),.sh (.bl (Kw aw z w||x.2.1)),.sh (.str x.2.2),.sh (.tup (.int n:: .str z:: .str w::ps))]/\A[k]?=some (.lst ((if Kw aw z w&&x.2.2==("shown":Str)then nA n else x.1).map .int))) ?_ ?_
  .cases Kw aw z w with
   |false=>exact⟨_,_,rfl,k,rfl,L⟩
   |true=>
    cases x.2.2==("shown":Str)with
    |false=>exact⟨_,_,rfl,k,rfl,L⟩
    |true=>
     simp only[ev,nr,aT,aU];exact⟨_,_,rfl,_,rfl,lQ⟩
  have ls:(if Kw aw z w&&x.2.2==("shown":Str)then nA n else x.1).length+m<150000:=by split<;>omega
  show∀hW A1,_;generalize hS:(if Kw aw z w&&x.2.2==("shown":Str)then nA n else x.1)=S at ls;generalize hi:(Kw aw z w||x.2.1)=i
  rintro Y A ⟨k,rfl,L⟩
  simp![jq,I];refine E8 (Φ:=λY A=>Y=[.sh (.lst rows),.sh (.str aw),.sh (.at k),.sh (.bl i),.sh (.str x.2.2),.sh (.tup (.int n:: .str z:: .str w::ps))]/\A[k]?=some (.lst ((if i then S++[n]else S).map .int))) ?_ ?_
  .cases i with
   |false=>exact⟨_,_,rfl,rfl,L⟩
   |true=>
    simp only[ev,bw,AN L,AO (t:=.int n) L (by rw[aP];exact dA (lF (Nat.le_add_right _ m) ls) ∅)];refine⟨_,_,rfl,rfl,?_⟩;rw[nC (gB L)];simp only[bo,j9];rfl
  rintro Y A ⟨rfl,L⟩
  simp![jq,g,I];refine E8 (Φ:=λY A=>Y=[.sh (.lst rows),.sh (.str aw),.sh (.at k),.sh (.bl (i&&!SK aw z w (p0 ps))),.sh (.str x.2.2),.sh (.tup (.int n:: .str z:: .str w::ps))]/\A[k]?=some (.lst ((if i then S++[n]else S).map .int))) ?_ ?_
  .cases SK aw z w (p0 ps)with
   |false=>exact⟨_,_,rfl,by rw[fi,pF],L⟩
   |true=>exact⟨_,_,rfl,by rw[dG,sV];rfl,L⟩
  rintro Y A ⟨rfl,L⟩
  simp![jq,q,I];have fin:∀p,p=(if OE w (p0 ps)then p1 ps else x.2.2)->Z2 rows aw (SM aw x (.tup (.int n:: .str z:: .str w::ps))) m [.sh (.lst rows),.sh (.str aw),.sh (.at k),.sh (.bl (i&&!SK aw z w (p0 ps))),.sh (.str p),.sh (.tup (.int n:: .str z:: .str w::ps))] A:=λp e=>by
   subst e hi hS;refine⟨∎,?_,k,_,rfl,L⟩;show(if _ then _ else _:List Int).length+m<=_;split
   .rw[di];show _+1+m<=_;omega
   .omega
  cases e:OE w (p0 ps)with
  |false=>exact⟨_,_,rfl,fin _ (by rw[e];rfl)⟩
  |true=>
   have e':=e;unfold OE at e';rw[bg]at e';obtain⟨r,e2⟩:=R.s (by simpa using e'.1);have i4:fU (.tup (.int n:: .str z:: .str w::ps)) (.int 4)=.ok (.str (p1 ps)):=by rw[e2];exact SJ (k:=4) rfl
   simp only[ev,bw,i4,aT,aU];exact⟨_,_,rfl,fin _ (by rw[e];rfl)⟩
 .obtain⟨h1,h2,k,c,rfl,L⟩:=M;have ft:∀{S:List Int} {A},mH (As [.lst (S.map .int)]) A=.ok (.tup (S.map .int)) A:=λ{S A}=>by show(if jy (S.map .int)=true then _ else _)=_;rw[av wu.1]
  simp![Np L,ft];show(if lq (aF 3 A (.tup _))=true then Rs.ok (aF 3 A (.tup _))else .bad)=_;simp only[cO];exact av wu.2
def tn(t:Tr):Int:=match t with
 |.tup (.int n::_)=>n
 |_=>0
def E_(n:Int):Tr->Bool
 |.tup (_::_:: .str w:: .int m::_)=>w==("gone":Str)&&m==n
 |_=>false
def Std(rows:List Tr)(n:Int)(z:Str):Prop:=(1<=n/\n<=`d)/\(∃k ps,rows[(n - 1).toNat]?=some (.tup (.int k:: .str z:: .str "say"::ps)))/\∀t∈rows,E_ n t=false
inductive DM(rows:List Tr)(l:List (Str×Str))(v:Str):Str->Str->List Tr->List (Str×Str)->Str->Prop
 |found {z:Str}:gD l z<0->z.length<=1000->DM rows l v z "found" [] (dR l z "owner") v
 |enter {z:Str}:gD l z<0->z.length<=1000->DM rows l v z "enter" [] (dR l z "guest") v
 |role {z y r:Str}:(((∀p∈l,p.2≠"owner")/\y=z/\r="owner")\/2<gD l z\/gD l z=2/\(r="guest"\/r="speaker"))->y.length<=1000->r∈fq->DM rows l v z "role" [.str y,.str r] (dR l y r) v
 |leave {z r:Str}:l.lookup z=some r->DM rows l v z "leave" [] (gj l z) v
 |out {z y w:Str}:(w="out"\/w="bar")->1<gD l z->gD l y<gD l z->DM rows l v z w [.str y] (gj l y) v
 |set {z a b:Str}:1<gD l z->(a="voice"->b="all"\/b="some")->DM rows l v z "set" [.str a,.str b] l (if a="voice"then b else v)
 |ask {z y w:Str}:(w="ask"\/w="unbar")->1<gD l z->DM rows l v z w [.str y] l v
 |say {z a:Str} {b:Tr}:(b=.bM\/∃k:Int,b=.int k)->(0<gD l z\/gD l z=0/\v="all")->DM rows l v z "say" [.str a,b] l v
 |lj {z a:Str} {n:Int}:Std rows n z->DM rows l v z "mend" [.int n,.str a] l v
 |gone {z y:Str} {n:Int}:Std rows n y->(y=z\/1<gD l z)->DM rows l v z "gone" [.int n] l v
inductive RF:List Tr->List (Str×Str)->Str->Prop
 |nil:RF [] [] "all"
 |add {rows:List Tr} {l l':List (Str×Str)} {v v' z w:Str} {ps:List Tr}:RF rows l v->DM rows l v z w ps l' v'->RF (rows++[.tup (.int (`d+1):: .str z:: .str w::ps)]) l' v'
structure Seen(rows:List Tr)(aq:List (Str×Str))(v:Str):Prop where
 w:∀t∈rows,RD t
 l:∀aw n,n∈(sb aw rows).1->1<=n/\n<=`d
 f:RF rows aq v
 v:v="all"\/v="some"
def Ky{t:Tr}:sb aw (rows++[t])=SM aw (sb aw rows) t:=by unfold sb;rw[w6];rfl
def Dv{n:Int}:n∈nA b↔1<=n/\n<b:=by
 unfold nA;rw[bQ];constructor
 .rintro ⟨k,L,rfl⟩
  rw[mT]at L;omega
 .rintro ⟨h1,h2⟩
  exact⟨(n - 1).toNat,mT.mpr ∎,∎⟩
theorem DM.row (q:DM rows l v z w ps r I){n:Int}(h:0<=n/\n<1000):RowW n z w ps:=by
 have no:∀{a b:Str} {P:Prop},a=b->(a==b)=false->P:=λe q=>by rw[e,bD]at q;cases q
 cases q with
 |out hw=>exact⟨h,λ_=>⟨[],rfl⟩,λq=>by rcases hw with rfl|rfl<;>exact no q rfl,λq=>by rcases hw with rfl|rfl<;>exact no q rfl⟩
 |ask hw=>exact⟨h,λ_=>⟨[],rfl⟩,λq=>by rcases hw with rfl|rfl<;>exact no q rfl,λq=>by rcases hw with rfl|rfl<;>exact no q rfl⟩
 |set=>exact⟨h,λq=>absurd q ∅,λ_=>⟨[],rfl⟩,λq=>no q rfl⟩
 |gone=>exact⟨h,λq=>absurd q ∅,λq=>no q rfl,λ_=>⟨_,[],rfl⟩⟩
 |_=>exact⟨h,λq=>absurd q ∅,λq=>no q rfl,λq=>no q rfl⟩
theorem Seen.nil:Seen [] [] "all":=⟨λ_ h=>(by cases h),λ_ _ h=>(by cases h),.nil,.inl rfl⟩
theorem Seen.add {l:List (Str×Str)}{v w:Str}(h:Seen rows l v)(I:`d<999)(q:DM rows l v z w ps r v'):Seen (rows++[.tup (.int (`d+1):: .str z:: .str w::ps)]) r v':=by
 have ln:((rows++[Tr.tup (.int (`d+1):: .str z:: .str w::ps)]).length:Int)=`d+1:=by rw[di];rfl
 refine⟨λu L=>?_,λaw n b=>?_,.add h.f q,?_⟩
 .rcases cE.mp L with L|L
  .exact h.w u L
  .rw[cn.mp L];exact⟨_,_,_,_,rfl,q.row ∎⟩
 .rw[Ky]at b;rw[ln];have a:n∈(if Kw aw z w&&(sb aw rows).2.2==("shown":Str)then nA (`d+1)else(sb aw rows).1)->1<=n/\n<=rows.length:=λq=>by
   split at q
   .have:=Dv.mp q;omega
   .exact h.l aw n q
  simp only[SM]at b;split at b
  .rcases cE.mp b with q|q
   .have:=a q;omega
   .have:=cn.mp q;omega
  .have:=a b;omega
 .cases q with
  |set _ hb=>
   split
   .rename_i e;exact hb e
   .exact h.v
  |_=>exact h.v
theorem Kz(m:eB A bB c8)(b:c8.lookup c6=some j)(q:vd [.at j,.str aw,.str "enter"] A=.ok .bM r)(I:kx [.at j] r=.ok .bM A2):cM [.at 4,.tup [.str "enter",.str aw,.str c6]] A=.ok .bM A2:=by
 show bx (gC.1 [.sh (.at 4),.sh (.tup [.str "enter",.str aw,.str c6]),.no,.no,.no] A)=_;unfold gC;have sl:nW (.ok (.tup [.str "enter",.str aw,.str c6])) (.ok none) (Aq (.ok (.int 2)))=.ok (.tup [.str "enter",.str aw]):=rfl;have L:∀A,mH (.ok (.tup [.str "enter",.str aw])) A=.ok (.tup [.str "enter",.str aw]) A:=λA=>rfl;have gt:∀A,Mw (gT [2,3]) (.ok (.tup [.str "enter",.str aw]) A) [.sh (.at 4),.sh (.tup [.str "enter",.str aw,.str c6]),.no,.no,.no]=.ok (.nx [.sh (.at 4),.sh (.tup [.str "enter",.str aw,.str c6]),.sh (.str "enter"),.sh (.str aw),.no]) A:=λA=>rfl;have M:fU (.tup [.str "enter",.str aw,.str c6]) (.int 2)=.ok (.str c6):=rfl;have s1:(Str.ofString "enter"==Str.ofString "come")=false:=∅
 have s2:(Str.ofString "enter"==Str.ofString "found")=false:=∅
 have s3:(Str.ofString "enter"==Str.ofString "say")=false:=∅
 simp![sl,L,gt,s1,s2,s3,M,jh,m.M8,uq m.rs,ej,b,cZ,jx,aT,aU,bD,q,I]
theorem KA{A0:Ab}(m:eB A bB c8)(b:c8.lookup c6=some j)(q:Bg [.at j,.str aw,.tup [.str "leave"]] A=.ok (.int n) A0)(r:yr [.at j,.str aw,.int n] A0=.ok .bM I)(M:kx [.at j] I=.ok .bM A2):cM [.at 4,.tup [.str "leave",.str aw,.str c6]] A=.ok .bM A2:=by
 show bx (gC.1 [.sh (.at 4),.sh (.tup [.str "leave",.str aw,.str c6]),.no,.no,.no] A)=_;unfold gC;have sl:nW (.ok (.tup [.str "leave",.str aw,.str c6])) (.ok none) (Aq (.ok (.int 2)))=.ok (.tup [.str "leave",.str aw]):=rfl;have L:∀A,mH (.ok (.tup [.str "leave",.str aw])) A=.ok (.tup [.str "leave",.str aw]) A:=λA=>rfl;have S:∀A,mH (.ok (.tup [.str "leave"])) A=.ok (.tup [.str "leave"]) A:=λA=>rfl;have gt:∀A,Mw (gT [2,3]) (.ok (.tup [.str "leave",.str aw]) A) [.sh (.at 4),.sh (.tup [.str "leave",.str aw,.str c6]),.no,.no,.no]=.ok (.nx [.sh (.at 4),.sh (.tup [.str "leave",.str aw,.str c6]),.sh (.str "leave"),.sh (.str aw),.no]) A:=λA=>rfl;have i2:fU (.tup [.str "leave",.str aw,.str c6]) (.int 2)=.ok (.str c6):=rfl;have s1:(Str.ofString "leave"==Str.ofString "come")=false:=∅
 have s2:(Str.ofString "leave"==Str.ofString "found")=false:=∅
 have s3:(Str.ofString "leave"==Str.ofString "say")=false:=∅
 have s4:(Str.ofString "leave"==Str.ofString "enter")=false:=∅
 simp![sl,L,S,gt,s1,s2,s3,s4,i2,jh,m.M8,uq m.rs,ej,b,cZ,jx,aT,aU,bD,q,r,M]
def RE:bx (Av (Ha X) G)=X:=by cases X<;>rfl
theorem KC(h:bN A aB b8):de [.at 0,.tup [.str "enter",.str aw,.str c6]] A=ou [.at 0,.str aw,.str c6] A:=by
 show bx (dc.1 [.sh (.at 0),.sh (.tup [.str "enter",.str aw,.str c6]),.no] A)=_;unfold dc;have L:fU (.tup [.str "enter",.str aw,.str c6]) (.int 0)=.ok (.str "enter"):=rfl;have b:fU (.tup [.str "enter",.str aw,.str c6]) (.int 1)=.ok (.str aw):=rfl;have q:fU (.tup [.str "enter",.str aw,.str c6]) (.int 2)=.ok (.str c6):=rfl;have s1:(Str.ofString "enter"==Str.ofString "come")=false:=∅
 have s2:(Str.ofString "enter"==Str.ofString "found")=false:=∅
 simp![L,b,q,s1,s2,aT,aU,bD,h.call (m:="enter") rfl,RE]
theorem KD(h:bN A aB b8):de [.at 0,.tup [.str "leave",.str aw,.str c6]] A=ox [.at 0,.str aw,.str c6] A:=by
 show bx (dc.1 [.sh (.at 0),.sh (.tup [.str "leave",.str aw,.str c6]),.no] A)=_;unfold dc;have L:fU (.tup [.str "leave",.str aw,.str c6]) (.int 0)=.ok (.str "leave"):=rfl;have b:fU (.tup [.str "leave",.str aw,.str c6]) (.int 1)=.ok (.str aw):=rfl;have q:fU (.tup [.str "leave",.str aw,.str c6]) (.int 2)=.ok (.str c6):=rfl;have s1:(Str.ofString "leave"==Str.ofString "come")=false:=∅
 have s2:(Str.ofString "leave"==Str.ofString "found")=false:=∅
 have s3:(Str.ofString "leave"==Str.ofString "enter")=false:=∅
 simp![L,b,q,s1,s2,s3,aT,aU,bD,h.call (m:="leave") rfl,RE]
def RG(q:de [.at 0,.tup ts] A=.ok .bM A1):fQ [.at 0,.tup ts] A=.ok .bM A1:=by
 show bx (jt.1 [.sh (.at 0),.sh (.tup ts),.no,.no,.no] A)=_;unfold jt;have tz:∀o A G,CH 5 4 ["Known","NoPerson","NoRoom","NotIn","NotAsked","Barred","NoRight","NoRow","NoHand","NoLine"] (.ok o A) G=.ok o A:=λ_ _ _=>rfl;have L:Md .bM .bM=.ok (.bl true):=rfl;simp![aT,aU,q,tz,L]
def Nr(q:de [.at 0,.tup ts] A=.exc (.str x) A)(b:(["Known","NoPerson","NoRoom","NotIn","NotAsked","Barred","NoRight","NoRow","NoHand","NoLine"]:List Str).contains x=true)(hw:yq [.zc x]=.ok (.str w)):fQ [.at 0,.tup ts] A=.ok (.str w) (A++[.DJ x]):=by
 show bx (jt.1 [.sh (.at 0),.sh (.tup ts),.no,.no,.no] A)=_;unfold jt;have tz:∀A:Ab,CH 5 4 ["Known","NoPerson","NoRoom","NotIn","NotAsked","Barred","NoRight","NoRow","NoHand","NoLine"] (.exc (.str x) A) (λY A=>G_ 2 (kJ (uM Y 4) A) Y)=.ok (.nx [.no,.no,.sh (.at A.length),.no,.no]) (A++[.DJ x]):=λA=>by
  unfold CH UM;simp only[b,bo]
  rfl
 have t1:aF 5 (A++[Ao.DJ x]) (.at A.length)=.zc x:=by simp only[aF,lQ]
 have L:Md (.zc x) .bM=.ok (.bl false):=rfl;simp![aT,aU,q,tz,t1,L,hw]
def mf(ts:List Tr)(A:Ab):Rz Tr:=(fQ [.at 0,.tup ts] A).bind λu A=>match u with
 |.str _=>.ok (.bl true) A
 |.bM=>(cM [.at 4,.tup ts] A).bind λ_ A=>.ok (.bl true) A
 |.int _=>(cM [.at 4,.tup ts] A).bind λ_ A=>.ok (.bl true) A
 |_=>.bad
def Nt(b:fQ [.at 0,.tup ts] A=.ok (.str w) A1):mf ts A=.ok (.bl true) A1:=by unfold mf;rw[b];rfl
def Nu(q:fQ [.at 0,.tup ts] A=.ok .bM b)(hd:cM [.at 4,.tup ts] b=.ok u A2):mf ts A=.ok (.bl true) A2:=by
 unfold mf;rw[q];show(cM [.at 4,.tup ts] b).bind (λ_ A=>Rz.ok (Tr.bl true) A)=_;rw[hd];rfl
def Nv(q:fQ [.at 0,.tup ts] A=.ok (.int n) b)(hd:cM [.at 4,.tup ts] b=.ok u A2):mf ts A=.ok (.bl true) A2:=by
 unfold mf;rw[q];show(cM [.at 4,.tup ts] b).bind (λ_ A=>Rz.ok (Tr.bl true) A)=_;rw[hd];rfl
def KG(h:mf ts A=.ok (.bl true) A1):(∃w,fQ [.at 0,.tup ts] A=.ok (.str w) A1)\/∃u b v,(u=.bM\/∃n,u=.int n)/\fQ [.at 0,.tup ts] A=.ok u b/\cM [.at 4,.tup ts] b=.ok v A1:=by
 unfold mf at h;have L:∀{b:Ab},(cM [.at 4,.tup ts] b).bind (λ_ A=>Rz.ok (Tr.bl true) A)=.ok (.bl true) A1->∃v,cM [.at 4,.tup ts] b=.ok v A1:=λ{b} q=>by
  cases e:cM [.at 4,.tup ts] b with
  |ok v A=>rw[e]at q;cases q;exact⟨v,rfl⟩
  |_=>rw[e]at q;cases q
 cases e:fQ [.at 0,.tup ts] A with
 |exc _ _=>rw[e]at h;cases h
 |bad=>rw[e]at h;cases h
 |ok u b=>
  rw[e]at h;cases u with
  |str w=>cases h;exact .inl ⟨w,rfl⟩
  |bM=>obtain⟨v,q⟩:=L h;exact .inr ⟨_,_,v,.inl rfl,rfl,q⟩
  |int n=>obtain⟨v,q⟩:=L h;exact .inr ⟨_,_,v,.inr ⟨n,rfl⟩,rfl,q⟩
  |_=>cases h
structure Dat where
 rows:List Tr
 aq:List (Str×Str)
 ents:List (Str×Int)
 ent:Str->Int
 stays:List o4
 aN:List Str
 inv:List Str
 asked:List Str
 d:Str
 v:Str
 p:Str
 ks:Nat
 kb:Nat
 ka:Nat
noncomputable abbrev six:List Str:=["ann","bo","cy","dee","ed","zed"]
def fc{z:Str}(h:z∈six):z.length<=1000:=(by decide:∀z∈six,z.length<=1000) z h
def gY(rows:List Tr):Prop:=∀t∈rows,∃us,t=.tup us/\us.all rb=true/\us.length<=10
def gY.tu (h:gY rows):ee rows:=λt L=>by obtain⟨us,e,_⟩:=h t L;exact⟨us,e⟩
def gY.add {us:List Tr}(h:gY rows)(b:us.all rb=true)(q:us.length<=10):gY (rows++[.tup us]):=λt L=>by
 rcases cE.mp L with L|L
 .exact h t L
 .exact⟨us,cn.mp L,b,q⟩
def cw{n:Nat}(h:n<10000):n<dy:=dA h ∅
def Bk{l:List (Str×α)}{a:α}:(dR l z a).length<=l.length+1:=by
 unfold dR;split
 .rw[aP];omega
 .rw[di];exact aK _
def fS.names (o:fS rows aq q b):b.map (·.1)=aq.map (·.1):=by
 cases o with
 |same _=>rfl
 |yv z g _ _=>
  obtain⟨a,r,e,_⟩:=g.ex;exact yw (bQ.mpr ⟨_,eK e,rfl⟩)
theorem fS.len (o:fS rows aq b q):`d<=b.length/\b.length<=`d+1/\q.length=aq.length:=by
 have hn:q.length=aq.length:=by have:=cF List.length o.names;simpa using this
 cases o with
 |same _=>omega
 |yv z g _ _=>rw[di];exact⟨∎,aK _,hn⟩
theorem fS.gY (o:fS rows aq bX b)(h:gY rows):gY bX:=by
 cases o with
 |same _=>exact h
 |yv z g _ _=>exact h.add rfl (by show 5<=10;decide)
def fS.ow {b:List (Str×Str)}(o:fS rows aq q b):b=[]\/∃p∈b,p.2="owner":=by
 cases o with
 |same h=>exact h
 |yv z g _ _=>exact .inr ⟨(z,"owner"),iV (by rw[sA,av rfl]),rfl⟩
def fS.seen (o:fS rows aq b q)(I:`d<999)(k:cD aq ents ent)(h:Seen rows aq v):Seen b q v:=by
 cases o with
 |same _=>exact h
 |yv z g L _=>
  obtain⟨a,r,e,_⟩:=g.ex;exact h.add I (.role (.inl ⟨L,rfl,rfl⟩) (k.sh _ (eK e)) ∅)
def yy{b:List (Str×Str)}{ent:Str->Int}(o:fS rows aq r b)(h:∀p∈aq,ent p.1<`d+1):∀p∈b,ent p.1<r.length+1:=λp L=>by
 have:p.1∈aq.map (·.1):=by rw[<-o.names];exact fE L
 obtain⟨q,I,e⟩:=bQ.mp this;have h1:=h q I;have h2:=o.len.1;rw[<-e];omega
structure Good(rows:List Tr)(aq:List (Str×Str))(ents:List (Str×Int))(ent:Str->Int)(stays:List o4)(aN inv asked:List Str):Prop where
 fr:gY rows
 rk:cD aq ents ent
 op:oU stays=aq.map (·.1)
 lt:∀p∈aq,ent p.1<`d+1
 ow:aq=[]\/∃p∈aq,p.2="owner"
 ia:∀z,inv.contains z=asked.contains z
 ns:∀z∈aq.map (·.1),z∈six
 bs:∀z∈aN,z∈six
 is:∀z∈inv,z∈six
 nd:inv.Nodup
theorem Good.row {us:List Tr}(g:Good rows aq ents ent stays aN inv asked)(b:us.all rb=true)(q:us.length<=10):Good (rows++[.tup us]) aq ents ent stays aN inv asked:=
 ⟨g.fr.add b q,g.rk,g.op,λp L=>by have:=g.lt p L;rw[di];show ent p.1<((`d+1:Nat):Int)+1;omega,g.ow,g.ia,g.ns,g.bs,g.is,g.nd⟩
abbrev KH(D:Dat):Prop:=Good D.rows D.aq D.ents D.ent D.stays D.aN D.inv D.asked
structure Bd(D:Dat)(t:Nat):Prop where
 b1:D.rows.length<=3+2*t
 b2:D.aq.length<=3+t
 b3:D.ents.length<=3+t
 b4:D.stays.length<=3+t
 b5:D.asked.length<=t
 b6:D.aN.length<=t
 b7:D.inv.length<=t
structure Pr(A:Ab)(i j:Nat)(D:Dat)(t:Nat):Prop where
 r:RA A i D.rows D.aq D.ents (yZ D.d D.v D.p) D.aN D.inv
 m:bc A j D.ks D.kb D.ka D.rows D.aq D.stays D.aN D.asked D.d D.v D.p
 g:KH D
 b:Bd D t
 dj:∀k∈jS j D.ks D.kb D.ka,6<k/\(k<i\/i+6<k)
 hi:6<i
 se:Seen D.rows D.aq D.v
def Kept(A:Ab)(D D':Dat):Prop:=∀k∈[D'.ks,D'.kb,D'.ka],k∈[D.ks,D.kb,D.ka]\/A.length<=k
abbrev touched(i j:Nat)(D:Dat):List Nat:=iS i++jS j D.ks D.kb D.ka
def Res(A:Ab)(i j:Nat)(D:Dat)(t:Nat)(ts:List Tr):Prop:=∃A' D',mf ts A=.ok (.bl true) A'/\gg A A' (touched i j D)/\Pr A' i j D' (t+1)/\Kept A D D'
noncomputable abbrev Vm:List (Str×Str):=[("Known","known"),("NoPerson","no person"),("NotIn","not in"),("NotAsked","not asked"),("Barred","barred"),("NoRight","no right"),("NoRow","no row")]
def RH(h:(aw,d4)∈Vm):(["Known","NoPerson","NoRoom","NotIn","NotAsked","Barred","NoRight","NoRow","NoHand","NoLine"]:List Str).contains aw=true/\yq [.zc aw]=.ok (.str d4):=by
 simp only[aZ,dF,dH,Prod.mk.injEq]at h;rcases h with⟨rfl,rfl⟩|⟨rfl,rfl⟩|⟨rfl,rfl⟩|⟨rfl,rfl⟩|⟨rfl,rfl⟩|⟨rfl,rfl⟩|⟨rfl,rfl⟩<;>exact⟨∅,rfl⟩
def Bd.more (b:Bd D t):Bd D (t+1):=by obtain⟨h1,h2,h3,h4,L,q,r⟩:=b;exact⟨∎,∎,∎,∎,∎,∎,∎⟩
theorem Pr.kp {S:List Nat}(P:Pr A i j D t)(e:gg A A' S)(q:∀k∈S,(k<i\/i+6<k)/\k∉jS j D.ks D.kb D.ka):Pr A' i j D (t+1):=
 ⟨aW.kp P.r e λk L=>(q k L).1,bc.kp P.m e λk L h=>(q k h).2 L,P.g,P.b.more,P.dj,P.hi,P.se⟩
def s_same(P:Pr A i j D t)(h:mf ts A=.ok (.bl true) (A++[.DJ x])):Res A i j D t ts:=
 ⟨_,D,h,gg.push,P.kp (gg.push (S:=[])) λ_ h=>(nomatch h),λ_ h=>.inl h⟩
theorem MZ:∀{cs:List (Bool×Str×Str)},(∀c∈cs,c.1=false)\/∃c∈cs,fW cs=.str c.2.2/\fX A X cs=.exc (.str c.2.1) A
 |[]=>.inl λc h=>nomatch h
 |(true,x,w)::cs=>.inr ⟨_,bF ..,rfl,rfl⟩
 |(false,x,w)::cs=>by
  rcases MZ (cs:=cs)with h|⟨c,h,h2⟩
  .exact .inl λc L=>by
    rcases aZ.mp L with rfl|L
    .rfl
    .exact h c L
  .exact .inr ⟨c,bG _ h,h2⟩
def mh{cs:List (Bool×Str×Str)}(P:Pr A i j D t)(b:de [.at 0,.tup ts] A=fX A X cs)(he:∀c∈cs,c.2∈Vm)(q:(∀c∈cs,c.1=false)->Res A i j D t ts):Res A i j D t ts:=by
 rcases MZ (A:=A) (X:=X) (cs:=cs)with h|⟨c,h,h1,h2⟩
 .exact q h
 .obtain⟨L,r⟩:=RH (he c h);rw[h2]at b;exact s_same P (Nt (Nr b L r))
def Pr.YJ {j:Nat}{D':Dat}(P:Pr A i j D t)(kp:Kept A D D'):∀k∈jS j D'.ks D'.kb D'.ka,6<k/\(k<i\/i+6<k):=λk L=>by
 have l:=gB P.r.iv;have b:=P.hi;have q:∀k,k∈[D'.ks,D'.kb,D'.ka]->6<k/\(k<i\/i+6<k):=λk L=>by
  rcases kp k L with h|h
  .exact P.dj k (bG _ (bG _ (bG _ h)))
  .omega
 rcases aZ.mp L with rfl|L
 .exact P.dj _ *...*
 rcases aZ.mp L with rfl|L
 .exact P.dj _ *...*
 rcases aZ.mp L with rfl|L
 .exact P.dj _ *...*
 exact q k L
def Dw{D':Dat}(P:Pr A i j D t)(M:eB A bB c8)(S:∀q r,de [.at 0,.tup ts] A=.ok v q->cM [.at 4,.tup ts] q=.ok u r->mf ts A=.ok (.bl true) r)
  (pr:∃q,de [.at 0,.tup ts] A=.ok v q/\gg A q (iS i)/\RA q i D'.rows D'.aq D'.ents (yZ D'.d D'.v D'.p) D'.aN D'.inv)
  (md:∀q,eB q bB c8->bc q j D.ks D.kb D.ka D.rows D.aq D.stays D.aN D.asked D.d D.v D.p->∃r ks kb ka,cM [.at 4,.tup ts] q=.ok u r/\gg q r (jS j D.ks D.kb D.ka)/\bc r j ks kb ka D'.rows D'.aq D'.stays D'.aN D'.asked D'.d D'.v D'.p/\∀k∈[ks,kb,ka],k∈[D.ks,D.kb,D.ka]\/q.length<=k)
  (g:KH D') (b:Bd D' (t+1)) (se:Seen D'.rows D'.aq D'.v):Res A i j D t ts:=by
 obtain⟨q,q1,t1,r1⟩:=pr;have h6:=P.hi;have m1:=bc.kp P.m t1 λk L h=>by
  have:=P.dj k L;simp only[aZ,dF,dH]at h;omega
 obtain⟨r,ks,kb,ka,q2,I,m2,k2⟩:=md q (eB.kp M t1 λk L=>by simp only[aZ,dF,dH]at L;omega) m1;have l:=t1.le;have k0:Kept A D {D' with ks:=ks,kb:=kb,ka:=ka}:=λk L=>(k2 k L).imp id λh=>by omega
 exact⟨r,{D' with ks:=ks,kb:=kb,ka:=ka},S q r q1 q2,(t1.sub λk L=>cE.mpr (.inl L)).trans (I.sub λk L=>cE.mpr (.inr L)),⟨aW.kp r1 I λk L=>(P.dj k L).2,m2,g,⟨b.b1,b.b2,b.b3,b.b4,b.b5,b.b6,b.b7⟩,P.YJ k0,P.hi,se⟩,k0⟩
def oB{D':Dat}(P:Pr A i j D t)(I:eB A bB c8)(pr:∃q,de [.at 0,.tup ts] A=.ok .bM q/\gg A q (iS i)/\RA q i D'.rows D'.aq D'.ents (yZ D'.d D'.v D'.p) D'.aN D'.inv)
  (M:∀q,eB q bB c8->bc q j D.ks D.kb D.ka D.rows D.aq D.stays D.aN D.asked D.d D.v D.p->∃r ks kb ka,cM [.at 4,.tup ts] q=.ok .bM r/\gg q r (jS j D.ks D.kb D.ka)/\bc r j ks kb ka D'.rows D'.aq D'.stays D'.aN D'.asked D'.d D'.v D'.p/\∀k∈[ks,kb,ka],k∈[D.ks,D.kb,D.ka]\/q.length<=k)
  (g:KH D') (b:Bd D' (t+1)) (S:Seen D'.rows D'.aq D'.v):Res A i j D t ts:=Dw P I (λ_ _ h1 h2=>Nu (RG h1) h2) pr M g b S
theorem yz(hw:d4="arrange"\/d4="ask"\/d4="role"\/d4="out"\/d4="bar"\/d4="unbar"\/d4="mend"\/d4="take_back")(m:eB A bB c8)(b:c8.lookup c6=some j)(q:fP [.at j,.tup (.str d4:: .str aw:: .str c6::rows)] A=.ok .bM r)(I:kx [.at j] r=.ok .bM A2)
  (sl:nW (.ok (.tup (.str d4:: .str aw:: .str c6::rows))) (.ok none) (Aq (.ok (.int 2)))=.ok (.tup [.str d4,.str aw])):cM [.at 4,.tup (.str d4:: .str aw:: .str c6::rows)] A=.ok .bM A2:=by
 show bx (gC.1 [.sh (.at 4),.sh (.tup (.str d4:: .str aw:: .str c6::rows)),.no,.no,.no] A)=_;unfold gC;have L:(d4==Str.ofString "come")=false/\(d4==Str.ofString "found")=false/\(d4==Str.ofString "say")=false/\(d4==Str.ofString "enter")=false/\(d4==Str.ofString "leave")=false:=by rcases hw with rfl|rfl|rfl|rfl|rfl|rfl|rfl|rfl<;>decide
 simp![jq,sl,vM,Ry,L,jh,m.M8,uq m.rs,ej,b,cZ,jx,aT,aU,q,I]
def wx{ks kb ka:Nat}{p:Str}(h:bc A j ks kb ka rows aq stays aN asked d v p)(f:ee rows)(k:cD aq ents ent)(b:oU stays=aq.map (·.1))(ow:aq=[]\/∃p∈aq,p.2="owner")(r:`d<dy)(hs:stays.length<=dy)(I:aq.length<dy):
  ∃A',kx [.at j] A=.ok .bM A'/\(∀ks kb ka,gg A A' (jS j ks kb ka))/\bc A' j ks kb ka rows aq stays aN asked d v p:=by
 obtain⟨A',L,mD,q,o,x,m⟩:=uG h f k b r hs I;obtain⟨rfl,rfl⟩:=o.one (.same ow);exact⟨A',q,λ_ _ _=>gg.of x *...*,m⟩
def Dx{n ks kb ka:Nat}:∀k∈[ks,kb,ka],k∈[ks,kb,ka]\/n<=k:=λ_ h=>.inl h
abbrev Dr(D:Dat)(aw c7:Str)(ps:List Tr):Dat:={D with rows:=D.rows++[fw D.rows aw c7 ps]}
def km{l:List α}{a:α}:(l++[a]).length=l.length+1:=by rw[di];rfl
theorem vf{n:Int}:∀{stays:List o4},oU (stays.map (g9 aw n))=(oU stays).filter λz=>!(z==aw)
 |[]=>rfl
 |s::stays=>by
  obtain⟨a,b,c,e⟩:=s;have L:=vf (n:=n) (stays:=stays);unfold oU at L⊢;rw[a_];cases e with
  |some m=>
   have:g9 aw n (a,b,c,some m)=(a,b,c,some m):=by simp[g9]
   rwa[this,i_ *...*,i_ *...*]
  |none=>
   rw[jW (a:=(a,b,c,none)) (by rfl),a_];by_cases q:a=aw
   .subst q;have:g9 a n (a,b,c,none)=(a,b,c,some n):=by simp[g9]
    rwa[this,i_ *...*,i_ *...*]
   .have:g9 aw n (a,b,c,none)=(a,b,c,none):=by simp[g9,q]
    rw[this,jW (by rfl),a_,jW (by simpa using q),L]
def sC:(gj aq aw).map (·.1)=(aq.map (·.1)).filter λz=>!(z==aw):=by
 unfold gj;rw[pC];congr 1;refine nJ λq _=>?_
 show decide (q.1≠aw)=!(q.1==aw);by_cases h:q.1=aw<;>simp[h]
def Good.drop (g:Good rows aq ents ent stays aN inv asked)(h:gD aq d4<gD aq aw):Good rows (gj aq d4) ents ent (stays.map (g9 d4 n)) aN inv asked:=by
 have sub:∀p∈gj aq d4,p∈aq:=λp L=>(bP.mp L).1;refine⟨g.fr,g.rk.leave,by rw[vf,g.op,sC],λp L=>g.lt p (sub p L),.inr ?_,g.ia,λz b=>?_,g.bs,g.is,g.nd⟩
 .rcases g.ow with h0|⟨p,L,e⟩
  .rw[h0]at h;exact absurd h (by show¬(-1:Int)< -1;decide)
  .refine⟨p,bP.mpr ⟨L,jb λq=>?_⟩,e⟩;have h1:=lh (jn g.rk.nd p L);rw[q,e]at h1;have h2:gD aq aw<=3:=by
    unfold gD;split
    .exact(Bi _).2
    .decide
   have h3:lvl "owner"=3:=∅
   omega
 .obtain⟨p,L,rfl⟩:=bQ.mp b;exact g.ns _ (fE (sub p L))
def Vn{aw val:Str}(h:RA A i rows aq ents b bn iv)(tu:ee rows)(k:cD aq ents ent)(hw:aw.length<=1000)(r:`d<dy)(I:b.length<dy):
  kZ [.at i,.str aw,.str fm,.str val] A=fX A (.ok .bM ((A.set (i+1) (yx rows aw "set" [.str fm,.str val])).set (i+4) (.bh (dP .str (dR b fm val))))) [((aq.lookup aw).isNone,"NotIn","not in"),(decide (gD aq aw<2),"NoRight","no right")]:=by
 show bx (iG.1 [.sh (.at i),.sh (.str aw),.sh (.str fm),.sh (.str val)] A)=_;unfold iG;simp![h.call (m:="need_in") rfl,oV h tu hw];refine wt (λq=>by simp only[q,bo,ev]) λq=>?_
 simp![q,bR,bO,h.call (m:="need_keeper") rfl,Rx h tu k hw q];refine wt (λq=>by simp only[q,bo,ev]) λq=>?_
 have w:=l_ (aw:=aw) (c7:="set") (ps:=[.str fm,.str val]) h (dW tu) r (by show 3+2<=dy;decide) rfl;have h1:=h.vS (Ext.put (o:=yx rows aw "set" [.str fm,.str val]) h.lg);have ep:=mC (z:=fm) (t:=.str val) (Y:=[.sh (.at i),.sh (.str aw),.sh (.str fm),.sh (.str val)]) h1.ch (by rwa[jE]);rw[kP]at ep;simp![q,bR,bO,h.call (m:="write_row") rfl,vM,w,jD,h1.MZ,ep,fX]
def Vo{aw val:Str}(q:bN A aB b8)(hi:b8.lookup c6=some i)(h:RA A i rows aq ents M bn iv)(hw:aw.length<=1000)(r:kZ [.at i,.str aw,.str fm,.str val] A=fX A (.ok .bM I) cs):
  de [.at 0,.tup [.str "arrange",.str aw,.str c6,.str fm,.str val]] A=fX A (.ok .bM I) ((!(aB.lookup aw).isSome,"NoPerson","no person")::cs):=by
 show bx (dc.1 [.sh (.at 0),.sh (.tup [.str "arrange",.str aw,.str c6,.str fm,.str val]),.no] A)=_;unfold dc;simp![jq,aT,aU,sn,String.reduceBEq,bD,q.call (m:="arrange") rfl,RE];show bx (iH.1 [.sh (.at 0),.sh (.str aw),.sh (.str c6),.sh (.str fm),.sh (.str val)] A)=_;unfold iH;simp![q.call (m:="place_for") rfl,(vM (b:=aw)).1,i8 q hw hi];cases(aB.lookup aw).isSome with
 |false=>rfl
 |true=>simp![bo,h.call (m:="arrange") rfl,r,Vi];rfl
def OF{val:Str}(h:bc A j ks kb ka rows aY stays aN asked d v p)(f:ee rows)(q:`d<dy)(hw:d4="door"\/d4="voice"\/d4="past"):
  ∃A' d' v' b,fP [.at j,.tup [.str "arrange",.str aw,.str c6,.str d4,.str val]] A=.ok .bM A'/\gg A A' (jS j ks kb ka)/\bc A' j ks kb ka (rows++[fw rows aw "set" [.str d4,.str val]]) aY stays aN asked d' v' b/\dR (yZ d v p) d4 val=yZ d' v' b/\b=(if OE "set" d4 then val else p):=by
 have h0:=h.ext (Ext.push (o:=.bh zS)) λ_ _=>rfl;have w:=oA (aw:=aw) (ps:=[.str "set",.str d4,.str val]) h0 f q (by show 2+3<=dy;decide) rfl;have h1:=h0.yW (Ext.put (o:=.lst (rows++[fw rows aw "set" [.str d4,.str val]])) h0.rw);have t1:=(gg.push (A:=A) (o:=.bh zS) (S:=jS j ks kb ka)).trans (gg.put (o:=(.lst (rows++[fw rows aw "set" [.str d4,.str val]]))) h0.rw *...*);obtain⟨d',v',b,L,r,I⟩:∃d' v' b,dR (AU j ks kb ka d v p) d4 (.str val)=AU j ks kb ka d' v' b/\dR (yZ d v p) d4 val=yZ d' v' b/\b=(if OE "set" d4 then val else p):=by
  rcases hw with rfl|rfl|rfl
  .exact⟨val,v,p,rfl,rfl,rfl⟩
  .exact⟨d,val,p,rfl,rfl,rfl⟩
  .exact⟨d,v,val,rfl,rfl,rfl⟩
 refine⟨_,d',v',b,?_,t1.trans (gg.put h1.o *...*),h1.e_o (Ext.put h1.o),r,I⟩;show bx (cW.1 [.sh (.at j),.sh (.tup [.str "arrange",.str aw,.str c6,.str d4,.str val]),.no,.no,.no,.no] A)=_;unfold cW;have s1:nW (.ok (.tup [.str "arrange",.str aw,.str c6,.str d4,.str val])) (.ok none) (Aq (.ok (.int 2)))=.ok (.tup [.str "arrange",.str aw]):=rfl;have s2:nW (.ok (.tup [.str "arrange",.str aw,.str c6,.str d4,.str val])) (Aq (.ok (.int 3))) (.ok none)=.ok (.tup [.str d4,.str val]):=rfl;have s3:vq (.ok (.bh zS)) (.ok (.str "arrange")) (.ok (.str "arrange"))=.ok (.str "set"):=rfl;have s4:rX (.tup [.str "set"]) (.tup [.str d4,.str val])=.ok (.tup [.str "set",.str d4,.str val]):=rfl;have s5:∀A,mH (.ok (.tup [.str "set",.str d4,.str val])) A=.ok (.tup [.str "set",.str d4,.str val]) A:=λ_=>rfl;have M:zl (.str "arrange") (.tup [.str "out",.str "bar"])=.ok (.bl false):=rfl;simp![jq,s1,vM,Ry,Vk,Vl,aT,aU,s2,s3,s4,s5,w,sn,String.reduceBEq,bD,jD,h1.p_o L,M]
theorem Vp{fm val:Str}(P:Pr A i j D t)(hH:bN A aB b8)(hM:eB A bB c8)(hi:b8.lookup c6=some i)(hj:c8.lookup c6=some j)(h6:aw∈six)(hw:fm="door"\/fm="voice"\/fm="past")(hz:fm="voice"->val="all"\/val="some")(ht:t<=400):Res A i j D t [.str "arrange",.str aw,.str c6,.str fm,.str val]:=by
 have tu:=P.g.fr.tu;have hs:=fc h6;have b1:=P.b.b1;have b2:=P.b.b2;have b3:=P.b.b3;have b4:=P.b.b4;have b5:=P.b.b5;have b6:=P.b.b6;have b7:=P.b.b7;have hc:=Vo (c6:=c6) hH hi P.r hs (Vn (aw:=aw) (fm:=fm) (val:=val) P.r tu P.g.rk hs (cw ∎) (by show 3<dy;decide));refine mh P hc *...* λall=>?_
 obtain⟨_,d',v',L,_,_,_,I,ep⟩:=OF (aw:=aw) (c6:=c6) (val:=val) P.m tu (cw ∎) hw;have g:=P.g.row (us:=[.int (D.rows.length+1),.str aw,.str "set",.str fm,.str val]) rfl (by show 5<=10;decide);have M:v'=if fm="voice"then val else D.v:=by
  have q:=cF (List.lookup (Str.ofString "voice")) I;rw[sA]at q;have q:(if Str.ofString "voice"=fm then some val else some D.v)=some v':=q;rcases hw with rfl|rfl|rfl
  .rw[aA ∅]at q;rw[aA ∅];cases q;rfl
  .rw[av rfl]at q;rw[av rfl];cases q;rfl
  .rw[aA ∅]at q;rw[aA ∅];cases q;rfl
 refine oB (D':={Dr D aw "set" [.str fm,.str val]with d:=d',v:=v',p:=L}) P hM ⟨_,hc.trans (E7 all),?_,?_⟩ (λA1 Fb m=>?_) g ⟨by show(D.rows++[_]).length<=_;rw[km];omega,by show D.aq.length<=_;omega,by show D.ents.length<=_;omega,by show D.stays.length<=_;omega,by show D.asked.length<=_;omega,by show D.aN.length<=_;omega,by show D.inv.length<=_;omega⟩ (by
   have q:=P.se.add (z:=aw) ∎ (.set (a:=fm) (b:=val) (by have:=all (decide (gD D.aq aw<2),"NoRight","no right") *...*;simp only[ly]at this;omega) hz);have e:v'=if fm="voice"then val else D.v:=M
   rwa[e])
 .have h1:=P.r.vS (Ext.put (o:=yx D.rows aw "set" [.str fm,.str val]) P.r.lg);exact(gg.put P.r.lg *...*).trans (gg.put h1.ch *...*)
 .have h1:=P.r.vS (Ext.put (o:=yx D.rows aw "set" [.str fm,.str val]) P.r.lg);have q:=h1.Ys (Ext.put (o:=.bh (dP .str (dR (yZ D.d D.v D.p) fm val))) h1.ch);have Z3:dP Tr.str (dR (yZ D.d D.v D.p) fm val)=dP Tr.str (yZ d' v' L):=by rw[I]
  rw[Z3]at q;rwa[Z3]
 .obtain⟨A2,d2,v2,p2,q1,t1,m1,S,_⟩:=OF (aw:=aw) (c6:=c6) (val:=val) m tu (cw ∎) hw;have e3:yZ d' v' L=yZ d2 v2 p2:=I.symm.trans S;simp only[List.cons.injEq,Prod.mk.injEq,true_and,and_true]at e3;obtain⟨rfl,rfl,rfl⟩:=e3;obtain⟨A3,q2,t2,m2⟩:=wx m1 g.fr.tu P.g.rk P.g.op P.g.ow (by rw[km];exact cw ∎) (cP (cw ∎)) (cw ∎);exact⟨A3,_,_,_,yz (.inl rfl) Fb hj q1 q2 rfl,t1.trans (t2 _ _ _),m2,Dx⟩
noncomputable def OG(a b c:Int):Bool:=decide (a<2)||((a==2)&&(decide (1<b)||decide (1<c)))
def KI{role:Str}(h:RA A i rows aq ents M bn iv)(tu:ee rows)(k:cD aq ents ent)(h4:role∈fq)(q:(aq.lookup aw).isNone=false)(I:(aq.lookup d4).isNone=false):oK [aF 5 A (.at i),.str aw,.str d4,.str role]=.ok (.bl (!OG (gD aq aw) (gD aq d4) (lvl role))):=by
 obtain⟨r,L⟩:=uH q;obtain⟨s,hs⟩:=uH I;show dh (gL.1 [.sh (aF 5 A (.at i)),.sh (.str aw),.sh (.str d4),.sh (.str role)])=_;unfold gL;have l1:wm [.str "speaker"]=.ok (.int 1):=kl ∅;have e:=Rv (k.lk L);simp only[ev,bw,h.p8 (dW tu),ej,L,hs,cZ,jx,e.1,e.2,kl (k.lk L),kl (k.lk hs),kl h4,l1,YI];rw[lh L,lh hs];have b:=Bi r;unfold OG;by_cases c2:lvl r=2
 .simp only[c2,decide_true,ev];congr 2;rw[kC];simp only[hZ,pj,jY,sM,ly];constructor
  .intro q;refine⟨∅,.inr ?_⟩;split at q<;>omega
  .intro q;have:¬(1<lvl s)/\¬(1<lvl role):=q.2.resolve_left *...*;split<;>omega
 .simp only[c2,decide_false,ev,bw,h.p8 (dW tu),ej,L,cZ,jx,e.1];congr 2;rw[kC];simp only[hZ,pj,jY,sM,ly,gG];constructor
  .intro q;exact⟨∎,.inl c2⟩
  .intro q;omega
abbrev Z4(aq:List (Str×Str))(aw d4 role:Str):List (Bool×Str×Str):=[((aq.lookup aw).isNone,"NotIn","not in"),((aq.lookup d4).isNone,"NotIn","not in"),(OG (gD aq aw) (gD aq d4) (lvl role),"NoRight","no right"),(aq.lookup d4==some role,"Known","known")]
def Nw{role:Str}(h:RA A i rows aq ents o7 bn iv)(tu:ee rows)(k:cD aq ents ent)(hw:aw.length<=1000)(I:d4.length<=1000)(h4:role∈fq):fO [.at i,.str aw,.str d4,.str role] A=fX A (fO [.at i,.str aw,.str d4,.str role] A) (Z4 aq aw d4 role):=by
 have Z5:role.length<=1000:=(by decide:∀z∈fq,z.length<=1000) role h4;refine wt (λq=>?_) λq=>wt (λr=>?_) λr=>wt (λM=>?_) λM=>wt (λq4=>?_) λ_=>rfl
 all_goals
  show bx (g8.1 [.sh (.at i),.sh (.str aw),.sh (.str d4),.sh (.str role)] A)=_;unfold g8;simp![h.call (m:="need_in") rfl,oV h tu hw,q,bo,bR,bO]
 .simp![h.call (m:="need_in") rfl,oV h tu I,r,bo]
 .obtain⟨w,S⟩:=jC (z:=aw) (acc:=Str.empty) (n:=0) (k:=λacc=>gi (.ok (.str " may not make ")) (λacc=>gi (.ok (.str d4)) (λacc=>gi (.ok (.str " a ")) (λacc=>gi (.ok (.str role)) (λacc=>uX acc) acc) acc) acc) acc) (aK 0) hw ∅ λa L=>jC L ∅ ∅ λa L=>jC L I ∅ λa L=>jC L ∅ ∅ λa L=>jC L Z5 ∅ λa L=>jN ∎;have tr:∀b,nO (.bl b)=.ok b:=λ_=>rfl;simp![h.call (m:="need_in") rfl,oV h tu I,r,bR,bO,h.d9 (n:=4) (m:="may_give") rfl,KI h tu k h4 q r,M,dG,fi,tr,S]
 .obtain⟨s,hs⟩:=uH r;have es:s=role:=by rw[hs]at q4;simpa using q4
  subst es;obtain⟨w,S⟩:=jC (z:=d4) (acc:=Str.empty) (n:=0) (k:=λacc=>gi (.ok (.str " is a ")) (λacc=>gi (.ok (.str s)) (λacc=>uX acc) acc) acc) (aK 0) I ∅ λa L=>jC L ∅ ∅ λa L=>jC L Z5 ∅ λa L=>jN ∎;have tr:∀b,nO (.bl b)=.ok b:=λ_=>rfl;simp![h.call (m:="need_in") rfl,oV h tu I,r,bR,bO,h.d9 (n:=4) (m:="may_give") rfl,KI h tu k h4 q r,M,dG,fi,tr,h.p8 (dW tu),ej,hs,wU,cZ,jx,bD,S]
def RI{aw d4 role:Str}(h:RA A i rows aq ents S bn iv)(tu:ee rows)(k:cD aq ents ent)(hw:aw.length<=1000)(hv:d4.length<=1000)(h4:role∈fq)(hl:`d+1<dy)(hk:aq.length+1<dy)(all:∀c∈Z4 aq aw d4 role,c.1=false):
  ∃A' r I,fO [.at i,.str aw,.str d4,.str role] A=.ok .bM A'/\fS (rows++[fw rows aw "role" [.str d4,.str role]]) (dR aq d4 role) r I/\gg A A' (iS i)/\RA A' i r I ents S bn iv:=by
 have q:(aq.lookup aw).isNone=false:=all ((aq.lookup aw).isNone,"NotIn","not in") *...*;have L:(aq.lookup d4).isNone=false:=all ((aq.lookup d4).isNone,"NotIn","not in") *...*;have q3:OG (gD aq aw) (gD aq d4) (lvl role)=false:=all (OG (gD aq aw) (gD aq d4) (lvl role),"NoRight","no right") *...*;have M:(aq.lookup d4==some role)=false:=all (aq.lookup d4==some role,"Known","known") *...*;obtain⟨s,hs⟩:=uH L;have es:(s==role)=false:=by rw[hs]at M;simpa using M
 obtain⟨A1,g1,g2,g3⟩:=Km (aw:=aw) (d4:=d4) (role:=role) h (dW tu) ∎ (by rw[jE];omega);rw[kP]at g2 g3;have pl:=Bk (l:=aq) (z:=d4) (a:=role);obtain⟨A2,r,I,s1,s2,s3,s4⟩:=Kn g3 (dW (nt tu)) (k.role (bQ.mpr ⟨_,iV hs,rfl⟩) h4) (by rw[km];omega) ∎;refine⟨A2,r,I,?_,s2,(gg.of g2 *...*).trans (gg.of s3 *...*),s4⟩;show bx (g8.1 [.sh (.at i),.sh (.str aw),.sh (.str d4),.sh (.str role)] A)=_;unfold g8;have tr:∀b,nO (.bl b)=.ok b:=λ_=>rfl;simp![h.call (m:="need_in") rfl,oV h tu hw,oV h tu hv,q,L,bR,bO,h.d9 (n:=4) (m:="may_give") rfl,KI h tu k h4 q L,q3,dG,fi,tr,h.p8 (dW tu),ej,hs,wU,cZ,jx,es,h.call (m:="give_role") rfl,g1,g3.call (m:="see_to_owner") rfl,s1]
theorem Z6:∀{cs:List (Bool×Str×Str)},bx (oF (fX A b cs) Y)=fX A (bx (oF b Y)) cs
 |[]=>rfl
 |(true,_,_)::cs=>rfl
 |(false,_,_)::cs=>Z6 (cs:=cs)
def RJ(b:bN A aB b8)(hi:b8.lookup c6=some i)(h:RA A i rows aq ents I bn iv)(hw:aw.length<=1000)(q:d4.length<=1000)(r:fO [.at i,.str aw,.str d4,.str role] A=fX A (fO [.at i,.str aw,.str d4,.str role] A) cs):
  de [.at 0,.tup [.str "role",.str aw,.str c6,.str d4,.str role]] A=fX A (bx (oF (fO [.at i,.str aw,.str d4,.str role] A) [.sh (.at 0),.sh (.str aw),.sh (.str c6),.sh (.str d4),.sh (.str role)])) ((!((aB.lookup aw).isSome&&(aB.lookup d4).isSome),"NoPerson","no person")::cs):=by
 show bx (dc.1 [.sh (.at 0),.sh (.tup [.str "role",.str aw,.str c6,.str d4,.str role]),.no] A)=_;unfold dc;simp![jq,aT,aU,sn,String.reduceBEq,bD,b.call (m:="role") rfl,RE];show bx (lY.1 [.sh (.at 0),.sh (.str aw),.sh (.str c6),.sh (.str d4),.sh (.str role)] A)=_;unfold lY;simp![b.call (m:="place_for") rfl,vM,vJ b hw q hi];cases((aB.lookup aw).isSome&&(aB.lookup d4).isSome)with
 |false=>rfl
 |true=>
  simp![bo,h.call (m:="role") rfl];exact(cF (λσ=>bx (oF σ _)) r).trans Z6
def RK(h:bc A j ks kb ka rows aY stays aN asked d v p)(f:ee rows)(b:`d<dy)(q:aY.length<dy):
  ∃A',fP [.at j,.tup [.str "role",.str aw,.str c6,.str d4,.str role]] A=.ok .bM A'/\gg A A' (jS j ks kb ka)/\bc A' j ks kb ka (rows++[fw rows aw "role" [.str d4,.str role]]) (dR aY d4 role) stays aN asked d v p:=by
 have h0:=h.ext (Ext.push (o:=.bh zS)) λ_ _=>rfl;have w:=oA (aw:=aw) (ps:=[.str "role",.str d4,.str role]) h0 f b (by show 2+3<=dy;decide) rfl;have h1:=h0.yW (Ext.put (o:=.lst (rows++[fw rows aw "role" [.str d4,.str role]])) h0.rw);have t1:=(gg.push (A:=A) (o:=.bh zS) (S:=jS j ks kb ka)).trans (gg.put (o:=.lst (rows++[fw rows aw "role" [.str d4,.str role]])) h0.rw *...*);refine⟨_,?_,t1.trans (gg.put (o:=.bh (dP .str (dR aY d4 role))) h1.rl *...*),h1.M4 (Ext.put h1.rl)⟩;show bx (cW.1 [.sh (.at j),.sh (.tup [.str "role",.str aw,.str c6,.str d4,.str role]),.no,.no,.no,.no] A)=_;unfold cW;have s1:nW (.ok (.tup [.str "role",.str aw,.str c6,.str d4,.str role])) (.ok none) (Aq (.ok (.int 2)))=.ok (.tup [.str "role",.str aw]):=rfl;have s2:nW (.ok (.tup [.str "role",.str aw,.str c6,.str d4,.str role])) (Aq (.ok (.int 3))) (.ok none)=.ok (.tup [.str d4,.str role]):=rfl;have s3:vq (.ok (.bh zS)) (.ok (.str "role")) (.ok (.str "role"))=.ok (.str "role"):=rfl;have s4:rX (.tup [.str "role"]) (.tup [.str d4,.str role])=.ok (.tup [.str "role",.str d4,.str role]):=rfl;have s5:∀A,mH (.ok (.tup [.str "role",.str d4,.str role])) A=.ok (.tup [.str "role",.str d4,.str role]) A:=λ_=>rfl;have L:zl (.str "role") (.tup [.str "out",.str "bar"])=.ok (.bl false):=rfl;have ep:=mC (z:=d4) (t:=.str role) (Y:=[.sh (.at j),.sh (.tup [.str "role",.str aw,.str c6,.str d4,.str role]),.sh (.str "role"),.sh (.str aw),.sh (.at A.length),.sh (.int (`d+1))]) h1.rl (by rwa[jE]);rw[kP]at ep;simp![jq,s1,vM,Ry,Vk,Vl,aT,aU,s2,s3,s4,s5,w,sn,String.reduceBEq,bD,jD,jh,h1.M3,ep,L]
def Vq{role:Str}(_:∀p∈aq,p.2∈fq)(h4:role∈fq)(h:OG (gD aq aw) b (lvl role)=false):2<gD aq aw\/gD aq aw=2/\(role="guest"\/role="speaker"):=by
 unfold OG at h;simp only[jY,sM,ly,gG]at h;obtain⟨h1,h2⟩:=h;rcases h2 with h2|h2
 .exact .inl ∎
 .by_cases e:gD aq aw=2
  .refine .inr ⟨e,?_⟩;have:role="guest"\/role="speaker"\/role="keeper"\/role="owner":=by simpa using h4
   rcases this with rfl|rfl|rfl|rfl
   .exact .inl rfl
   .exact .inr rfl
   .exact absurd (by decide:(1:Int)<lvl "keeper") h2.2
   .exact absurd (by decide:(1:Int)<lvl "owner") h2.2
  .exact .inl ∎
theorem RL{role:Str}(P:Pr A i j D t)(hH:bN A aB b8)(hM:eB A bB c8)(hi:b8.lookup c6=some i)(hj:c8.lookup c6=some j)(h6:aw∈six)(h7:d4∈six)(h4:role∈fq)(ht:t<=400):Res A i j D t [.str "role",.str aw,.str c6,.str d4,.str role]:=by
 have tu:=P.g.fr.tu;have hs:=fc h6;have S:=fc h7;have b1:=P.b.b1;have b2:=P.b.b2;have b3:=P.b.b3;have b4:=P.b.b4;have b5:=P.b.b5;have b6:=P.b.b6;have b7:=P.b.b7;have I:=RJ (c6:=c6) hH hi P.r hs S (Nw P.r tu P.g.rk hs S h4);refine mh P I *...* λall=>?_
 have RM:=λc I=>all c (bG _ I);obtain⟨s,hsx⟩:=uH (RM ((D.aq.lookup d4).isNone,"NotIn","not in") *...*);have rV:d4∈D.aq.map (·.1):=bQ.mpr ⟨_,iV hsx,rfl⟩;have KJ:=P.g.rk.role rV h4;have M:=yw (a:=role) rV;have pl2:(dR D.aq d4 role).length=D.aq.length:=by have:=cF List.length M;simpa using this
 obtain⟨A3,bX,bH,q3,L,x3,r3⟩:=RI (aw:=aw) (d4:=d4) (role:=role) P.r tu P.g.rk hs S h4 (cw ∎) (cw ∎) RM;have ol:=L.len;rw[km]at ol;have I:=I.trans (E7 all);rw[q3]at I;refine oB (D':={D with rows:=bX,aq:=bH}) P hM ⟨A3,I,x3,r3⟩ (λA1 Fb m=>?_) ⟨L.gY (P.g.fr.add rfl (by show 5<=10;decide)),L.E6 KJ,(P.g.op.trans M.symm).trans L.names.symm,yy L λq hq=>?_,L.ow,P.g.ia,λz hz=>P.g.ns z (by have hz:z∈bH.map (·.1):=hz;rwa[L.names,M]at hz),P.g.bs,P.g.is,P.g.nd⟩ ⟨by show bX.length<=_;omega,by show bH.length<=_;omega,by show D.ents.length<=_;omega,by show D.stays.length<=_;omega,by show D.asked.length<=_;omega,by show D.aN.length<=_;omega,by show D.inv.length<=_;omega⟩ (L.seen (by rw[km];omega) KJ (P.se.add ∎ (.role (.inr (Vq P.g.rk.rl h4 (RM (OG (gD D.aq aw) (gD D.aq d4) (lvl role),"NoRight","no right") *...*))) S h4)))
 .obtain⟨A4,q1,t1,m1⟩:=RK (aw:=aw) (c6:=c6) (d4:=d4) (role:=role) m tu (cw ∎) (cw ∎);obtain⟨A2,zT,vg,q2,o3,x2,m2⟩:=uG m1 (nt tu) KJ (P.g.op.trans M.symm) (by rw[km];exact cw ∎) (cP (cw ∎)) (cw ∎);obtain⟨rfl,rfl⟩:=L.one o3;exact⟨A2,_,_,_,yz (.inr (.inr (.inl rfl))) Fb hj q1 q2 rfl,t1.trans (gg.of x2 *...*),m2,Dx⟩
 .have hq1:q.1∈D.aq.map (·.1):=by rw[<-M];exact fE hq
  obtain⟨q',Tu,e⟩:=bQ.mp hq1;have:=P.g.lt q' Tu;show D.ent q.1<((D.rows++[fw D.rows aw "role" [.str d4,.str role]]).length:Int)+1;rw[km,<-e];omega
def contains_filter{l:List Str}:(l.filter P).contains z=(l.contains z&&P z):=by
 rw[kC,dz,bP,bg,dz]
abbrev RN(p:Str)(n:Int):Int:=if p="shown"then 1 else n
theorem Nx(P:Pr A i j D t)(hH:bN A aB b8)(hM:eB A bB c8)(hi:b8.lookup c6=some i)(hj:c8.lookup c6=some j)(h6:aw∈six)(ht:t<=400):Res A i j D t [.str "enter",.str aw,.str c6]:=by
 have tu:=P.g.fr.tu;have hs:=fc h6;have b1:=P.b.b1;have b2:=P.b.b2;have b3:=P.b.b3;have b4:=P.b.b4;have b5:=P.b.b5;have b6:=P.b.b6;have b7:=P.b.b7;have fl:dI D.rows (dP .str D.aq) (dP .int D.ents) (dP .str (yZ D.d D.v D.p)) (nS D.aN) (nS D.inv):=dW tu;have S:=(KC (aw:=aw) (c6:=c6) hH).trans (Ks hH hs hi (by rw[P.r.call (m:="enter") rfl];rfl));have vb:∀{b},D.aN.contains aw=b->du (nS D.aN) (.inr aw)=if b then some (.bl true)else none:=λe=>by rw[EO,e]
 refine mh (cs:=[(!(aB.lookup aw).isSome,"NoPerson","no person"),((D.aq.lookup aw).isSome,"Known","known"),(D.aN.contains aw,"Barred","barred"),(decide (D.d="asked")&&!D.asked.contains aw,"NotAsked","not asked")]) (X:=de [.at 0,.tup [.str "enter",.str aw,.str c6]] A) P ?_ *...* λall=>?_
 .refine wt (λq=>by rw[S,show(aB.lookup aw).isSome=false by simpa using q];rfl) λq=>?_
  rw[show(aB.lookup aw).isSome=true by simpa using q,av rfl]at S;refine wt (λq=>?_) λq=>wt (λq2=>?_) λq2=>wt (λq3=>?_) λq3=>rfl
  .obtain⟨r,L⟩:=lu.mp q;rw[S,Ko P.r fl hs L];rfl
  .rw[S,Kp (r:=.bl true) P.r fl hs (by simpa using q) (vb q2)];rfl
  .rw[bg,pj]at q3;rw[S,Kq P.r fl hs (by simpa using q) (vb q2) (show some D.d=some _ by rw[fg q3.1]) (by rw[EO,P.g.ia,q3.2];rfl)];rfl
 have a1:(aB.lookup aw).isSome=true:=by simpa using all _ (bF ..)
 have L:D.aq.lookup aw=none:=by simpa using all ((D.aq.lookup aw).isSome,"Known","known") *...*
 have a3:=all (D.aN.contains aw,"Barred","barred") *...*;have a4:=all (decide (D.d="asked")&&!D.asked.contains aw,"NotAsked","not asked") *...*;have KJ:=P.g.rk.enter (aw:=aw) (n:=D.rows.length+1) (r:="guest") L P.g.lt hs ∅;have Z7:(dR D.aq aw "guest").map (·.1)=D.aq.map (·.1)++[aw]:=by rw[uE L,j9];rfl
 have pl:=Bk (l:=D.aq) (z:=aw) (a:=("guest":Str));have Vr:oU (D.stays++[(aw,RN D.p (D.rows.length+1),(D.rows.length+1:Int),none)])=(dR D.aq aw "guest").map (·.1):=by
  unfold oU;rw[List.filter_append,j9,Z7,<-P.g.op];rfl
 obtain⟨A3,bX,bH,q3,M,x3,r3⟩:=Nj (aw:=aw) (d:=D.d) P.r fl P.g.rk P.g.lt (cw ∎) (cw ∎) (cw ∎) hs L (vb a3) rfl (by
  by_cases h9:D.d="asked"
  .right;rw[EO,P.g.ia];rw[h9]at a4;rw[show D.asked.contains aw=true by simpa using a4];rfl
  .exact .inl h9)
 rw[M7]at r3;rw[a1,av rfl,q3]at S;have ol:=M.len;rw[km]at ol;refine oB (D':=⟨bX,bH,dR D.ents aw (D.rows.length+1),λz=>if z=aw then D.rows.length+1 else D.ent z,D.stays++[(aw,RN D.p (D.rows.length+1),(D.rows.length+1:Int),none)],D.aN,D.inv.filter λz=>!(z==aw),D.asked.filter λz=>!(z==aw),D.d,D.v,D.p,D.ks,D.kb,D.ka⟩) P hM ⟨A3,S,gg.of x3 *...*,r3⟩ (λA1 Fb m=>?_) ⟨M.gY (P.g.fr.add rfl (by show 3<=10;decide)),M.E6 KJ,Vr.trans M.names.symm,yy M λq hq=>?_,M.ow,λz=>?_,λz I=>?_,P.g.bs,λz I=>P.g.is z (bP.mp I).1,P.g.nd.sublist wM⟩ ⟨by show bX.length<=_;omega,by show bH.length<=_;omega,?_,by show(D.stays++[_]).length<=_;rw[km];omega,by show(D.asked.filter _).length<=_;have:=gF (λz=>!(z==aw)) D.asked;omega,by show D.aN.length<=_;omega,by show(D.inv.filter _).length<=_;have:=gF (λz=>!(z==aw)) D.inv;omega⟩ (M.seen (by rw[km];omega) KJ (P.se.add ∎ (.enter (by unfold gD;rw[L];decide) hs)))
 .obtain⟨A4,Wq,f1,YK,q1,le1,x1,m1⟩:=Ku (aw:=aw) (c7:="enter") m tu (cw ∎) (cw ∎) (cw ∎) (cP (cw ∎));have YK:f1=RN D.p (D.rows.length+1):=YK;subst YK;obtain⟨A2,zT,vg,q2,o3,x2,m2⟩:=uG m1 (nt tu) KJ Vr (by rw[km];exact cw ∎) (by rw[km];exact cP (cw ∎)) (cw ∎);obtain⟨rfl,rfl⟩:=M.one o3;refine⟨A2,_,_,_,Kz Fb hj q1 q2,(gg.of x1 *...*).trans (gg.of x2 *...*),m2,λk L=>?_⟩;simp only[aZ,dF,dH]at L⊢;omega
 .rw[uE L]at hq;show(if q.1=aw then(D.rows.length+1:Int)else D.ent q.1)<((D.rows++[fw D.rows aw "enter" []]).length:Int)+1;rw[km];rcases cE.mp hq with hq|hq
  .rw[aA (lookup_none L q hq)];have:=P.g.lt q hq;omega
  .cases cn.mp hq;rw[av rfl];omega
 .show(D.inv.filter λz=>!(z==aw)).contains z=(D.asked.filter λz=>!(z==aw)).contains z;rw[contains_filter,contains_filter,P.g.ia]
 .have I:z∈bH.map (·.1):=I;rw[M.names,Z7]at I;rcases cE.mp I with I|I
  .exact P.g.ns z I
  .rwa[cn.mp I]
 .show(dR D.ents aw _).length<=_;have:=Bk (l:=D.ents) (z:=aw) (a:=(D.rows.length+1:Int));omega
theorem Ny(P:Pr A i j D t)(hH:bN A aB b8)(hM:eB A bB c8)(hi:b8.lookup c6=some i)(hj:c8.lookup c6=some j)(h6:aw∈six)(ht:t<=400):Res A i j D t [.str "leave",.str aw,.str c6]:=by
 have tu:=P.g.fr.tu;have hs:=fc h6;have b1:=P.b.b1;have b2:=P.b.b2;have b3:=P.b.b3;have b4:=P.b.b4;have b5:=P.b.b5;have b6:=P.b.b6;have b7:=P.b.b7;have fl:dI D.rows (dP .str D.aq) (dP .int D.ents) (dP .str (yZ D.d D.v D.p)) (nS D.aN) (nS D.inv):=dW tu;have M:=(KD (aw:=aw) (c6:=c6) hH).trans (Kt hH hs hi (by rw[P.r.call (m:="leave") rfl];rfl));refine mh (cs:=[(!(aB.lookup aw).isSome,"NoPerson","no person"),(!(D.aq.lookup aw).isSome,"NotIn","not in")]) (X:=de [.at 0,.tup [.str "leave",.str aw,.str c6]] A) P ?_ *...* λall=>?_
 .refine wt (λq=>by rw[M,show(aB.lookup aw).isSome=false by simpa using q];rfl) λq=>wt (λS=>?_) λS=>rfl;rw[M,show(aB.lookup aw).isSome=true by simpa using q,av rfl,Kr P.r fl hs (by simpa using S)];rfl
 have a1:(aB.lookup aw).isSome=true:=by simpa using all _ (bF ..)
 obtain⟨r,I⟩:∃r,D.aq.lookup aw=some r:=lu.mp (by simpa using all (!(D.aq.lookup aw).isSome,"NotIn","not in") *...*);have KJ:=P.g.rk.leave (aw:=aw);have dl:=gF (λp:Str×Str=>decide (p.1≠aw)) D.aq;have Vr:oU (D.stays.map (g9 aw (D.rows.length+1)))=(gj D.aq aw).map (·.1):=by rw[vf,P.g.op,sC]
 obtain⟨A3,bX,bH,q3,L,x3,r3⟩:=Nk (aw:=aw) P.r fl P.g.rk (cw ∎) (cw ∎) hs I;rw[a1,av rfl,q3]at M;have ol:=L.len;rw[km]at ol;have ol3:bH.length=(D.aq.filter λp=>decide (p.1≠aw)).length:=ol.2.2;refine oB (D':=⟨bX,bH,D.ents,D.ent,D.stays.map (g9 aw (D.rows.length+1)),D.aN,D.inv,D.asked,D.d,D.v,D.p,D.ks,D.kb,D.ka⟩) P hM ⟨A3,M,gg.of x3 *...*,r3⟩ (λA1 Fb m=>?_) ⟨L.gY (P.g.fr.add rfl (by show 3<=10;decide)),L.E6 KJ,Vr.trans L.names.symm,yy L λq hq=>?_,L.ow,P.g.ia,λz hz=>?_,P.g.bs,P.g.is,P.g.nd⟩ ⟨by show bX.length<=_;omega,by show bH.length<=_;omega,by show D.ents.length<=_;omega,by show(D.stays.map _).length<=_;rw[aP];omega,by show D.asked.length<=_;omega,by show D.aN.length<=_;omega,by show D.inv.length<=_;omega⟩ (L.seen (by rw[km];omega) KJ (P.se.add ∎ (.leave I)))
 .have q0:=oA (aw:=aw) (ps:=[.str "leave"]) m tu (cw ∎) (by show 2+1<=dy;decide) rfl;have x0:=Ext.put (o:=.lst (D.rows++[fw D.rows aw "leave" []])) m.rw;have m0:=m.yW x0;have le0:=x0.le;obtain⟨A4,Lc,q1,le1,x1,m1⟩:=Gk (aw:=aw) (n:=D.rows.length+1) m0 (cP (cw ∎)) I;obtain⟨A2,zT,vg,S,o3,x2,m2⟩:=uG m1 (nt tu) KJ Vr (by rw[km];exact cw ∎) (by rw[aP];exact cP (cw ∎)) (cw (by show(D.aq.filter _).length<_;omega));obtain⟨rfl,rfl⟩:=L.one o3;refine⟨A2,_,_,_,KA Fb hj q0 q1 S,((gg.of x0 *...*).trans (gg.of x1 *...*)).trans (gg.of x2 *...*),m2,λk I=>?_⟩;simp only[aZ,dF,dH]at I⊢;omega
 .have:=P.g.lt q (bP.mp hq).1;show D.ent q.1<((D.rows++[fw D.rows aw "leave" []]).length:Int)+1;rw[km];omega
 .have hz:z∈bH.map (·.1):=hz;rw[L.names,sC]at hz;exact P.g.ns z (bP.mp hz).1
def Vs(h:RA A i rows aq ents o7 bn iv)(tu:ee rows)(k:cD aq ents ent)(hw:aw.length<=1000)(I:d4.length<=1000)(M:`d<dy):
  sv [.at i,.str aw,.str d4] A=fX A (.ok .bM ((A.set (i+1) (yx rows aw "out" [.str d4])).set (i+2) (.bh (dP .str (gj aq d4))))) [((aq.lookup aw).isNone,"NotIn","not in"),((aq.lookup d4).isNone,"NotIn","not in"),(decide (gD aq aw<2)||decide (gD aq aw<=gD aq d4),"NoRight","no right")]:=by
 show bx (oo.1 [.sh (.at i),.sh (.str aw),.sh (.str d4)] A)=_;unfold oo;simp![h.call (m:="need_in") rfl,oV h tu hw];refine wt (λq=>by simp only[q,bo,ev]) λq=>?_
 simp![q,bR,bO,h.call (m:="need_in") rfl,oV h tu I];refine wt (λq=>by simp only[q,bo,ev]) λL=>?_
 simp![L,bR,bO,h.call (m:="need_above") rfl,Vj h tu k hw I q];refine wt (λq=>by simp only[q,bo,ev]) λS=>?_
 obtain⟨r,hr⟩:=uH L;have w:=l_ (aw:=aw) (c7:="out") (ps:=[.str d4]) h (dW tu) M (by show 3+1<=dy;decide) rfl;have h1:=h.vS (Ext.put (o:=yx rows aw "out" [.str d4]) h.lg);have p:=AR (z:=d4) (v:=.str r) h1.rk (by rw[dS,hr];rfl);rw[we]at p;simp![S,bR,bO,h.call (m:="write_row") rfl,(vM (b:=aw)).1,w,h1.MY,AQ h1.rk,p,fX]
def Vt(b:bN A aB b8)(hi:b8.lookup c6=some i)(h:RA A i rows aq ents M bn iv)(hw:aw.length<=1000)(q:d4.length<=1000)(r:sv [.at i,.str aw,.str d4] A=fX A (.ok .bM I) cs):
  de [.at 0,.tup [.str "out",.str aw,.str c6,.str d4]] A=fX A (.ok .bM I) ((!((aB.lookup aw).isSome&&(aB.lookup d4).isSome),"NoPerson","no person")::cs):=by
 show bx (dc.1 [.sh (.at 0),.sh (.tup [.str "out",.str aw,.str c6,.str d4]),.no] A)=_;unfold dc;simp![jq,aT,aU,sn,String.reduceBEq,bD,b.call (m:="out") rfl,RE];show bx (oy.1 [.sh (.at 0),.sh (.str aw),.sh (.str c6),.sh (.str d4)] A)=_;unfold oy;simp![b.call (m:="place_for") rfl,vM,vJ b hw q hi];cases((aB.lookup aw).isSome&&(aB.lookup d4).isSome)with
 |false=>rfl
 |true=>simp![bo,h.call (m:="out") rfl,r,Vi];rfl
def Vu(h:bc A j ks kb ka rows aY stays aN asked d v p)(f:ee rows)(I:`d<dy)(hs:stays.length<=dy)(q:aY.lookup d4=some r):
  ∃A' b,fP [.at j,.tup [.str "out",.str aw,.str c6,.str d4]] A=.ok .bM A'/\A.length<=b/\gg A A' (jS j ks kb ka)/\bc A' j b kb ka (rows++[fw rows aw "out" [.str d4]]) (gj aY d4) (stays.map (g9 d4 (`d+1))) aN asked d v p:=by
 have h0:=h.ext (Ext.push (o:=.bh zS)) λ_ _=>rfl;have w:=oA (aw:=aw) (ps:=[.str "out",.str d4]) h0 f I (by show 2+2<=dy;decide) rfl;have h1:=h0.yW (Ext.put (o:=.lst (rows++[fw rows aw "out" [.str d4]])) h0.rw);have t1:=(gg.push (A:=A) (o:=.bh zS) (S:=jS j ks kb ka)).trans (gg.put (o:=.lst (rows++[fw rows aw "out" [.str d4]])) h0.rw *...*);obtain⟨L,b,M,q2,q3,q4⟩:=Gk (aw:=d4) (n:=`d+1) h1 hs q;refine⟨L,b,?_,aV t1.le q2,t1.trans (gg.of q3 *...*),q4⟩;show bx (cW.1 [.sh (.at j),.sh (.tup [.str "out",.str aw,.str c6,.str d4]),.no,.no,.no,.no] A)=_;unfold cW;have s1:nW (.ok (.tup [.str "out",.str aw,.str c6,.str d4])) (.ok none) (Aq (.ok (.int 2)))=.ok (.tup [.str "out",.str aw]):=rfl;have s2:nW (.ok (.tup [.str "out",.str aw,.str c6,.str d4])) (Aq (.ok (.int 3))) (.ok none)=.ok (.tup [.str d4]):=rfl;have s3:vq (.ok (.bh zS)) (.ok (.str "out")) (.ok (.str "out"))=.ok (.str "out"):=rfl;have s4:rX (.tup [.str "out"]) (.tup [.str d4])=.ok (.tup [.str "out",.str d4]):=rfl;have n2:zl (.str "out") (.tup [.str "out",.str "bar"])=.ok (.bl true):=rfl;simp![jq,s1,vM,Ry,Vk,Vl,aT,aU,s2,s3,s4,w,sn,String.reduceBEq,bD,n2,h1.Ve (n:=3),dS,q,cZ,ja,M]
theorem Vv(P:Pr A i j D t)(M:bN A aB b8)(S:eB A bB c8)(hi:b8.lookup c6=some i)(hj:c8.lookup c6=some j)(h6:aw∈six)(h7:d4∈six)(ht:t<=400):Res A i j D t [.str "out",.str aw,.str c6,.str d4]:=by
 have tu:=P.g.fr.tu;have hs:=fc h6;have q:=fc h7;have b1:=P.b.b1;have b2:=P.b.b2;have b3:=P.b.b3;have b4:=P.b.b4;have b5:=P.b.b5;have b6:=P.b.b6;have b7:=P.b.b7;have I:=Vt (c6:=c6) M hi P.r hs q (Vs P.r tu P.g.rk hs q (cw ∎));refine mh P I *...* λall=>?_
 have lt:gD D.aq d4<gD D.aq aw:=by
  have:=all (decide (gD D.aq aw<2)||decide (gD D.aq aw<=gD D.aq d4),"NoRight","no right") *...*;simp only[jY,ly]at this;omega
 obtain⟨r,L⟩:=uH (all ((D.aq.lookup d4).isNone,"NotIn","not in") *...*);have g:=(P.g.row (us:=[.int (D.rows.length+1),.str aw,.str "out",.str d4]) rfl (by show 4<=10;decide)).drop (n:=D.rows.length+1) lt;have dl:=gF (λp:Str×Str=>decide (p.1≠d4)) D.aq;refine oB (D':={Dr D aw "out" [.str d4]with aq:=gj D.aq d4,stays:=D.stays.map (g9 d4 (D.rows.length+1))}) P S ⟨_,I.trans (E7 all),?_,?_⟩ (λA1 Fb m=>?_) g ⟨by show(D.rows++[_]).length<=_;rw[km];omega,by show(D.aq.filter _).length<=_;omega,by show D.ents.length<=_;omega,by show(D.stays.map _).length<=_;rw[aP];omega,by show D.asked.length<=_;omega,by show D.aN.length<=_;omega,by show D.inv.length<=_;omega⟩ (P.se.add ∎ (.out (.inl rfl) (by have:=all (decide (gD D.aq aw<2)||decide (gD D.aq aw<=gD D.aq d4),"NoRight","no right") *...*;simp only[jY,ly]at this;omega) lt))
 .have h1:=P.r.vS (Ext.put (o:=yx D.rows aw "out" [.str d4]) P.r.lg);exact(gg.put P.r.lg *...*).trans (gg.put h1.rk *...*)
 .have h1:=P.r.vS (Ext.put (o:=yx D.rows aw "out" [.str d4]) P.r.lg);exact h1.M0 (Ext.put h1.rk)
 .obtain⟨A4,Lc,q1,le,t1,m1⟩:=Vu (aw:=aw) (c6:=c6) m tu (cw ∎) (cP (cw ∎)) L;obtain⟨A2,q2,t2,m2⟩:=wx m1 g.fr.tu g.rk g.op g.ow (by rw[km];exact cw ∎) (by rw[aP];exact cP (cw ∎)) (cw (by show(D.aq.filter _).length<_;omega));refine⟨A2,_,_,_,yz (.inr (.inr (.inr (.inl rfl)))) Fb hj q1 q2 rfl,t1.trans (t2 _ _ _),m2,λk L=>?_⟩;simp only[aZ,dF,dH]at L⊢;omega
def wy{S:List Int}:zl (.int n) (.tup (S.map .int))=.ok (.bl (S.contains n))/\zl (.int n) (.lst (S.map .int))=.ok (.bl (S.contains n)):=by
 have f:(S.map Tr.int).all rb=true:=fh.mpr λt L=>by obtain⟨i,_,rfl⟩:=bQ.mp L;rfl
 have a:((S.map Tr.int).any λy=>eqT y (.int n))=S.contains n:=by
  clear f
  induction S with
  |nil=>rfl
  |cons i S b=>rw[a_,jc,b,wR,mV];rfl
 have e:HU (.int n) (S.map .int)=.ok (S.contains n):=by unfold HU;rw[av ⟨rfl,f⟩,a]
 exact⟨by show P4 (HU _ _)=_;rw[e];rfl,by show P4 (HU _ _)=_;rw[e];rfl⟩
def wordAt(rows:List Tr)(n:Int):Str:=match rows[(n - 1).toNat]? with
 |some (.tup (_::_:: .str w::_))=>w
 |_=>Str.empty
def jV(rows:List Tr)(aw:Str)(n:Int):Bool:=(sb aw rows).1.contains n&&wordAt rows n==("say":Str)
theorem Seen.at_ {v:Str}{n:Int}(h:Seen rows aq v)(q:1<=n/\n<=`d):∃a b us,fU (.lst rows) (.int (n - 1))=.ok (.tup (a::b:: .str (wordAt rows n)::us)):=by
 have L:(n - 1).toNat<rows.length:=∎
 obtain⟨m,z,w,ps,e,_⟩:=h.w _ (kA L);have g:rows[(n - 1).toNat]?=some (.tup (.int m:: .str z:: .str w::ps)):=by rw[cj L,e]
 refine⟨.int m,.str z,ps,?_⟩;have:wordAt rows n=w:=by unfold wordAt;rw[g]
 rw[this];show jx (L2.qZ rows (n - 1))=_;rw[show n - 1=(((n - 1).toNat:Nat):Int) by omega,lJ g];rfl
def KL(h:Seen rows aq v)(hf:∀t∈rows,∃us,t=.tup us/\us.all rb=true)(r:`d<=1000)(ha:lP ["Room"] "log" T=.ok (.lst rows)):oM [T,.str aw,.int n]=.ok (.bl (jV rows aw n)):=by
 show dh (gM.1 [.sh T,.sh (.str aw),.sh (.int n)])=_;unfold gM;have L:G7 (.int n) (.int 1)=.ok (.int (n - 1)):=rfl;simp only[ev,bw,ha,E9 h.w hf ∎,wy,me,L];unfold jV;cases e:(sb aw rows).1.contains n with
 |false=>rfl
 |true=>
  obtain⟨a,b,us,q⟩:=h.at_ (h.l aw n (dz.mp e));simp only[q,ev,bw,jq,bo,kc]
def YM(rows:List Tr)(aw:Str):Tr->Bool
 |.int n=>!jV rows aw n
 |_=>false
def zU(t:Tr):Prop:=t=.bM\/∃n:Int,t=.int n/\0<=n/\n<1000
def RO{r:Str}(h:r∈fq):(r==("guest":Str))=(lvl r==0):=by
 have:r="guest"\/r="speaker"\/r="keeper"\/r="owner":=by simpa using h
 rcases this with rfl|rfl|rfl|rfl<;>decide
theorem Bl{n:Int}(h:0<=n/\n<1000):∃z,MA (.int n)=.ok (.str z)/\z.length<=1000:=by
 have all:∀k<1000,(((k:Nat):Int).natAbs.log2<1920/\(Str.ofString (toString ((k:Nat):Int))).length<=1000):=∅
 have q:=all n.toNat ∎;rw[show((n.toNat:Nat):Int)=n by omega]at q;exact⟨_,av ⟨q.1,aV q.2 ∅⟩,q.2⟩
def Vx{aw:Str}(h:RA A i rows aq ents (yZ d v p) bn iv)(tu:ee rows)(fr:∀t∈rows,∃us,t=.tup us/\us.all rb=true)(se:Seen rows aq v)(k:cD aq ents ent)(hw:aw.length<=1000)(S:`d<=1000)(I:zU ky):
  sx [.at i,.str aw,.str words,ky] A=fX A (.ok (.int (`d+1)) (A.set (i+1) (yx rows aw "say" [.str words,ky]))) [((aq.lookup aw).isNone,"NotIn","not in"),(v==("some":Str)&&gD aq aw==0,"NoRight","no right"),(YM rows aw ky,"NoRow","no row")]:=by
 show bx (oq.1 [.sh (.at i),.sh (.str aw),.sh (.str words),.sh ky] A)=_;unfold oq;simp![h.call (m:="need_in") rfl,oV h tu hw];refine wt (λq=>by simp only[q,bo,ev]) λq=>?_
 obtain⟨r,L⟩:∃r,aq.lookup aw=some r:=by cases e:aq.lookup aw with
  |none=>rw[e]at q;cases q
  |some r=>exact⟨r,rfl⟩
 have rk:gD aq aw=lvl r:=by unfold gD;rw[L]
 obtain⟨s1,e1⟩:=jC (z:=aw) (acc:=Str.empty) (n:=0) (k:=λacc=>gi (.ok (.str " is a guest, and the voice is some")) (λacc=>uX acc) acc) (aK 0) hw ∅ λa I=>jC I ∅ ∅ λa I=>jN ∎;have ch:fU (.bh (dP .str (yZ d v p))) (.str "voice")=.ok (.str v):=by rw[ej];rfl
 simp only[q,bR,bO,ev];have g1:Ed (.ok (v==("some":Str))) (.ok (r==("guest":Str)))=.ok (v==("some":Str)&&gD aq aw==0):=by
  rw[rk,<-RO (k.lk L)];cases v==("some":Str)<;>rfl
 simp![h.Rm (dW tu),h.p8 (dW tu),ch,ej,L,cZ,jx,g1];refine wt (λq=>by simp only[q,ev,bw,cI,e1]) λq=>?_
 simp![q];have ft:jy [.str words,ky]=true:=by rcases I with rfl|⟨n,rfl,_⟩<;>rfl
 have w:=l_ (aw:=aw) (c7:="say") (ps:=[.str words,ky]) h (dW tu) (lF S ∅) (by show 3+2<=dy;decide) ft;have fz:∀A,mH (.ok (.tup [.str words,ky])) A=.ok (.tup [.str words,ky]) A:=λA=>av ft;have th:∀n A,aF n A ky=ky:=λn A=>by rcases I with rfl|⟨m,rfl,_⟩<;>simp only[cO]
 simp only[th];rcases I with rfl|⟨n,rfl,hn⟩
 .have M:Me .bM .bM=.ok (.bl false):=rfl;refine wt (λq=>by cases q) λ_=>?_
  simp![M,fz,h.call (m:="write_row") rfl,w,fX]
 .have M:Me (.int n) .bM=.ok (.bl true):=rfl;obtain⟨z,ez,lz⟩:=Bl hn;obtain⟨s2,e2⟩:=jC (z:=aw) (acc:=Str.empty) (n:=0) (k:=λacc=>gi (.ok (.str " sees nothing said as ")) (λacc=>gi (.ok (.str z)) (λacc=>uX acc) acc) acc) (aK 0) hw ∅ λa I=>jC I ∅ ∅ λa I=>jC I lz ∅ λa I=>jN ∎;have tb:∀b,nO (.bl b)=.ok b:=λ_=>rfl;simp![M,h.d9 (n:=4) (m:="sees_say") rfl,KL (aw:=aw) (n:=n) se fr S (h.Hx (dW tu)),tb];refine wt (λq=>?_) λq=>?_
  .have q:(!jV rows aw n)=true:=q;simp![q,ez,e2]
  .have q:(!jV rows aw n)=false:=q;simp![q,fz,h.call (m:="write_row") rfl,w,fX]
theorem Z8:∀{cs:List (Bool×Str×Str)},bx (Ha (fX A (.ok u b) cs))=fX A (.ok u b) cs
 |[]=>rfl
 |(true,_,_)::cs=>rfl
 |(false,_,_)::cs=>Z8 (cs:=cs)
def Vy{aw:Str}(q:bN A aB b8)(hi:b8.lookup c6=some i)(h:RA A i rows aq ents o7 bn iv)(hw:aw.length<=1000)(I:zU ky)(M:sx [.at i,.str aw,.str words,ky] A=fX A (.ok u r) cs):
  de [.at 0,.tup [.str "say",.str aw,.str c6,.str words,ky]] A=fX A (.ok u r) ((!(aB.lookup aw).isSome,"NoPerson","no person")::cs):=by
 have L:∀A,mH (.ok ky) A=.ok ky A:=λA=>by rcases I with rfl|⟨n,rfl,_⟩<;>simp only[ev]
 show bx (dc.1 [.sh (.at 0),.sh (.tup [.str "say",.str aw,.str c6,.str words,ky]),.no] A)=_;unfold dc;simp![jq,aT,aU,sn,String.reduceBEq,bD,q.call (m:="say") rfl,L,RE];have S:yo [.at 0,.str aw,.str c6,.str words,ky] A=fX A (.ok u r) ((!(aB.lookup aw).isSome,"NoPerson","no person")::cs):=by
  show bx (oz.1 [.sh (.at 0),.sh (.str aw),.sh (.str c6),.sh (.str words),.sh ky] A)=_;unfold oz;simp![q.call (m:="place_for") rfl,(vM (b:=aw)).1,i8 q hw hi];cases(aB.lookup aw).isSome with
  |false=>rfl
  |true=>simp![bo,h.call (m:="say") rfl,M,Z8];rfl
 exact S
def Nz(q:de [.at 0,.tup ts] A=.ok (.int m) A1):fQ [.at 0,.tup ts] A=.ok (.int m) A1:=by
 show bx (jt.1 [.sh (.at 0),.sh (.tup ts),.no,.no,.no] A)=_;unfold jt;have tz:∀o A G,CH 5 4 ["Known","NoPerson","NoRoom","NotIn","NotAsked","Barred","NoRight","NoRow","NoHand","NoLine"] (.ok o A) G=.ok o A:=λ_ _ _=>rfl;have L:Md .bM .bM=.ok (.bl true):=rfl;simp![aT,aU,q,tz,L]
def Vz(h:bc A j ks kb ka rows aY stays aN asked d v p)(f:ee rows)(b:eB A bB c8)(q:c8.lookup c6=some j)(r:`d<dy)(I:zU ky):
  ∃A',cM [.at 4,.tup [.str "say",.str aw,.str c6,.str words,ky]] A=.ok (.int (`d+1)) A'/\gg A A' (jS j ks kb ka)/\bc A' j ks kb ka (rows++[fw rows aw "say" [.str words,ky]]) aY stays aN asked d v p:=by
 have L:jy [.str "say",.str words,ky]=true:=by rcases I with rfl|⟨n,rfl,_⟩<;>rfl
 have w:=oA (aw:=aw) (ps:=[.str "say",.str words,ky]) h f r (by show 2+3<=dy;decide) L;refine⟨_,?_,gg.put (o:=.lst (rows++[fw rows aw "say" [.str words,ky]])) h.rw *...*,h.yW (Ext.put h.rw)⟩;show bx (gC.1 [.sh (.at 4),.sh (.tup [.str "say",.str aw,.str c6,.str words,ky]),.no,.no,.no] A)=_;unfold gC;have s1:nW (.ok (.tup [.str "say",.str aw,.str c6,.str words,ky])) (.ok none) (Aq (.ok (.int 2)))=.ok (.tup [.str "say",.str aw]):=rfl;have s2:nW (.ok (.tup [.str "say",.str aw,.str c6,.str words,ky])) (.ok none) (Aq (.ok (.int 1)))=.ok (.tup [.str "say"]):=rfl;have s3:nW (.ok (.tup [.str "say",.str aw,.str c6,.str words,ky])) (Aq (.ok (.int 3))) (.ok none)=.ok (.tup [.str words,ky]):=rfl;have s4:rX (.tup [.str "say"]) (.tup [.str words,ky])=.ok (.tup [.str "say",.str words,ky]):=rfl;have s5:∀A,mH (.ok (.tup [.str "say",.str words,ky])) A=.ok (.tup [.str "say",.str words,ky]) A:=λ_=>av L;simp![jq,s1,s2,s3,s4,s5,vM,Ry,sn,String.reduceBEq,bD,jh,b.M8,uq b.rs,ej,q,cZ,jx,aT,aU,w]
def gY.fr (h:gY rows):∀t∈rows,∃us,t=.tup us/\us.all rb=true:=λt L=>by obtain⟨us,e,f,_⟩:=h t L;exact⟨us,e,f⟩
theorem VA(P:Pr A i j D t)(S:bN A aB b8)(hM:eB A bB c8)(hi:b8.lookup c6=some i)(hj:c8.lookup c6=some j)(h6:aw∈six)(q:zU ky)(ht:t<=400):Res A i j D t [.str "say",.str aw,.str c6,.str words,ky]:=by
 have tu:=P.g.fr.tu;have hs:=fc h6;have b1:=P.b.b1;have b2:=P.b.b2;have b3:=P.b.b3;have b4:=P.b.b4;have b5:=P.b.b5;have b6:=P.b.b6;have b7:=P.b.b7;have fa:rb ky=true:=by rcases q with rfl|⟨n,rfl,_⟩<;>rfl
 have M:=Vy (c6:=c6) S hi P.r hs q (Vx (aw:=aw) (words:=words) P.r tu P.g.fr.fr P.se P.g.rk hs ∎ q);refine mh P M *...* λall=>?_
 have g:=P.g.row (us:=[.int (D.rows.length+1),.str aw,.str "say",.str words,ky]) (by show(true&&(true&&(true&&(true&&(rb ky&&true)))))=true;rw[fa];rfl) (by show 5<=10;decide);refine Dw (u:=.int (D.rows.length+1)) (D':=Dr D aw "say" [.str words,ky]) P hM (λ_ _ L I=>Nv (Nz L) I) ⟨_,M.trans (E7 all),gg.put P.r.lg *...*,P.r.vS (Ext.put P.r.lg)⟩ (λA1 Fb m=>?_) g ⟨by show(D.rows++[_]).length<=_;rw[km];omega,by show D.aq.length<=_;omega,by show D.ents.length<=_;omega,by show D.stays.length<=_;omega,by show D.asked.length<=_;omega,by show D.aN.length<=_;omega,by show D.inv.length<=_;omega⟩ (P.se.add ∎ (.say (q.imp id λ⟨n,e,_⟩=>⟨n,e⟩) (by
   have L:=all ((D.aq.lookup aw).isNone,"NotIn","not in") *...*;have I:=all (D.v==("some":Str)&&gD D.aq aw==0,"NoRight","no right") *...*;obtain⟨r,hr⟩:=uH L;have b:=Bi r;rw[lh hr]at I⊢;by_cases e:lvl r=0
   .refine .inr ⟨e,P.se.v.resolve_right λe2=>?_⟩;rw[e,e2]at I;exact absurd I ∅
   .exact .inl ∎)))
 obtain⟨A4,L,t1,m1⟩:=Vz (aw:=aw) (words:=words) m tu Fb hj (cw ∎) q;exact⟨A4,_,_,_,L,t1,m1,Dx⟩
theorem Gm{f:α->Bool}:∀{l:List α},yS (l.map λa=>Tr.bl (f a))=.ok (l.map f)
 |[]=>rfl
 |a::l=>by rw[a_,yS,Gm];rfl
theorem NA(h:Seen rows aq v)(b:`d<=1000)(ha:lP ["Room"] "log" T=.ok (.lst rows)):iN [T,.int n]=.ok (.bl (rows.any (E_ n))):=by
 show dh (d5.1 [.sh T,.sh (.int n)])=_;unfold d5;simp only[ev,bw,ha];rw[dk (sF:=[.sh (.int n)]) (c:=.no) (λ_=>true) id (λt=>.bl (E_ n t)) (xs:=rows) (by rw[pH];rfl) (aV b ∅) rfl (λ_ _=>rfl) λt L _=>?_]
 .rw[lE.mpr λ_ _=>rfl];have e:Q3 [.lst (rows.map λt=>.bl (E_ n t))]=.ok (.bl ((rows.map λt=>E_ n t).any id)):=by
   show(yS (rows.map λt=>Tr.bl (E_ n t))).bind _=_;rw[Gm];rfl
  simp only[ev,bw,e,List.any_map];rfl
 .obtain⟨m,z,w,ps,rfl,R⟩:=h.w t L;simp only[ev,bw,jq,id];by_cases hw:w="gone"
  .obtain⟨k,r,rfl⟩:=R.g hw;subst hw;simp only[jq,ev,bw,bD,me,bo]
   rfl
  .have:(w==("gone":Str))=false:=gG.mpr hw;simp only[this,me,bR,bO];unfold E_;split
   .rename_i e;cases e;rw[this];rfl
   .rfl
def sD(rows:List Tr)(n:Int):Str:=match rows[(n - 1).toNat]? with
 |some (.tup (_:: .str z::_))=>z
 |_=>Str.empty
def Seen.Z9 {v:Str}(h:Seen rows aq v)(q:jV rows aw n=true)(hb:rows.any (E_ n)=false):Std rows n (sD rows n):=by
 unfold jV at q;rw[bg]at q;have b:=h.l aw n (dz.mp q.1);have L:(n - 1).toNat<rows.length:=∎
 obtain⟨m,z,w,ps,e,_⟩:=h.w _ (kA L);have g:rows[(n - 1).toNat]?=some (.tup (.int m:: .str z:: .str w::ps)):=by rw[cj L,e]
 have r:wordAt rows n=w:=by unfold wordAt;rw[g]
 have I:sD rows n=z:=by unfold sD;rw[g]
 rw[r]at q;have M:w="say":=by simpa using q.2
 subst M;rw[I];exact⟨b,⟨m,ps,g⟩,λt S=>by simpa using(wV.mp hb) t S⟩
def zV(h:Seen rows aq v)(q:jV rows aw n=true)(ha:lP ["Room"] "log" T=.ok (.lst rows)):gP [T,.str aw,.int n]=.ok (.bl (sD rows n==aw)):=by
 unfold jV at q;rw[bg]at q;have I:=h.l aw n (dz.mp q.1);have L:(n - 1).toNat<rows.length:=∎
 obtain⟨m,z,w,ps,e,_⟩:=h.w _ (kA L);have g:rows[(n - 1).toNat]?=some (.tup (.int m:: .str z:: .str w::ps)):=by rw[cj L,e]
 have b:sD rows n=z:=by unfold sD;rw[g]
 have a:=lJ (xs:=rows) (j:=(n - 1).toNat) g;rw[mI ∎]at a;have e:fU (.lst rows) (.int (n - 1))=.ok (.tup (.int m:: .str z:: .str w::ps)):=by show jx (L2.qZ rows (n - 1))=_;rw[a];rfl
 show dh (gO.1 [.sh T,.sh (.str aw),.sh (.int n)])=_;unfold gO;have r:G7 (.int n) (.int 1)=.ok (.int (n - 1)):=rfl;simp only[ev,bw,ha,r,e,jq,b]
theorem zW{n:Int}(h:RA A i rows aq ents (yZ d v p) bn iv)(tu:ee rows)(fr:∀t∈rows,∃us,t=.tup us/\us.all rb=true)(r:Seen rows aq v)(hw:aw.length<=1000)(I:`d<=1000)(M:0<=n/\n<1000):
  oP [.at i,.str aw,.int n] A=fX A (.ok .bM A) [(!jV rows aw n||rows.any (E_ n),"NoRow","no row")]:=by
 have S:=NA (n:=n) r I (h.Hx (dW tu));obtain⟨z,ez,lz⟩:=Bl M;obtain⟨s2,e2⟩:=jC (z:=aw) (acc:=Str.empty) (n:=0) (k:=λacc=>gi (.ok (.str " sees nothing said as ")) (λacc=>gi (.ok (.str z)) (λacc=>gi (.ok (.str " that stands")) (λacc=>uX acc) acc) acc) acc) (aK 0) hw ∅ λa L=>jC L ∅ ∅ λa L=>jC L lz ∅ λa L=>jC L ∅ ∅ λa L=>jN ∎;show bx (gQ.1 [.sh (.at i),.sh (.str aw),.sh (.int n)] A)=_;unfold gQ;have tb:∀b,nO (.bl b)=.ok b:=λ_=>rfl;have ob:∀a b,Wa (.ok a) (.ok b)=.ok (a||b):=λa b=>by cases a<;>rfl
 simp![h.d9 (n:=4) (m:="sees_say") rfl,h.d9 (n:=4) (m:="was_taken_back") rfl,KL (aw:=aw) (n:=n) r fr I (h.Hx (dW tu)),S,tb,ob];refine wt (λq=>?_) λq=>?_
 .simp![q,ez,e2]
 .simp![q,fX]
theorem RP{n:Int}(h:RA A i rows aq ents (yZ d v p) bn iv)(tu:ee rows)(fr:∀t∈rows,∃us,t=.tup us/\us.all rb=true)(r:Seen rows aq v)(hw:aw.length<=1000)(I:`d<=1000)(M:0<=n/\n<1000):
  qv [.at i,.str aw,.int n,.str words] A=fX A (.ok .bM (A.set (i+1) (yx rows aw "mend" [.int n,.str words]))) [((aq.lookup aw).isNone,"NotIn","not in"),(!jV rows aw n||rows.any (E_ n),"NoRow","no row"),(!(sD rows n==aw),"NoRight","no right")]:=by
 have eb:=zW (n:=n) h tu fr r hw I M;obtain⟨z,ez,lz⟩:=Bl M;obtain⟨s2,e2⟩:=jC (z:=aw) (acc:=Str.empty) (n:=0) (k:=λacc=>gi (.ok (.str " did not say ")) (λacc=>gi (.ok (.str z)) (λacc=>uX acc) acc) acc) (aK 0) hw ∅ λa L=>jC L ∅ ∅ λa L=>jC L lz ∅ λa L=>jN ∎;have S:(!jV rows aw n||rows.any (E_ n))=false->gP [aF 5 A (.at i),.str aw,.int n]=.ok (.bl (sD rows n==aw)):=λq=>zV r (by simpa using(jY.mp q).1) (h.Hx (dW tu));generalize hc:(sD rows n==aw)=c at S⊢;show bx (lX.1 [.sh (.at i),.sh (.str aw),.sh (.int n),.sh (.str words)] A)=_;unfold lX;simp![h.call (m:="need_in") rfl,oV h tu hw];refine wt (λq=>by simp only[q,bo,ev]) λq=>?_
 simp![q,bR,bO,h.call (m:="need_say") rfl,eb];refine wt (λq=>by simp only[q,fX,bo,ev]) λq=>?_
 have w:=l_ (aw:=aw) (c7:="mend") (ps:=[.int n,.str words]) h (dW tu) (lF I ∅) (by show 3+2<=dy;decide) rfl;have tb:∀b,nO (.bl b)=.ok b:=λ_=>rfl;have fz:∀A,mH (.ok (.tup [.int n,.str words])) A=.ok (.tup [.int n,.str words]) A:=λA=>rfl;simp![q,fX,bR,bO,h.d9 (n:=4) (m:="has_said") rfl,S q,tb];cases c with
 |true=>simp![dG,bR,bO,h.call (m:="write_row") rfl,fz,w]
 |false=>simp![fi,bo,ez,e2]
def RQ(q:bN A aB b8)(hi:b8.lookup c6=some i)(h:RA A i rows aq ents M bn iv)(hw:aw.length<=1000)(r:qv [.at i,.str aw,.int n,.str words] A=fX A (.ok .bM I) cs):
  de [.at 0,.tup [.str "mend",.str aw,.str c6,.int n,.str words]] A=fX A (.ok .bM I) ((!(aB.lookup aw).isSome,"NoPerson","no person")::cs):=by
 show bx (dc.1 [.sh (.at 0),.sh (.tup [.str "mend",.str aw,.str c6,.int n,.str words]),.no] A)=_;unfold dc;simp![jq,aT,aU,sn,String.reduceBEq,bD,q.call (m:="mend") rfl,RE];show bx (lZ.1 [.sh (.at 0),.sh (.str aw),.sh (.str c6),.sh (.int n),.sh (.str words)] A)=_;unfold lZ;simp![q.call (m:="place_for") rfl,(vM (b:=aw)).1,i8 q hw hi];cases(aB.lookup aw).isSome with
 |false=>rfl
 |true=>simp![bo,h.call (m:="mend") rfl,r,Vi];rfl
def RR(h:bc A j ks kb ka rows aY stays aN asked d v p)(f:ee rows)(b:`d<dy):
  ∃A',fP [.at j,.tup [.str "mend",.str aw,.str c6,.int n,.str words]] A=.ok .bM A'/\gg A A' (jS j ks kb ka)/\bc A' j ks kb ka (rows++[fw rows aw "mend" [.int n,.str words]]) aY stays aN asked d v p:=by
 have h0:=h.ext (Ext.push (o:=.bh zS)) λ_ _=>rfl;have w:=oA (aw:=aw) (ps:=[.str "mend",.int n,.str words]) h0 f b (by show 2+3<=dy;decide) rfl;refine⟨_,?_,(gg.push (A:=A) (o:=.bh zS) (S:=jS j ks kb ka)).trans (gg.put (o:=.lst (rows++[fw rows aw "mend" [.int n,.str words]])) h0.rw *...*),h0.yW (Ext.put h0.rw)⟩;show bx (cW.1 [.sh (.at j),.sh (.tup [.str "mend",.str aw,.str c6,.int n,.str words]),.no,.no,.no,.no] A)=_;unfold cW;have s1:nW (.ok (.tup [.str "mend",.str aw,.str c6,.int n,.str words])) (.ok none) (Aq (.ok (.int 2)))=.ok (.tup [.str "mend",.str aw]):=rfl;have s2:nW (.ok (.tup [.str "mend",.str aw,.str c6,.int n,.str words])) (Aq (.ok (.int 3))) (.ok none)=.ok (.tup [.int n,.str words]):=rfl;have s3:vq (.ok (.bh zS)) (.ok (.str "mend")) (.ok (.str "mend"))=.ok (.str "mend"):=rfl;have s4:rX (.tup [.str "mend"]) (.tup [.int n,.str words])=.ok (.tup [.str "mend",.int n,.str words]):=rfl;have s5:∀A,mH (.ok (.tup [.str "mend",.int n,.str words])) A=.ok (.tup [.str "mend",.int n,.str words]) A:=λ_=>rfl;have L:zl (.str "mend") (.tup [.str "out",.str "bar"])=.ok (.bl false):=rfl;simp![jq,s1,vM,Ry,Vk,Vl,aT,aU,s2,s3,s4,s5,w,sn,String.reduceBEq,bD,L]
def RS{n:Int}(P:Pr A i j D t)(S:bN A aB b8)(hM:eB A bB c8)(hi:b8.lookup c6=some i)(hj:c8.lookup c6=some j)(h6:aw∈six)(hn:0<=n/\n<1000)(ht:t<=400):Res A i j D t [.str "mend",.str aw,.str c6,.int n,.str words]:=by
 have tu:=P.g.fr.tu;have hs:=fc h6;have b1:=P.b.b1;have b2:=P.b.b2;have b3:=P.b.b3;have b4:=P.b.b4;have b5:=P.b.b5;have b6:=P.b.b6;have b7:=P.b.b7;have hR:=RP (words:=words) P.r tu P.g.fr.fr P.se hs ∎ hn;have I:=RQ (c6:=c6) S hi P.r hs hR;refine mh P I *...* λall=>?_
 have L:=all (!jV D.rows aw n||D.rows.any (E_ n),"NoRow","no row") *...*;rw[jY]at L;have M:=P.se.Z9 (by simpa using L.1) L.2;have g:=P.g.row (us:=[.int (D.rows.length+1),.str aw,.str "mend",.int n,.str words]) rfl (by show 5<=10;decide);refine oB (D':=Dr D aw "mend" [.int n,.str words]) P hM ⟨_,I.trans (E7 all),gg.put P.r.lg *...*,P.r.vS (Ext.put P.r.lg)⟩ (λA1 Fb m=>?_) g ⟨by show(D.rows++[_]).length<=_;rw[km];omega,by show D.aq.length<=_;omega,by show D.ents.length<=_;omega,by show D.stays.length<=_;omega,by show D.asked.length<=_;omega,by show D.aN.length<=_;omega,by show D.inv.length<=_;omega⟩ (P.se.add ∎ (.lj (by
   have q:=all (!(sD D.rows n==aw),"NoRight","no right") *...*;rw[show sD D.rows n=aw by simpa using q]at M;exact M)))
 obtain⟨A4,q1,t1,m1⟩:=RR (aw:=aw) (c6:=c6) (words:=words) (n:=n) m tu (cw ∎);obtain⟨A2,L,t2,m2⟩:=wx m1 g.fr.tu P.g.rk P.g.op P.g.ow (by rw[km];exact cw ∎) (cP (cw ∎)) (cw ∎);exact⟨A2,_,_,_,yz (.inr (.inr (.inr (.inr (.inr (.inr (.inl rfl))))))) Fb hj q1 L rfl,t1.trans (t2 _ _ _),m2,Dx⟩
def RT{n:Int}(h:RA A i rows aq ents (yZ d v p) bn iv)(tu:ee rows)(fr:∀t∈rows,∃us,t=.tup us/\us.all rb=true)(r:Seen rows aq v)(k:cD aq ents ent)(hw:aw.length<=1000)(I:`d<=1000)(hn:0<=n/\n<1000):
  i7 [.at i,.str aw,.int n] A=fX A (.ok .bM (A.set (i+1) (yx rows aw "gone" [.int n]))) [((aq.lookup aw).isNone,"NotIn","not in"),(!jV rows aw n||rows.any (E_ n),"NoRow","no row"),(!(sD rows n==aw)&&decide (gD aq aw<2),"NoRight","no right")]:=by
 have eb:=zW (n:=n) h tu fr r hw I hn;have L:(!jV rows aw n||rows.any (E_ n))=false->gP [aF 5 A (.at i),.str aw,.int n]=.ok (.bl (sD rows n==aw)):=λq=>zV r (by simpa using(jY.mp q).1) (h.Hx (dW tu));generalize hc:(sD rows n==aw)=c at L⊢;show bx (gc.1 [.sh (.at i),.sh (.str aw),.sh (.int n)] A)=_;unfold gc;simp![h.call (m:="need_in") rfl,oV h tu hw];refine wt (λq=>by simp only[q,bo,ev]) λM=>?_
 simp![M,bR,bO,h.call (m:="need_say") rfl,eb];refine wt (λq=>by simp only[q,fX,bo,ev]) λq=>?_
 have w:=l_ (aw:=aw) (c7:="gone") (ps:=[.int n]) h (dW tu) (lF I ∅) (by show 3+1<=dy;decide) rfl;have tb:∀b,nO (.bl b)=.ok b:=λ_=>rfl;have S:∀A,mH (.ok (.tup [.int n])) A=.ok (.tup [.int n]) A:=λA=>rfl;simp![q,fX,bR,bO,h.d9 (n:=4) (m:="has_said") rfl,L q,tb];cases c with
 |true=>simp![dG,mU,bR,bO,h.call (m:="write_row") rfl,S,w]
 |false=>
  simp![fi,kc,h.call (m:="need_keeper") rfl,Rx h tu k hw M];cases decide (gD aq aw<2)with
  |true=>simp only[bo,ev]
  |false=>simp![bR,bO,h.call (m:="write_row") rfl,S,w]
def YN:bx (Ha X)=X:=by cases X<;>rfl
def RU(q:bN A aB b8)(hi:b8.lookup c6=some i)(h:RA A i rows aq ents M bn iv)(hw:aw.length<=1000)(r:i7 [.at i,.str aw,.int n] A=fX A (.ok .bM I) cs):
  de [.at 0,.tup [.str "take_back",.str aw,.str c6,.int n]] A=fX A (.ok .bM I) ((!(aB.lookup aw).isSome,"NoPerson","no person")::cs):=by
 show bx (dc.1 [.sh (.at 0),.sh (.tup [.str "take_back",.str aw,.str c6,.int n]),.no] A)=_;unfold dc;simp![jq,aT,aU,sn,String.reduceBEq,bD,q.call (m:="take_back") rfl,YN];show bx (gf.1 [.sh (.at 0),.sh (.str aw),.sh (.str c6),.sh (.int n)] A)=_;unfold gf;simp![q.call (m:="place_for") rfl,(vM (b:=aw)).1,i8 q hw hi];cases(aB.lookup aw).isSome with
 |false=>rfl
 |true=>simp![bo,h.call (m:="take_back") rfl,r,Vi];rfl
def RV(h:bc A j ks kb ka rows aY stays aN asked d v p)(f:ee rows)(b:`d<dy):
  ∃A',fP [.at j,.tup [.str "take_back",.str aw,.str c6,.int n]] A=.ok .bM A'/\gg A A' (jS j ks kb ka)/\bc A' j ks kb ka (rows++[fw rows aw "gone" [.int n]]) aY stays aN asked d v p:=by
 have h0:=h.ext (Ext.push (o:=.bh zS)) λ_ _=>rfl;have w:=oA (aw:=aw) (ps:=[.str "gone",.int n]) h0 f b (by show 2+2<=dy;decide) rfl;refine⟨_,?_,(gg.push (A:=A) (o:=.bh zS) (S:=jS j ks kb ka)).trans (gg.put (o:=.lst (rows++[fw rows aw "gone" [.int n]])) h0.rw *...*),h0.yW (Ext.put h0.rw)⟩;show bx (cW.1 [.sh (.at j),.sh (.tup [.str "take_back",.str aw,.str c6,.int n]),.no,.no,.no,.no] A)=_;unfold cW;have s1:nW (.ok (.tup [.str "take_back",.str aw,.str c6,.int n])) (.ok none) (Aq (.ok (.int 2)))=.ok (.tup [.str "take_back",.str aw]):=rfl;have s2:nW (.ok (.tup [.str "take_back",.str aw,.str c6,.int n])) (Aq (.ok (.int 3))) (.ok none)=.ok (.tup [.int n]):=rfl;have s3:vq (.ok (.bh zS)) (.ok (.str "take_back")) (.ok (.str "take_back"))=.ok (.str "gone"):=rfl;have s4:rX (.tup [.str "gone"]) (.tup [.int n])=.ok (.tup [.str "gone",.int n]):=rfl;have s5:∀A,mH (.ok (.tup [.str "gone",.int n])) A=.ok (.tup [.str "gone",.int n]) A:=λ_=>rfl;have L:zl (.str "take_back") (.tup [.str "out",.str "bar"])=.ok (.bl false):=rfl;simp![jq,s1,vM,Ry,Vk,Vl,aT,aU,s2,s3,s4,s5,w,sn,String.reduceBEq,bD,L]
def RW{n:Int}(P:Pr A i j D t)(M:bN A aB b8)(S:eB A bB c8)(hi:b8.lookup c6=some i)(hj:c8.lookup c6=some j)(h6:aw∈six)(hn:0<=n/\n<1000)(ht:t<=400):Res A i j D t [.str "take_back",.str aw,.str c6,.int n]:=by
 have tu:=P.g.fr.tu;have hs:=fc h6;have b1:=P.b.b1;have b2:=P.b.b2;have b3:=P.b.b3;have b4:=P.b.b4;have b5:=P.b.b5;have b6:=P.b.b6;have b7:=P.b.b7;have hR:=RT P.r tu P.g.fr.fr P.se P.g.rk hs ∎ hn;have I:=RU (c6:=c6) M hi P.r hs hR;refine mh P I *...* λall=>?_
 have L:=all (!jV D.rows aw n||D.rows.any (E_ n),"NoRow","no row") *...*;rw[jY]at L;have sd:=P.se.Z9 (by simpa using L.1) L.2;have g:=P.g.row (us:=[.int (D.rows.length+1),.str aw,.str "gone",.int n]) rfl (by show 4<=10;decide);refine oB (D':=Dr D aw "gone" [.int n]) P S ⟨_,I.trans (E7 all),gg.put P.r.lg *...*,P.r.vS (Ext.put P.r.lg)⟩ (λA1 Fb m=>?_) g ⟨by show(D.rows++[_]).length<=_;rw[km];omega,by show D.aq.length<=_;omega,by show D.ents.length<=_;omega,by show D.stays.length<=_;omega,by show D.asked.length<=_;omega,by show D.aN.length<=_;omega,by show D.inv.length<=_;omega⟩ (P.se.add ∎ (.gone sd (by
   have q:=all (!(sD D.rows n==aw)&&decide (gD D.aq aw<2),"NoRight","no right") *...*;rw[sM]at q;rcases q with q|q
   .exact .inl (by simpa using q)
   .exact .inr (by simp only[ly]at q;omega))))
 obtain⟨A4,q1,t1,m1⟩:=RV (aw:=aw) (c6:=c6) (n:=n) m tu (cw ∎);obtain⟨A2,L,t2,m2⟩:=wx m1 g.fr.tu P.g.rk P.g.op P.g.ow (by rw[km];exact cw ∎) (cP (cw ∎)) (cw ∎);exact⟨A2,_,_,_,yz (.inr (.inr (.inr (.inr (.inr (.inr (.inr rfl))))))) Fb hj q1 L rfl,t1.trans (t2 _ _ _),m2,Dx⟩
def mix(c p m:Int):Int:=(c*48271 % p)*(c*48271 % p+7) % p % m
def i9{m:Int}(hm:0<m):0<=mix c p m/\mix c p m<m:=⟨xk _ ∎,Int.emod_lt_of_pos _ hm⟩
def KN(h:xT i j):Eg (.int i) (.int j)=.ok (.int (i*j)):=av h
def Fc{j:Int}(h:0<j):Cd (.int i) (.int j)=.ok (.int (i % j)):=av h
def Gn(c p m:Int)(b:0<p)(M:p<=1048576)(hm:0<m):Bh [.int c,.int p,.int m]=.ok (.int (mix c p m)):=by
 have S:0<=c*48271 % p:=xk _ ∎;have b1:c*48271 % p<p:=Int.emod_lt_of_pos _ b;show dh (wq.1 [.sh (.int c),.sh (.int p),.sh (.int m),.no])=_;unfold wq;have L:Eg (.int c) (.int 48271)=.ok (.int (c*48271)):=av (.inr ⟨∅,∅⟩);have q:∀a,Cd (.int a) (.int p)=.ok (.int (a % p)):=λa=>av b;have r:Eg (.int (c*48271 % p)) (.int (c*48271 % p+7))=.ok (.int ((c*48271 % p)*(c*48271 % p+7))):=av (.inl ⟨∎,∎⟩);have I:∀a,Cd (.int a) (.int m)=.ok (.int (a % m)):=λa=>av hm;simp only[ev,bw,L,q,r,I,aT,aU,mix]
def RX(ns:List Int)(k:Int)(h:0<=k):∃c,Dk [.uI ns,.int k]=.ok (.int c):=by
 show∃c,dh (B5 (T5 (.ok (decide (k<(ns.length:Int)))) (L3 ((jx (L2.qZ ns k)).bind λn=>.ok (.int n))) (.ok (.nx [.sh (.uI ns),.sh (.int k)]))) λY=>L3 (Rs.ok (.int 0)))=_;by_cases L:k<(ns.length:Int)
 .have b:k.toNat<ns.length:=∎
  have e:L2.qZ ns k=some (ns[k.toNat]):=by
   have q:=lJ (xs:=ns) (j:=k.toNat) (cj b);rw[mI h]at q;exact q
  rw[jb L,e];exact⟨_,rfl⟩
 .rw[fV L];exact⟨0,rfl⟩
def Bm{l:List Tr}{k:Int}(h0:0<=k)(h1:k<l.length):∃t∈l,fU (.tup l) (.int k)=.ok t/\fU (.lst l) (.int k)=.ok t:=by
 have L:k.toNat<l.length:=∎
 have q:=lJ (xs:=l) (j:=k.toNat) (cj L);rw[mI h0]at q;exact⟨l[k.toNat],kA _,by show jx (L2.qZ l k)=_;rw[q];rfl,by show jx (L2.qZ l k)=_;rw[q];rfl⟩
def OH{l:List Str}{k:Int}(h0:0<=k)(h1:k<l.length):∃z∈l,fU (.tup (l.map .str)) (.int k)=.ok (.str z):=by
 obtain⟨t,L,e,_⟩:=Bm (l:=l.map .str) h0 (by rwa[aP]);obtain⟨z,b,rfl⟩:=bQ.mp L;exact⟨z,b,e⟩
noncomputable abbrev NB:List Str:=["ann","bo","cy","dee","ed"]
noncomputable abbrev three:List Str:=["ann","bo","zed"]
noncomputable abbrev rms:List Str:=["hall","hall","hall","yard"]
noncomputable abbrev sets:List Tr:=[.tup [.str "door",.str "open"],.tup [.str "door",.str "asked"],.tup [.str "voice",.str "all"],.tup [.str "voice",.str "some"],.tup [.str "past",.str "shown"],.tup [.str "past",.str "hidden"]]
inductive gw(ws:List Str):List Tr->Prop
 |VB {aw:Str}:("come":Str)∈ws->aw∈six->gw ws [.str "come",.str aw]
 |one {c7 aw c6:Str}:(c7="found"\/c7="enter"\/c7="leave")->c7∈ws->aw∈six->(c6="hall"\/c6="yard")->gw ws [.str c7,.str aw,.str c6]
 |arr {aw c6 fm val:Str}:("arrange":Str)∈ws->aw∈six->(c6="hall"\/c6="yard")->(fm="door"\/fm="voice"\/fm="past")->(fm="voice"->val="all"\/val="some")->gw ws [.str "arrange",.str aw,.str c6,.str fm,.str val]
 |role {aw c6 d4 r:Str}:("role":Str)∈ws->aw∈six->(c6="hall"\/c6="yard")->d4∈six->r∈fq->gw ws [.str "role",.str aw,.str c6,.str d4,.str r]
 |two {c7 aw c6 d4:Str}:(c7="ask"\/c7="out"\/c7="bar"\/c7="unbar")->c7∈ws->aw∈six->(c6="hall"\/c6="yard")->d4∈six->gw ws [.str c7,.str aw,.str c6,.str d4]
 |say {aw c6 words:Str} {ky:Tr}:("say":Str)∈ws->aw∈six->(c6="hall"\/c6="yard")->zU ky->gw ws [.str "say",.str aw,.str c6,.str words,ky]
 |lj {aw c6 words:Str} {n:Int}:("mend":Str)∈ws->aw∈six->(c6="hall"\/c6="yard")->(0<=n/\n<1000)->gw ws [.str "mend",.str aw,.str c6,.int n,.str words]
 |take {aw c6:Str} {n:Int}:("take_back":Str)∈ws->aw∈six->(c6="hall"\/c6="yard")->(0<=n/\n<1000)->gw ws [.str "take_back",.str aw,.str c6,.int n]
noncomputable abbrev ten:List Str:=["come","found","enter","leave","arrange","role","ask","out","bar","unbar"]
def Fd{x y:Rs Out}{K:bS->Rs Out}{P:Rs Tr->Prop}(h:∀r,r=x\/r=y->P (dh (B5 r K))):P (dh (B5 (T5 (.ok b) x y) K)):=by
 cases b
 .exact h y (.inr rfl)
 .exact h x (.inl rfl)
def KO:List Str:=["hi","@ann hi","@bo @ann","hi @cy","@ann,","@@ann","a@ann","\"","@ed @ed x","@","@annabel","@zed"]
def yA:Str:=" !\"#$&'()*+,-./0123456789:;<=>?@ABCDEFGHIJKLMNOPQRSTUVWXYZ[\\]^_`abcdefghijklmnopqrstuvwxyz{|}~"
def Dy:yA.length=94/\yA.cps.toList.length=94:=∅
theorem strs_map{f:α->Str}:∀{l:List α},oE (l.map λk=>Tr.str (f k))=.ok (l.map f)
 |[]=>rfl
 |k::l=>by rw[a_,oE,strs_map];rfl
def RY(j:Int):B9 (.ok [.int j])=if-4611686018427387904<=j/\j<4611686018427387904 then .ok (oY 0 j.toNat)else .bad:=rfl
theorem Gp(c:Int):∃z,zQ [.int c]=.ok (.str z):=by
 show∃z,dh (qW.1 [.sh (.int c),.no,.no,.no])=_;unfold qW;have S:Cd (.int c) (.int 3)=.ok (.int (c % 3)):=Fc ∅;have L:=λp m (hp:0<p) (Sn:p<=1048576) (hm:0<m)=>Gn c p m hp Sn hm;simp only[ev,bw,S,L 9973 12 ∅ ∅ ∅,L 9967 6 ∅ ∅ ∅,L 9949 9 ∅ ∅ ∅,aT,aU];refine Fd (P:=λr=>∃z,r=.ok (.str z)) λr h=>?_
 rcases h with rfl|rfl
 .obtain⟨z,_,ez⟩:=OH (l:=KO) (i9 (c:=c) (p:=9973) (m:=12) ∅).1 (i9 ∅).2;have t8:∀a b c d e f g h,yQ (.ok [a,b,c,d,e,f,g,h])=.ok (.tup [a,b,c,d,e,f,g,h]):=λ_ _ _ _ _ _ _ _=>rfl;have I:rX (.tup [.str "hi",.str "@ann hi",.str "@bo @ann",.str "hi @cy",.str "@ann,",.str "@@ann",.str "a@ann",.str "\""]) (.tup [.str "@ed @ed x",.str "@",.str "@annabel",.str "@zed"])=.ok (.tup (KO.map .str)):=rfl;refine⟨z,?_⟩;simp only[t8,ev,bw,I,aT,aU,L 9973 12 ∅ ∅ ∅,ez]
 .simp only[ev,bw,L 9967 6 ∅ ∅ ∅,L 9949 9 ∅ ∅ ∅,aT,aU];refine Fd (P:=λr=>∃z,r=.ok (.str z)) λr h=>?_
  obtain⟨n,hn,rfl⟩:∃n:Nat,n<=60/\r=.ok (.nx [.sh (.int c),.sh (.str yA),.no,.sh (.int (n:Nat))]):=by
   have b:=i9 (c:=c) (p:=9967) (m:=6) ∅;rcases h with rfl|rfl
   .exact⟨60,∅,rfl⟩
   .exact⟨(1+mix c 9967 6).toNat,∎,by rw[mI ∎];rfl⟩
  have e1:B9 (.ok [.int (n:Int)])=.ok ((List.range n).map λk=>Tr.int (0+(k:Nat))):=by
   rw[RY,av ⟨∎,∎⟩,Int.toNat_natCast];unfold oY;rfl
  let f:Nat->Str:=λk=>⟨#[yA.cps.toList.getD (mix (c+7*(0+(k:Int))) 9941 94).toNat 0]⟩
  have l2:x8 [.str yA]=.ok (.int 94):=by show Rs.ok (Tr.int (yA.length:Nat))=_;rw[Dy.1];rfl
  simp only[ev,bw,e1];rw[dk (sF:=[.sh (.str yA),.sh (.int c)]) (λ_=>true) (λk:Nat=>Tr.int (0+(k:Nat))) (λk=>Tr.str (f k)) (xs:=List.range n) rfl (by rw[pq];exact aV hn ∅) rfl (λ_ _=>rfl) λk _ _=>?_]
  .have e4:(Txt.join ("":Str) ((List.range n).map f)).length=n:=by
    have q:=PySem.W.KT.join_ones ((List.range n).map f) λa ha=>by obtain⟨j,_,rfl⟩:=bQ.mp ha;rfl
    rw[aP,pq]at q;exact q
   have fe:(List.range n).filter (λ_=>true)=List.range n:=lE.mpr λ_ _=>rfl;have jo:JoinOk "" ((List.range n).map f)=true:=by
    have q:=PyProof.Rows.joinOk_few (sep:="") (as:=List.range n) (pz:=λ_=>true) (f:=f) (by rw[pq];omega) (λa=>by show 1<=_;decide) ∅;rw[fe]at q;exact q
   rw[fe];refine⟨Txt.join "" ((List.range n).map f),?_⟩;have jm:mS joinM (.ok (.str "")) (.ok [.lst ((List.range n).map λk=>Tr.str (f k))])=.ok (.str (Txt.join "" ((List.range n).map f))):=by
    show(oE ((List.range n).map λk=>Tr.str (f k))).bind (λzs=>if JoinOk "" zs=true/\(Txt.join "" zs).length<=cH then Rs.ok (Tr.str (Txt.join "" zs))else .bad)=_;rw[strs_map];exact av ⟨jo,by rw[e4];exact aV hn ∅⟩
   simp only[ev,bw,jm]
  .have e3:Eg (.int 7) (.int (0+(k:Int)))=.ok (.int (7*(0+(k:Int)))):=KN (.inl ⟨∅,∅⟩);obtain⟨m0,m1⟩:=i9 (c:=c+7*(0+(k:Int))) (p:=9941) (m:=94) ∅;simp only[ev,bw,e3,l2,Gn _ 9941 94 ∅ ∅ ∅];show(jx (L2.qZ yA.cps.toList (mix (c+7*(0+(k:Int))) 9941 94))).bind (λch=>Rs.ok (Tr.str ⟨#[ch]⟩))=_;have M:(mix (c+7*(0+(k:Int))) 9941 94).toNat<yA.cps.toList.length:=by rw[Dy.2];omega
   have q:=lJ (xs:=yA.cps.toList) (j:=(mix (c+7*(0+(k:Int))) 9941 94).toNat) (cj M);rw[mI m0]at q;rw[q];show Rs.ok (Tr.str ⟨#[_]⟩)=Rs.ok (Tr.str ⟨#[yA.cps.toList.getD _ 0]⟩);rw[qA,cj M];rfl
def rO(D:Dat)(i j:Nat):Prop:=∀k∈[D.ks,D.kb,D.ka],(k<i\/i+6<k)/\k≠j/\k≠j+1/\k≠j+2
def Apart(D D':Dat):Prop:=∀k∈[D.ks,D.kb,D.ka],k∉[D'.ks,D'.kb,D'.ka]
def Apart.symm (h:Apart D D'):Apart D' D:=λk L q=>h k q L
def far{i j q b:Nat}(r:(i=7/\j=16/\q=27/\b=36)\/(i=27/\j=36/\q=7/\b=16)){k:Nat}(I:(i<=k/\k<=i+6)\/k=j\/k=j+1\/k=j+2):(k<q\/q+6<k)/\k≠b/\k≠b+1/\k≠b+2:=by
 rcases r with⟨rfl,rfl,rfl,rfl⟩|⟨rfl,rfl,rfl,rfl⟩<;>refine⟨?_,?_,?_,?_⟩<;>omega
def rO.ne (c:rO D i j){k q:Nat}(b:(i<=k/\k<=i+6)\/k=j\/k=j+1\/k=j+2)(r:q∈[D.ks,D.kb,D.ka]):k≠q:=λe=>by
 subst e;have c:=c k r;rcases b with h|h|h|h
 .rcases c.1 with z|z
  .exact Nat.not_le_of_lt z h.1
  .exact Nat.not_le_of_lt z h.2
 .exact c.2.1 h
 .exact c.2.2.1 h
 .exact c.2.2.2 h
def KQ{i j b I:Nat}(M:(i=7/\j=16/\b=27/\I=36)\/(i=27/\j=36/\b=7/\I=16))(hH:bN A aB b8)(hM:eB A bB c8)(S:Pr A i j D t)(R2:Pr A b I D' t)(c1:rO D b I)(c2:rO D' i j)(ap:Apart D D')(res:Res A i j D t ts):
  ∃A' D1,mf ts A=.ok (.bl true) A'/\bN A' aB b8/\eB A' bB c8/\Pr A' i j D1 (t+1)/\Pr A' b I D' (t+1)/\rO D1 b I/\rO D' i j/\Apart D1 D':=by
 obtain⟨A',D1,e,x,P1,kp⟩:=res;have hi:=S.hi;have t6:∀k∈touched i j D,6<k:=λk L=>by
  rcases cE.mp L with L|L
  .simp only[aZ,dF,dH]at L;omega
  .exact(S.dj k L).1
 have l1:=gB R2.m.st;have l2:=gB R2.m.br;have l3:=gB R2.m.as;have l4:=gB R2.m.rl;have l5:=gB R2.r.iv;refine⟨A',D1,e,bN.kp hH x t6,eB.kp hM x t6,P1,R2.kp x λk L=>?_,λk q=>?_,c2,λk q=>?_⟩
 .have go:∀k,((i<=k/\k<=i+6)\/k=j\/k=j+1\/k=j+2)->(k<b\/b+6<k)/\k∉jS I D'.ks D'.kb D'.ka:=λk L=>by
   have f:=far M L;have n:=λq (hq:q∈[D'.ks,D'.kb,D'.ka])=>c2.ne L hq;refine⟨f.1,λm=>?_⟩;simp only[aZ,dF,dH]at m n;rcases m with m|m|m|m
   .exact f.2.1 m
   .exact f.2.2.1 m
   .exact f.2.2.2 m
   .exact n k m rfl
  rcases cE.mp L with L|L
  .refine go k (.inl ?_)
   clear go M
   simp only[aZ,dF,dH]at L;rcases L with rfl|L<;>first|exact⟨aK _,Nat.le_add_right _ 6⟩|omega
  .have:k=j\/k=j+1\/k=j+2\/k∈[D.ks,D.kb,D.ka]:=by simpa using L
   rcases this with h|h|h|h
   .exact go k (.inr (.inl h))
   .exact go k (.inr (.inr (.inl h)))
   .exact go k (.inr (.inr (.inr h)))
   .have f:=c1 k h;refine⟨f.1,λm=>?_⟩;have a:=ap k h;simp only[aZ,dF,dH]at m a;rcases m with m|m|m|m
    .exact f.2.1 m
    .exact f.2.2.1 m
    .exact f.2.2.2 m
    .exact a m
 .rcases kp k q with q|q
  .exact c1 k q
  .omega
 .rcases kp k q with q|q
  .exact ap k q
  .simp only[aZ,dF,dH,not_or];omega
structure Wr(A:Ab)(t:Nat)(aB:List (Str×Bool))(bB:List Str)(D1 D2:Dat):Prop where
 h:bN A aB [("hall",7),("yard",27)]
 m:eB A bB [("hall",16),("yard",36)]
 pp:aB.map (·.1)=bB
 pl:bB.length<=5+t
 p6:∀z∈bB,z∈six
 r1:Pr A 7 16 D1 t
 r2:Pr A 27 36 D2 t
 c1:rO D1 27 36
 c2:rO D2 7 16
 ap:Apart D1 D2
def St(A:Ab)(t:Nat):Prop:=∃aB bB D1 D2,Wr A t aB bB D1 D2
def St.go {f:Str->List Tr}(h:St A t)(S:∀{i j D aB b8 bB c8 c6},Pr A i j D t->bN A aB b8->eB A bB c8->b8.lookup c6=some i->c8.lookup c6=some j->Res A i j D t (f c6)){c6:Str}(M:c6="hall"\/c6="yard"):
  ∃A',mf (f c6) A=.ok (.bl true) A'/\St A' (t+1):=by
 obtain⟨aB,bB,D1,D2,s⟩:=h;have hl:=s.pl;rcases M with rfl|rfl
 .obtain⟨A',D',e,a1,a2,L,b,q,r,I⟩:=KQ (.inl ⟨rfl,rfl,rfl,rfl⟩) s.h s.m s.r1 s.r2 s.c1 s.c2 s.ap (S (c6:="hall") s.r1 s.h s.m ∅ ∅);exact⟨A',e,aB,bB,D',D2,a1,a2,s.pp,∎,s.p6,L,b,q,r,I⟩
 .obtain⟨A',D',e,a1,a2,L,b,q,r,I⟩:=KQ (.inr ⟨rfl,rfl,rfl,rfl⟩) s.h s.m s.r2 s.r1 s.c2 s.c1 s.ap.symm (S (c6:="yard") s.r2 s.h s.m ∅ ∅);exact⟨A',e,aB,bB,D1,D',a1,a2,s.pp,∎,s.p6,b,L,r,q,I.symm⟩
noncomputable abbrev Fe:List (Str×Str):=[("ann","owner"),("bo","guest"),("cy","guest")]
noncomputable abbrev KR:List (Str×Int):=[("ann",1),("bo",2),("cy",3)]
noncomputable abbrev KU:List o4:=[("ann",1,1,none),("bo",1,2,none),("cy",1,3,none)]
noncomputable abbrev KW:List Tr:=[.tup [.int 1,.str "ann",.str "found"],.tup [.int 2,.str "bo",.str "enter"],.tup [.int 3,.str "cy",.str "enter"]]
abbrev vg:List (Str×Str):=[("dee","owner")]
abbrev KY:List (Str×Int):=[("dee",1)]
abbrev KZ:List o4:=[("dee",1,1,none)]
noncomputable abbrev zT:List Tr:=[.tup [.int 1,.str "dee",.str "found"]]
noncomputable abbrev Dz:List (Str×Bool):=[("ann",true),("bo",true),("cy",true),("dee",true),("ed",true)]
def D10:Dat:=⟨KW,Fe,KR,λz=>(KR.lookup z).getD 0,KU,[],[],[],"open","all","shown",19,20,26⟩
def D20:Dat:=⟨zT,vg,KY,λz=>(KY.lookup z).getD 0,KZ,[],[],[],"open","all","shown",39,40,42⟩
noncomputable def B0:Ab:=[.ins "Hall" [("persons",.at 1),("places",.at 2),("hands",.at 3)],.bh [],.bh [],.lst []]
def B1:Ab:=B0++[.bh (dP id [("people",.at 5),("rooms",.at 6)]),.lst (NB.map .str),.bh []]
def A0:Ab:=[.ins "Hall" [("persons",.at 1),("places",.at 2),("hands",.at 3)],.bh (dP .bl Dz),.bh (dP .at [("hall",7),("yard",27)]),.lst [],.bh (dP id [("people",.at 5),("rooms",.at 6)]),.lst (NB.map .str),.bh (dP .at [("hall",16),("yard",36)]),
 .ins "Room" (roomF 7),.lst KW,.bh (dP .str Fe),.bh (dP .int KR),.bh (dP .str (yZ "open" "all" "shown")),.bh [],.bh [],.bh [],.bh [],
 .bh (dP id (AU 16 19 20 26 "open" "all" "shown")),.lst KW,.bh (dP .str Fe),.lst (KU.map vU),.lst [],.lst [],.lst [],.lst [.str "ann"],.lst [],.lst [.str "ann"],.lst [],
 .ins "Room" (roomF 27),.lst zT,.bh (dP .str vg),.bh (dP .int KY),.bh (dP .str (yZ "open" "all" "shown")),.bh [],.bh [],.bh [],.bh [],
 .bh (dP id (AU 36 39 40 42 "open" "all" "shown")),.lst zT,.bh (dP .str vg),.lst (KZ.map vU),.lst [],.lst [],.lst []]
def RZ:CG "Hall" oJ (.ok [] [])=.ok (.at 0) B0:=by kernel_rfl
def NC:zO [.tup [.str "ann",.str "bo",.str "cy",.str "dee",.str "ed"]] B0=.ok (.at 4) B1:=by kernel_rfl
def R0:Dt [.at 0,.at 4] B1=.ok .bM A0:=by kernel_rfl
def Z_{ents:List (Str×Int)}(h:(aq.all λp=>fq.contains p.2&&(decide (p.1.length<=1000)&&(ents.lookup p.1==some ((ents.lookup p.1).getD 0))))=true)(n:(aq.map (·.1)).Nodup)(u:(aq.map λp=>(ents.lookup p.1).getD 0).Pairwise (· <·)):cD aq ents λz=>(ents.lookup z).getD 0:=by
 have q:=λp L=>fh.mp h p L;simp only[bg,hZ,fF]at q;exact⟨λp L=>dz.mp (q p L).1,n,λp L=>(q p L).2.1,λp L=>(q p L).2.2,u⟩
theorem rows0{rows:List Tr}(h:(rows.all λt=>match t with|.tup us=>us.all rb&&decide (us.length<=10)|_=>false)=true):gY rows:=λt L=>by
 have q:=fh.mp h t L;cases t with
 |tup us=>
  have q:(us.all rb&&decide (us.length<=10))=true:=q;rw[bg,hZ]at q;exact⟨us,rfl,q⟩
 |_=>cases q
def st0:St A0 0:=⟨Dz,NB,D10,D20,⟨rfl,rfl,rfl⟩,⟨rfl,rfl,rfl⟩,rfl,∅,∅,
 ⟨⟨rfl,rfl,rfl,rfl,rfl,rfl,rfl⟩,⟨rfl,rfl,rfl,rfl,rfl,rfl,∅⟩,⟨rows0 rfl,Z_ ∅ ∅ ∅,rfl,∅,.inr ∅,λ_=>rfl,∅,∅,∅,∅⟩,⟨∅,∅,∅,∅,∅,∅,∅⟩,∅,∅,(((Seen.nil.add (rows:=[]) (z:="ann") ∅ (.found ∅ ∅)).add (z:="bo") ∅ (.enter ∅ ∅)).add (z:="cy") ∅ (.enter ∅ ∅))⟩,
 ⟨⟨rfl,rfl,rfl,rfl,rfl,rfl,rfl⟩,⟨rfl,rfl,rfl,rfl,rfl,rfl,∅⟩,⟨rows0 rfl,Z_ ∅ ∅ ∅,rfl,∅,.inr ∅,λ_=>rfl,∅,∅,∅,∅⟩,⟨∅,∅,∅,∅,∅,∅,∅⟩,∅,∅,(Seen.nil.add (rows:=[]) (z:="dee") ∅ (.found ∅ ∅))⟩,by unfold rO;decide,by unfold rO;decide,by unfold Apart;decide⟩
def HM(h:gw ws ts):jy ts=true:=by
 cases h with
 |say _ _ _ L=>rcases L with rfl|⟨n,rfl,_⟩<;>rfl
 |_=>rfl
theorem Gq{T:xR}{G:bS->Ab->Rz Out}{n:Nat}(I:Nat->bS->Ab->Prop)(h:∀k Y A,k<n->I k Y A->∃M,T (.int (0+(k:Nat))) Y=.ok M/\∃b q,G M A=.ok (.nx b) q/\I (k+1) b q):∀(m k:Nat) (Y:bS) (A:Ab),k+m=n->I k Y A->∃r A',mv T G ((List.range' k m).map λk=>Tr.int (0+(k:Nat))) Y A=.ok (.nx r) A'/\I n r A'
 |0,k,Y,A,e,hi=>⟨Y,A,rfl,by rwa[<-e]⟩
 |m+1,k,Y,A,e,hi=>by
  obtain⟨M,L,b,q,S,h2⟩:=h k Y A ∎ hi;obtain⟨r,A',e3,h3⟩:=Gq I h m (k+1) b q ∎ h2;refine⟨r,A',?_,h3⟩;rw[List.range'_succ,a_];simp only[EL,L,cI,bw,S];exact e3
def K0{n:Nat}{T:xR}{G:bS->Ab->Rz Out}{A0:Ab}(I:Nat->bS->Ab->Prop)(h0:I 0 b A0)(h:∀k Y A,k<n->I k Y A->∃r,T (.int (0+(k:Nat))) Y=.ok r/\∃M S,G r A=.ok (.nx M) S/\I (k+1) M S)(hK:∀Y A,I n Y A->nk (K Y A)=.ok (.bl true)):
  nk (Av (mv T G ((List.range' 0 n).map λk=>Tr.int (0+(k:Nat))) b A0) K)=.ok (.bl true):=by
 obtain⟨L,A',e,q⟩:=Gq I h n 0 b A0 ∎ h0;rw[show mv T G ((List.range' 0 n).map λk=>Tr.int (0+(k:Nat))) b A0=_ from e];exact hK L A' q
def ND(j:Int):B9 (.ok [.int j])=if-4611686018427387904<=j/\j<4611686018427387904 then .ok (oY 0 j.toNat)else .bad:=rfl
def VC:B9 (.ok [.int 40])=.ok ((List.range' 0 40).map λk=>Tr.int (0+(k:Nat))):=by rw[ND,av ∅];show Rs.ok (oY 0 40)=_;unfold oY;rw[List.range_eq_range']
def tw(t:Tr):Str:=match t with
 |.tup (_::_:: .str w::_)=>w
 |_=>Str.empty
def YO(T:Tr)(c6:Str):Prop:=∃rows,PZ fU (vq (fU T (.str "rooms")) (.ok (.str c6)) (.ok (.bh [(.inr "rows",.lst [])]))) (.ok (.str "rows"))=.ok (.lst rows)/\(∀t∈rows,RD t)/\`d<900
def R3{x:Rs Out}{K:bS->Rs Out}{P:Rs Tr->Prop}{Φ:bS->Prop}(h:∃Y,x=.ok (.nx Y)/\Φ Y)(k:∀Y,Φ Y->P (dh (K Y))):P (dh (B5 x K)):=by
 obtain⟨Y,rfl,q⟩:=h;exact k Y q
theorem R4{ws:List Str}(hws:∀w∈ws,w∈("say":Str)::"mend"::"take_back"::ten)(hl:0<ws.length)(c:Int)(T:Tr)(hT:∀c6:Str,c6="hall"\/c6="yard"->YO T c6):∃ts,Dp [.int c,T,.tup (ws.map .str)]=.ok (.tup ts)/\gw ws ts:=by
 show∃ts,dh (uD.1 [.sh (.int c),.sh T,.sh (.tup (ws.map .str)),.no,.no,.no,.no,.no,.no,.no,.no,.no])=.ok (.tup ts)/\_;unfold uD;have L:=λp m (hp:0<p) (Sn:p<=1048576) (hm:0<m)=>Gn c p m hp Sn hm;simp only[ev,bw,L 9931 20 ∅ ∅ ∅,aT,aU];refine Fd (P:=λr=>∃ts,r=.ok (.tup ts)/\gw ws ts) λr h=>?_
 obtain⟨l,h0,h6,rfl⟩:∃l:List Str,(0:Int)<l.length/\(∀z∈l,z∈six)/\r=.ok (.nx [.sh (.int c),.sh T,.sh (.tup (ws.map .str)),.sh (.tup (l.map .str)),.no,.no,.no,.no,.no,.no,.no,.no]):=by
  rcases h with rfl|rfl
  .exact⟨three,∅,∅,rfl⟩
  .exact⟨NB,∅,∅,rfl⟩
 have hm:(0:Int)<ws.length:=∎
 have k4:∀l:List Str,((l.map Tr.str).length:Int)=l.length:=λl=>by rw[aP]
 have pk:=λ{l:List Str} {p m:Int} (hm:0<m) (hl:m=l.length)=>OH (l:=l) (i9 (c:=c) (p:=p) hm).1 (hl▸(i9 hm).2);obtain⟨c6,hr,er⟩:=pk (l:=rms) (p:=9907) (m:=4) ∅ rfl;obtain⟨c7,hw,ew⟩:=pk (l:=ws) (p:=9901) (m:=ws.length) hm rfl;obtain⟨aw,g3,e3⟩:=pk (l:=l) (p:=9929) (m:=l.length) h0 rfl;obtain⟨d4,g4,e4⟩:=pk (l:=l) (p:=9923) (m:=l.length) h0 rfl;obtain⟨rl,hrl,e7⟩:=pk (l:=fq) (p:=9883) (m:=4) ∅ rfl;obtain⟨st,cJ,_,e8⟩:=Bm (l:=sets) (i9 (c:=c) (p:=9887) (m:=6) ∅).1 (by exact(i9 ∅).2);have I:c6="hall"\/c6="yard":=by simpa using hr
 have h3:=h6 aw g3;have h4:=h6 d4 g4;have M:=hws c7 hw;simp only[aZ,dF,dH]at M cJ;simp only[a_,sZ]at er e7;have ni:zl (.str "arrange") (.tup [.str "come",.str "found",.str "enter",.str "leave"])=.ok (.bl false)/\zl (.str "role") (.tup [.str "come",.str "found",.str "enter",.str "leave"])=.ok (.bl false):=⟨rfl,rfl⟩;have l3:∀a b c,Aj (.ok [a,b,c])=.ok (.lst [a,b,c]):=λ_ _ _=>rfl;have a3:rX (.lst [.tup [.str "door",.str "open"],.tup [.str "door",.str "asked"],.tup [.str "voice",.str "all"]]) (.lst [.tup [.str "voice",.str "some"],.tup [.str "past",.str "shown"],.tup [.str "past",.str "hidden"]])=.ok (.lst sets):=rfl;simp only[ev,bw,k4,L 9929 l.length ∅ ∅ h0,L 9923 l.length ∅ ∅ h0,L 9907 4 ∅ ∅ ∅,L 9901 ws.length ∅ ∅ hm,e3,e4,er,ew,aT,aU];have M:(c7="say"\/c7="mend"\/c7="take_back")\/(c7="come"\/c7="found"\/c7="enter"\/c7="leave"\/c7="arrange"\/c7="role"\/c7="ask"\/c7="out"\/c7="bar"\/c7="unbar"):=by
  rcases M with h|h|h|h
  .exact .inl (.inl h)
  .exact .inl (.inr (.inl h))
  .exact .inl (.inr (.inr h))
  .exact .inr h
 rcases M with Z'|M
 .have nw:zl (.str c7) (.tup [.str "come",.str "found",.str "enter",.str "leave"])=.ok (.bl false)/\zl (.str c7) (.tup [.str "ask",.str "out",.str "bar",.str "unbar"])=.ok (.bl false)/\(c7==Str.ofString "arrange")=false/\(c7==Str.ofString "role")=false:=by
   rcases Z' with rfl|rfl|rfl<;>exact⟨rfl,rfl,∅,∅⟩
  simp only[ev,bw,nw,aT,aU];obtain⟨rows,e9,YQ,hlr⟩:=hT c6 I;have e0:Ug (I0 (.ok (.str "rows")) (Aj (.ok [])) (.ok []))=.ok (.bh [(.inr "rows",.lst [])]):=rfl;have mk:∀(m:Nat),0<m->Bh [.int c,.int 9859,.int m]=.ok (.int (mix c 9859 m)):=λm hm=>Gn c 9859 m ∅ ∅ ∎;have m4:Cd (.int c) (.int 4)=.ok (.int (c % 4)):=Fc ∅;obtain⟨z1,ez1⟩:=Gp (c+1);obtain⟨z2,ez2⟩:=Gp (c+2);have m10:=i9 (c:=c) (p:=9871) (m:=(`d:Int)+2) ∎;have sq:uO (.ok (.lst rows))=.ok (rows.map id):=by rw[pH];rfl
  simp only[e0,e9,ev,bw,L 9871 (`d+2) ∅ ∅ ∎,m4,aT,aU];rw[dk (sF:=[]) (λt=>tw t==("say":Str)) id (λt=>.int (tn t)) (xs:=rows) sq (aV (cP hlr) ∅) rfl (λt q=>by obtain⟨n,z,w,ps,rfl,_⟩:=YQ t q;simp only[ev,bw,jq,id];rfl) (λt q _=>by obtain⟨n,z,w,ps,rfl,_⟩:=YQ t q;simp only[ev,bw,jq,id];rfl)];simp only[ev,bw,aT,aU];have fin:∀n:Int,0<=n/\n<1000->∃ky,fU (.tup [.bM,.bM,.int n]) (.int (mix c 9857 3))=.ok ky/\zU ky:=λn hn=>by
   obtain⟨t,q,e,_⟩:=Bm (l:=[.bM,.bM,.int n]) (i9 (c:=c) (p:=9857) (m:=3) ∅).1 (i9 ∅).2;refine⟨t,e,?_⟩;simp only[aZ,dF,dH]at q;rcases q with rfl|rfl|rfl
   .exact .inl rfl
   .exact .inl rfl
   .exact .inr ⟨n,rfl,hn⟩
  have t3:∀a b c:Tr,yQ (.ok [a,b,c])=.ok (.tup [a,b,c]):=λ_ _ _=>rfl;refine R3 (P:=λr=>∃ts,r=.ok (.tup ts)/\gw ws ts) (Φ:=λY=>∃(n:Int) (s:Cell),(0<=n/\n<1000)/\Y=[.sh (.int c),.sh T,.sh (.tup (ws.map .str)),.sh (.tup (l.map .str)),.sh (.str aw),.sh (.str d4),.sh (.str c6),.sh (.str c7),.no,.sh (.lst rows),.sh (.int n),s]) ?_ ?_
  .generalize hS:rows.filter (λt=>tw t==("say":Str))=S;have hb:∀t∈S,0<=tn t/\tn t<1000:=λt q=>by
    rw[<-hS]at q;obtain⟨n,z,w,ps,rfl,R⟩:=YQ t (bP.mp q).1;exact R.b
   cases S with
   |nil=>exact⟨_,rfl,mix c 9871 (`d+2),_,∎,rfl⟩
   |cons t S=>
    have tt:nO (.lst ((t::S).map λt=>.int (tn t)))=.ok true:=rfl;simp only[tt,ev,bw,m4];cases decide (0<c % 4)with
    |false=>exact⟨_,rfl,mix c 9871 (`d+2),_,∎,rfl⟩
    |true=>
     have W5:((t::S).map λt=>Tr.int (tn t)).length=(t::S).length:=aP ..;obtain⟨u,hu,_,eu⟩:=Bm (l:=(t::S).map λt=>Tr.int (tn t)) (i9 (c:=c) (p:=9859) (m:=((t::S).length:Nat)) (by rw[cY];omega)).1 (by rw[W5];exact(i9 (by rw[cY];omega)).2);obtain⟨v,hv,rfl⟩:=bQ.mp hu;simp only[ev,bw,W5,mk _ (show 0<(t::S).length by rw[cY];omega),eu,aT,aU];exact⟨_,rfl,tn v,_,hb v hv,rfl⟩
  .rintro Y ⟨n,s,hn,rfl⟩
   obtain⟨ky,ea,ha⟩:=fin n hn;rcases Z' with rfl|rfl|rfl
   .refine⟨_,?_,gw.say (words:=z1) hw h3 I ha⟩;simp only[ev,bw,ez1,t3,L 9857 3 ∅ ∅ ∅,ea,bD]
   .refine⟨_,?_,gw.lj (words:=z2) hw h3 I hn⟩;simp only[ev,bw,ez2,sn,String.reduceBEq,bD]
   .refine⟨_,?_,gw.take hw h3 I hn⟩;simp only[ev,bw,sn,String.reduceBEq]
 rcases M with rfl|rfl|rfl|rfl|rfl|rfl|rfl|rfl|rfl|rfl
 all_goals first
  |exact⟨_,rfl,.VB hw h3⟩
  |exact⟨_,rfl,.one *...* hw h3 I⟩
  |exact⟨_,rfl,.two *...* hw h3 I h4⟩
  |skip
 all_goals simp only[ev,bw,sn,String.reduceBEq,bD,ni,L 9887 6 ∅ ∅ ∅,L 9883 4 ∅ ∅ ∅,e7,l3,a3,e8,aT,aU]
 all_goals first
  |exact⟨_,rfl,.role hw h3 I h4 hrl⟩
  |(rcases cJ with rfl|rfl|rfl|rfl|rfl|rfl<;>exact⟨_,rfl,.arr hw h3 I *...* ∅⟩)
abbrev w8:List Str:=["say","say","say","mend","mend","take_back","enter","enter","leave","arrange","role","out"]
theorem step(h:St A t)(hd:gw w8 ts)(ht:t<=300):∃A',mf ts A=.ok (.bl true) A'/\St A' (t+1):=by
 cases hd with
 |VB q=>exact absurd q ∅
 |@one c7 aw c6 hw q M S=>
  rcases hw with rfl|rfl|rfl
  .exact absurd q ∅
  .exact h.go (f:=λc6=>[.str "enter",.str aw,.str c6]) (λP L b hi I=>Nx P L b hi I M ∎) S
  .exact h.go (f:=λc6=>[.str "leave",.str aw,.str c6]) (λP L b hi I=>Ny P L b hi I M ∎) S
 |@arr aw c6 fm val q M S hw hz=>exact h.go (f:=λc6=>[.str "arrange",.str aw,.str c6,.str fm,.str val]) (λP L b hi I=>Vp P L b hi I M hw hz ∎) S
 |@role aw c6 d4 r q M S h7 h4=>exact h.go (f:=λc6=>[.str "role",.str aw,.str c6,.str d4,.str r]) (λP L b hi I=>RL P L b hi I M h7 h4 ∎) S
 |@say aw c6 words ky q M S ha=>exact h.go (f:=λc6=>[.str "say",.str aw,.str c6,.str words,ky]) (λP L b hi I=>VA P L b hi I M ha ∎) S
 |@lj aw c6 words n q M S hn=>exact h.go (f:=λc6=>[.str "mend",.str aw,.str c6,.int n,.str words]) (λP L b hi I=>RS P L b hi I M hn ∎) S
 |@take aw c6 n q M S hn=>exact h.go (f:=λc6=>[.str "take_back",.str aw,.str c6,.int n]) (λP L b hi I=>RW P L b hi I M hn ∎) S
 |@two c7 aw c6 d4 hw q M S h7=>
  rcases hw with rfl|rfl|rfl|rfl
  .exact absurd q ∅
  .exact h.go (f:=λc6=>[.str "out",.str aw,.str c6,.str d4]) (λP L b hi I=>Vv P L b hi I M h7 ∎) S
  .exact absurd q ∅
  .exact absurd q ∅
def Pr.rm (P:Pr A i j D t)(q:eB A bB c8)(r:c8.lookup c6=some j)(I:t<=300):YO (aF 5 A (.at 4)) c6:=by
 have L:=P.b.b1;refine⟨D.rows,?_,P.se.w,∎⟩;rw[q.YE (n:=3)];have e:vq (.ok (.bh (dP (λj=>aF 3 A (.at j)) c8))) (.ok (.str c6)) (.ok (.bh [(.inr "rows",.lst [])]))=.ok (aF 3 A (.at j)):=by
  show Rs.ok ((du (dP (λj=>aF 3 A (.at j)) c8) (.inr c6)).getD _)=_;rw[dS,r];rfl
 rw[e];exact P.m.Ro (n:=1) P.g.fr.tu
theorem St.rm (h:St A t)(b:t<=300)(c6:Str)(q:c6="hall"\/c6="yard"):YO (aF 5 A (.at 4)) c6:=by
 obtain⟨aB,bB,D1,D2,s⟩:=h;rcases q with rfl|rfl
 .exact s.r1.rm s.m ∅ b
 .exact s.r2.rm s.m ∅ b
def DA(h:bN A aB b8)(hi:b8.lookup name=some i):oR [aF 5 A (.at 0),.str name]=.ok (aF 3 A (.at i)):=by
 show dh (gR.1 [.sh (aF 5 A (.at 0)),.sh (.str name)])=_;unfold gR;simp only[ev,bw,h.Vd,dS,hi,cZ,ja,dG,ej,jx]
def NF(h:bN A aB b8)(hi:b8.lookup name=some i)(P:Pr A i j D t):vI [aF 5 A (.at 0),.str name]=.ok (.tup D.rows):=by
 show dh (l9.1 [.sh (aF 5 A (.at 0)),.sh (.str name)])=_;unfold l9;have e:vH [aF 3 A (.at i)]=.ok (.tup D.rows):=by
  show dh (l8.1 [.sh (aF 3 A (.at i))])=_;unfold l8;simp only[ev,bw,P.r.Rq (n:=1) P.g.fr.tu,SF]
 simp only[ev,bw,h.d9 (n:=4) (m:="place") rfl,DA h hi,P.r.d9 (n:=2) (m:="rows") rfl,e]
inductive Kd
 |say (a:Str) (b:Option Int)
 |lj (m:Int) (a:Str)
 |gone (m:Int)
 |Gr
structure Rw where
 n:Int
 z:Str
 w:Str
 ps:List Tr
 k:Kd
variable {rs:List Rw}
def NG:Option Int->Tr
 |none=>.bM
 |some i=>.int i
def ju(r:Rw):Tr:=.tup (.int r.n:: .str r.z:: .str r.w::r.ps)
def Rw.Ok (r:Rw):Prop:=match r.k with
 |.say a b=>r.w="say"/\r.ps=[.str a,NG b]
 |.lj m a=>r.w="mend"/\r.ps=[.int m,.str a]/\m<r.n
 |.gone m=>r.w="gone"/\r.ps=[.int m]/\m<r.n
 |.Gr=>(r.w==("say":Str))=false/\(r.w==("mend":Str))=false/\(r.w==("gone":Str))=false
structure DB(rows:List Tr)(rs:List Rw):Prop where
 e:rows=rs.map ju
 ok:∀r∈rs,r.Ok
 n:∀i (h:i<rs.length),rs[i].n=i+1
abbrev VD:List Str:=["found","enter","role","leave","out","bar","set","ask","unbar"]
def Ff{n:Int}{w:Str}(h:w∈VD):Rw.Ok ⟨n,aw,w,rows,.Gr⟩:=(by decide:∀w∈VD,(w==("say":Str))=false/\(w==("mend":Str))=false/\(w==("gone":Str))=false) w h
def DM.kd (q:DM rows l v z w ps r I):∃k,Rw.Ok ⟨`d+1,z,w,ps,k⟩:=by
 cases q with
 |@say a b h _=>
  rcases h with rfl|⟨k,rfl⟩
  .exact⟨.say a none,rfl,rfl⟩
  .exact⟨.say a (some k),rfl,rfl⟩
 |@lj a n h=>exact⟨.lj n a,rfl,rfl,by have:=h.1;show n<(`d:Int)+1;omega⟩
 |@gone y n h _=>exact⟨.gone n,rfl,rfl,by have:=h.1;show n<(`d:Int)+1;omega⟩
 |out h=>exact⟨.Gr,Ff (by rcases h with rfl|rfl<;>simp)⟩
 |ask h=>exact⟨.Gr,Ff (by rcases h with rfl|rfl<;>simp)⟩
 |_=>exact⟨.Gr,Ff *...*⟩
theorem RF.rws (h:RF rows l v):∃rs,DB rows rs:=by
 induction h with
 |nil=>exact⟨[],rfl,(λ_ h=>nomatch h),(λ_ h=>nomatch h)⟩
 |@add rows l b v I z w ps _ q L=>
  obtain⟨rs,h⟩:=L;obtain⟨k,M⟩:=q.kd;have ln:`d=rs.length:=by rw[h.e,aP]
  refine⟨rs++[⟨`d+1,z,w,ps,k⟩],by rw[h.e,j9,aP];rfl,λr m=>?_,λi hi=>?_⟩
  .rcases cE.mp m with m|m
   .exact h.ok r m
   .rwa[cn.mp m]
  .rw[di]at hi;have hi:i<rs.length+1:=hi;by_cases e:i<rs.length
   .rw[List.getElem_append_left e];exact h.n i e
   .have:i=rs.length:=∎
    subst this;rw[List.getElem_append_right (aK _)];simp[ln]
theorem NH:(nA b).Pairwise (· <·):=by
 unfold nA;rw[List.pairwise_map];exact List.pairwise_lt_range.imp λh=>by omega
theorem RF.up (h:RF rows l v)(aw:Str):(sb aw rows).1.Pairwise (· <·)/\∀n∈(sb aw rows).1,1<=n/\n<=rows.length:=by
 induction h with
 |nil=>exact⟨.nil,λ_ h=>nomatch h⟩
 |@add rows l I v M z w ps _ q L=>
  rw[Ky];have ln:((rows++[Tr.tup (.int (`d+1):: .str z:: .str w::ps)]).length:Int)=`d+1:=by rw[di];rfl
  rw[ln];simp only[SM];have a:∀{S:List Int},(S.Pairwise (· <·)/\∀n∈S,1<=n/\n<=`d)->∀i:Bool,(if i then S++[(`d:Int)+1]else S).Pairwise (· <·)/\∀n∈(if i then S++[(`d:Int)+1]else S),1<=n/\n<=(`d:Int)+1:=λ{S} h i=>by
   cases i with
   |false=>exact⟨h.1,λn m=>by have:=h.2 n m;omega⟩
   |true=>
    refine⟨List.pairwise_append.mpr ⟨h.1,by simp,λx b y r=>?_⟩,λn m=>?_⟩
    .have:=h.2 x b;have:=cn.mp r;omega
    .rcases cE.mp m with m|m
     .have:=h.2 n m;omega
     .have:=cn.mp m;omega
  refine a ?_ _
  split
  .exact⟨NH,λn m=>by have:=Dv.mp m;omega⟩
  .exact L
theorem up_eq:∀{S T:List Int},S.Pairwise (· <·)->T.Pairwise (· <·)->(∀n,n∈S↔n∈T)->S=T
 |[],[],_,_,_=>rfl
 |[],t::T,_,_,h=>nomatch (h t).mpr (bF ..)
 |s::S,[],_,_,h=>nomatch (h s).mp (bF ..)
 |s::S,t::T,hs,b,h=>by
  rw[List.pairwise_cons]at hs b;have e:s=t:=by
   rcases aZ.mp ((h s).mp (bF ..))with e|m
   .exact e
   .rcases aZ.mp ((h t).mpr (bF ..))with e|L
    .exact e.symm
    .have:=hs.1 t L;have:=b.1 s m;omega
  subst e;rw[up_eq hs.2 b.2 λn=>⟨λm=>?_,λm=>?_⟩]
  .rcases aZ.mp ((h n).mp (bG _ m))with e|L
   .have:=hs.1 n m;omega
   .exact L
  .rcases aZ.mp ((h n).mpr (bG _ m))with e|L
   .have:=b.1 n m;omega
   .exact L
def Rw.Gs (S:List Int)(r:Rw):Bool:=S.contains r.n
theorem DB.ns (h:DB rows rs):(rs.map (·.n)).Pairwise (· <·):=by
 rw[List.pairwise_iff_getElem];intro i j hi L b;rw[aP]at hi L;rw[List.getElem_map,List.getElem_map,h.n i hi,h.n j L];omega
theorem DB.at (h:DB rows rs){n:Int}(q:1<=n/\n<=`d):∃r∈rs,r.n=n/\fU (.lst rows) (.int (n - 1))=.ok (ju r)/\fU (.tup rows) (.int (n - 1))=.ok (ju r)/\rs=rs.take (n - 1).toNat++r::rs.drop n.toNat:=by
 have ln:`d=rs.length:=by rw[h.e,aP]
 have L:(n - 1).toNat<rs.length:=∎
 have g:rows[(n - 1).toNat]?=some (ju rs[(n - 1).toNat]):=by rw[h.e,bW,cj L];rfl
 have a:=lJ (xs:=rows) (j:=(n - 1).toNat) g;rw[mI ∎]at a;refine⟨rs[(n - 1).toNat],kA L,by rw[h.n _ L];omega,by show jx (L2.qZ rows (n - 1))=_;rw[a];rfl,by show jx (L2.qZ rows (n - 1))=_;rw[a];rfl,?_⟩;rw[show n.toNat=(n - 1).toNat+1 by omega,<-qB L,List.take_append_drop]
def DB.inj (h:DB rows rs){a b:Rw}(q:a∈rs)(hb:b∈rs)(e:a.n=b.n):a=b:=by
 obtain⟨i,hi,rfl⟩:=lC.mp q;obtain⟨j,L,rfl⟩:=lC.mp hb;rw[h.n i hi,h.n j L]at e;have:i=j:=∎
 subst this;rfl
def DB.sel {S:List Int}(h:DB rows rs)(up:S.Pairwise (· <·))(lo:∀n∈S,1<=n/\n<=`d):((rs.filter (Rw.Gs S)).map (·.n))=S:=by
 refine up_eq ?_ up λn=>⟨λm=>?_,λm=>?_⟩
 .exact h.ns.sublist (wM.map _)
 .obtain⟨r,L,rfl⟩:=bQ.mp m;exact dz.mp (bP.mp L).2
 .obtain⟨r,L,e,_⟩:=h.at (lo n m);exact bQ.mpr ⟨r,bP.mpr ⟨L,by subst e;exact dz.mpr m⟩,e⟩
theorem wz:du (fB d k v) k'=if k'=k then some v else du d k':=by
 unfold fB du;cases r:(d.any λL=>decide (L.1=k))with
 |true=>
  rw[av rfl,List.find?_map,show((λL:Key×Tr=>decide (L.1=k'))∘λL=>if L.1=k then(L.1,v)else L)=λL=>decide (L.1=k')from funext λL=>by show decide ((if L.1=k then(L.1,v)else L).1=k')=_;split<;>rfl];cases e:d.find? λL=>decide (L.1=k')with
  |none=>
   by_cases h:k'=k
   .subst h;obtain⟨p,b,q⟩:=pA.mp r;exact absurd q (by simpa using wQ.mp e p b)
   .rw[aA h];rfl
  |some p=>
   have b:p.1=k':=by simpa using List.find?_some e
   by_cases h:k'=k
   .rw[av h];show some (if p.1=k then(p.1,v)else p).2=_;rw[av (b.trans h)]
   .rw[aA h];show some (if p.1=k then(p.1,v)else p).2=_;rw[aA λq=>h (b.symm.trans q)];rfl
 |false=>
  rw[aA hX,List.find?_append];by_cases h:k'=k
  .subst h;have e:(d.find? λL=>decide (L.1=k'))=none:=wQ.mpr λp b=>by simpa using(wV.mp r) p b
   rw[e,av rfl];simp
  .rw[aA h];have:([(k,v)].find? λL=>decide (L.1=k'))=none:=by simp[Ne.symm h]
   rw[this,Option.or_none]
def Bo:(fB d k v).length<=d.length+1:=by
 unfold fB;split
 .rw[aP];omega
 .rw[di];exact aK _
def R5{d:List (Key×Tr)}(h:(d.all λp=>OD p.1)=true)(r:OD k=true):((fB d k v).all λp=>OD p.1)=true:=by
 rw[fh]at h⊢;unfold fB;split
 .intro p L;obtain⟨q,b,rfl⟩:=bQ.mp L;have:=h q b;split<;>exact this
 .intro p L;rcases cE.mp L with L|L
  .exact h p L
  .rwa[cn.mp L]
def Bp{A:Ab}{i:Nat}(h:A[i]?=some (.bh aS))(b:aS.length<dy):putD A (.at i) (.int z) t Y=.ok (.nx Y) (A.set i (.bh (fB aS (.inl z) t))):=by
 have:zE A (.at i) (.int z) t=some (A.set i (.bh (fB aS (.inl z) t))):=by
  show(match A[i]? with|some (.bh aS)=>if aS.length<dy then some (A.set i (.bh (fB aS (.inl z) t)))else none|_=>none)=_;rw[h];exact av b
 unfold putD;rw[this]
def o8(d:List (Key×Tr))(r:Rw):List (Key×Tr):=match r.k with
 |.say a _=>fB d (.inl r.n) (.str a)
 |.lj m a=>fB d (.inl m) (.str a)
 |.gone m=>fB d (.inl m) .bM
 |.Gr=>d
def qw(n:Int)(o:Option Tr)(r:Rw):Option Tr:=match r.k with
 |.say a _=>if n=r.n then some (.str a)else o
 |.lj m a=>if n=m then some (.str a)else o
 |.gone m=>if n=m then some .bM else o
 |.Gr=>o
def OI(R:List Rw)(n:Int):Option Tr:=R.foldl (qw n) none
theorem Gu:∀{R:List Rw} {d:List (Key×Tr)},du (R.foldl o8 d) (.inl n)=R.foldl (qw n) (du d (.inl n))
 |[],_=>rfl
 |r::R,d=>by
  rw[fY,fY,Gu (R:=R)];congr 1;unfold o8 qw;cases r.k with
  |say a b=>simp only[wz,Sum.inl.injEq]
  |lj m a=>simp only[wz,Sum.inl.injEq]
  |gone m=>simp only[wz,Sum.inl.injEq]
  |Gr=>rfl
theorem DC:∀{R:List Rw} {d:List (Key×Tr)},(∀p∈d,(∀n A,aF n A p.2=p.2)/\lq p.2=true)->∀p∈R.foldl o8 d,(∀n A,aF n A p.2=p.2)/\lq p.2=true
 |[],_,h=>h
 |r::R,d,h=>by
  rw[fY];have put:∀{k:Key} {v:Tr},((∀n A,aF n A v=v)/\lq v=true)->∀p∈fB d k v,(∀n A,aF n A p.2=p.2)/\lq p.2=true:=λ{k v} I p L=>by
   unfold fB at L;split at L
   .obtain⟨q,M,rfl⟩:=bQ.mp L;split
    .exact I
    .exact h q M
   .rcases cE.mp L with L|L
    .exact h p L
    .rwa[cn.mp L]
  refine DC ?_
  unfold o8;cases r.k with
  |say a b=>exact put ⟨λ_ _=>r8,rfl⟩
  |lj m a=>exact put ⟨λ_ _=>r8,rfl⟩
  |gone m=>exact put ⟨λn A=>by cases n<;>rfl,rfl⟩
  |Gr=>exact h
def LtI(rows:List Tr)(d:List (Key×Tr))(m:Nat)(Y:bS)(A:Ab):Prop:=d.length+m<=5000/\∃k c,Y=[.sh (.lst rows),.sh (.at k),c]/\A[k]?=some (.bh d)
theorem zY{Z:Type}{T:xR}{G:bS->Ab->Rz Out}{f:Z->α->Z}{g:α->Tr}{P:α->Prop}(I:Z->Nat->bS->Ab->Prop)(h:∀x n r Y A,P r->I x (n+1) Y A->∃S,T (g r) Y=.ok S/\∃b q,G S A=.ok (.nx b) q/\I (f x r) n b q):
  ∀(R:List α) (x:Z) (Y:bS) (A:Ab),(∀r∈R,P r)->I x R.length Y A->∃M A',mv T G (R.map g) Y A=.ok (.nx M) A'/\I (R.foldl f x) 0 M A'
 |[],x,Y,A,_,hi=>⟨Y,A,rfl,hi⟩
 |r::R,x,Y,A,L,hi=>by
  obtain⟨S,e1,b,q,e2,h2⟩:=h x R.length r Y A (L r (bF ..)) hi;obtain⟨M,A',e3,h3⟩:=zY I h R (f x r) b q (λu hu=>L u (bG _ hu)) h2;refine⟨M,A',?_,h3⟩;rw[a_];simp only[EL,e1,cI,bw,e2];exact e3
def HN{Z:Type}{T:xR}{G:bS->Ab->Rz Out}{f:Z->α->Z}{g:α->Tr}{P:α->Prop}{R:List α}{x:Z}{Y:bS}{A:Ab}{r:Rs Tr}(I:Z->Nat->bS->Ab->Prop)(hi:I x R.length Y A)(hp:∀r∈R,P r)(h:∀x n r Y A,P r->I x (n+1) Y A->∃b,T (g r) Y=.ok b/\∃M S,G b A=.ok (.nx M) S/\I (f x r) n M S)
  (hK:∀Y A,I (R.foldl f x) 0 Y A->nk (K Y A)=r):nk (Av (mv T G (R.map g) Y A) K)=r:=by
 obtain⟨L,A',e,q⟩:=zY I h R x Y A hp hi;rw[e];exact hK L A' q
def Kd.s:Kd->Bool
 |.say .. =>true
 |_=>false
def Kd.m:Kd->Bool
 |.lj .. =>true
 |_=>false
def Kd.g:Kd->Bool
 |.gone .. =>true
 |_=>false
def Rw.sg {r:Rw}(h:r.Ok):(r.w==Str.ofString "say")=r.k.s/\(r.w==Str.ofString "mend")=r.k.m/\(r.w==Str.ofString "gone")=r.k.g:=by
 unfold Rw.Ok at h;cases e:r.k<;>rw[e]at h
 .rw[h.1];exact(by decide:(("say":Str)=="say")=true/\(("say":Str)=="mend")=false/\(("say":Str)=="gone")=false)
 .rw[h.1];exact(by decide:(("mend":Str)=="say")=false/\(("mend":Str)=="mend")=true/\(("mend":Str)=="gone")=false)
 .rw[h.1];exact(by decide:(("gone":Str)=="say")=false/\(("gone":Str)=="mend")=false/\(("gone":Str)=="gone")=true)
 .exact h
theorem K1{R:List Rw}(ok:∀r∈R,r.Ok)(hf:∀t∈R.map ju,∃us,t=.tup us/\us.all rb=true)(hl:R.length<=1000):k_ [.lst (R.map ju)]=.ok (.bh (R.foldl o8 [])):=by
 unfold k_ vQ;have na:ff [.lst (R.map ju)]=true:=by show(ff (R.map ju)&&true)=true;rw[ve hf];rfl
 rw[av ⟨rfl,na⟩];show nk (iI.1 [.sh (.lst (R.map ju)),.no,.no] [])=_;unfold iI;have n0:uS (.ok (.bh [])) ([]:Ab)=.ok (.at 0) [.bh []]:=rfl;simp![EL,n0,aT,aU];refine HN (f:=o8) (x:=[]) (LtI (R.map ju)) ⟨by show 0+_<=_;omega,0,.no,rfl,rfl⟩ ok (λx m r Y A S hI=>?_) λY A hI=>?_
 .obtain⟨h1,k,c,rfl,hA⟩:=hI;refine⟨_,rfl,?_⟩;have hx:x.length<dy:=lF (by omega:x.length<=5000) ∅;have fin:∀d,o8 x r=d->d.length<=x.length+1->∃dM A2,Rz.ok (Out.nx [.sh (.lst (R.map ju)),.sh (.at k),.sh (ju r)]) (A.set k (.bh d))=.ok (.nx dM) A2/\LtI (R.map ju) (o8 x r) m dM A2:=λd e hd=>⟨_,_,rfl,by rw[e];omega,k,_,rfl,by rw[e,nC (gB hA)]⟩;obtain⟨L,I,M⟩:=Rw.sg S;unfold Rw.Ok at S;have tr:∀n A,aF n A (ju r)=ju r:=λn A=>by cases n<;>rfl
  cases e:r.k with
  |say a b=>
   rw[e]at S L I M;have L:(r.w==Str.ofString "say")=true:=L;have I:(r.w==Str.ofString "mend")=false:=I;have M:(r.w==Str.ofString "gone")=false:=M;have ei:∀i,fU (ju r) (.int i)=fU (.tup [.int r.n,.str r.z,.str r.w,.str a,NG b]) (.int i):=λi=>by unfold ju;rw[S.2]
   simp![jq,tr,ei,L,I,M,jD,Bp hA hx,aT,aU];exact fin _ (by unfold o8;rw[e]) Bo
  |lj m' a=>
   rw[e]at S L I M;have L:(r.w==Str.ofString "say")=false:=L;have I:(r.w==Str.ofString "mend")=true:=I;have M:(r.w==Str.ofString "gone")=false:=M;have ei:∀i,fU (ju r) (.int i)=fU (.tup [.int r.n,.str r.z,.str r.w,.int m',.str a]) (.int i):=λi=>by unfold ju;rw[S.2.1]
   simp![jq,tr,ei,L,I,M,jD,Bp hA hx,aT,aU];exact fin _ (by unfold o8;rw[e]) Bo
  |gone m'=>
   rw[e]at S L I M;have L:(r.w==Str.ofString "say")=false:=L;have I:(r.w==Str.ofString "mend")=false:=I;have M:(r.w==Str.ofString "gone")=true:=M;have ei:∀i,fU (ju r) (.int i)=fU (.tup [.int r.n,.str r.z,.str r.w,.int m']) (.int i):=λi=>by unfold ju;rw[S.2.1]
   simp![jq,tr,ei,L,I,M,jD,Bp hA hx,aT,aU];exact fin _ (by unfold o8;rw[e]) Bo
  |Gr=>
   rw[e]at L I M;have L:(r.w==Str.ofString "say")=false:=L;have I:(r.w==Str.ofString "mend")=false:=I;have M:(r.w==Str.ofString "gone")=false:=M;have e2:fU (ju r) (.int 2)=.ok (.str r.w):=by unfold ju;simp only[jq]
   simp![tr,e2,L,I,M,aT,aU];exact⟨_,_,rfl,by rw[show o8 x r=x by unfold o8;rw[e]];omega,k,_,rfl,by rwa[show o8 x r=x by unfold o8;rw[e]]⟩
 .obtain⟨h1,k,c,rfl,hA⟩:=hI;simp![EL];have fl:=DC (R:=R) (d:=[]) λp h=>by cases h
  have e:aF 3 A (.at k)=.bh (R.foldl o8 []):=by
   rw[iy hA];congr 1;exact(lD λp hp=>show(p.1,_)=id p by rw[(fl p hp).1];rfl).trans (pH _)
  have no:∀{d:List (Key×Tr)},(∀p∈d,lq p.2=true)->zq d=true:=λ{d}=>by
   induction d with
   |nil=>exact λ_=>rfl
   |cons p d ih=>exact λh=>by obtain⟨k,t⟩:=p;rw[zq,Jc,show lq t=true from h _ (bF ..),ih λq m=>h q (bG _ m)];rfl
  show(if lq (aF 3 A (.at k))=true then Rs.ok (aF 3 A (.at k))else .bad)=_;rw[e,av (by rw[lq];exact no λp hp=>(fl p hp).2)]
def VF(V:List Rw)(r:Rw):Tr:=match r.k with
 |.say _ (some k)=>if(V.map (·.n)).contains k then .int k else .bM
 |_=>.bM
def inV(V:List Rw):Option Int->Bool
 |none=>false
 |some k=>(V.map (·.n)).contains k
def Gv(R:List Rw)(n:Int):Tr:=(OI R n).getD .bM
def iK(R V:List Rw)(r:Rw):Tr:=.tup [.int r.n,.str r.z,Gv R r.n,VF V r]
abbrev dw(rows:List Tr)(rs:List Rw)(aw:Str):List Rw:=rs.filter (Rw.Gs (sb aw rows).1)
abbrev g_(rows:List Tr)(rs:List Rw)(aw:Str):List Rw:=(dw rows rs aw).filter (·.k.s)
theorem DD:∀{V:List Rw},vR (V.map λr=>.tup [.int r.n,.bl true])=some (V.map λr=>(.inl r.n,.bl true))
 |[]=>rfl
 |r::V=>by
  show(match jw (.int r.n),vR (V.map λr=>.tup [.int r.n,.bl true])with|some key,some l=>some ((key,Tr.bl true)::l)|_,_=>none)=_;rw[DD (V:=V)];rfl
theorem yB:∀{V:List Rw} {d:List (Key×Tr)},(∀r∈V,1<=r.n/\r.n<=1000)->(d.all λp=>OD p.1)=true->((gn d (V.map λr=>(.inl r.n,.bl true))).all λp=>OD p.1)=true/\∀n,(du (gn d (V.map λr=>(.inl r.n,.bl true))) (.inl n)).isSome=((du d (.inl n)).isSome||(V.map (·.n)).contains n)
 |[],d,_,h=>⟨h,λn=>by show(du d (.inl n)).isSome=_;simp⟩
 |r::V,d,hb,h=>by
  have b:=hb r (bF ..);obtain⟨h1,h2⟩:=yB (V:=V) (d:=fB d (.inl r.n) (.bl true)) (λr m=>hb r (bG _ m)) (R5 h (by show decide _=true;rw[hZ];omega));refine⟨h1,λn=>?_⟩;show(du (gn (fB d (.inl r.n) (.bl true)) (V.map λr=>(.inl r.n,.bl true))) (.inl n)).isSome=_;rw[h2,wz,a_,wR];by_cases e:n=r.n
  .subst e;simp
  .have:(Sum.inl n:Key)≠ .inl r.n:=λq=>e (Sum.inl.inj q);rw[aA this,show(n==r.n)=false by simpa using e];simp
theorem R6{r:Rw}(I:r∈rs)(q:r.k.s=true):∃t,OI rs r.n=some t:=by
 have go:∀(rs:List Rw) (o:Option Tr),(o.isSome=true\/r∈rs)->(rs.foldl (qw r.n) o).isSome=true:=λrs=>by
  induction rs with
  |nil=>exact λo h=>h.elim id λh=>nomatch h
  |cons x rs L=>
   intro o h;rw[fY];refine L _ ?_
   rcases h with h|h
   .left;unfold qw;cases x.k<;>first|exact h|(show(if _ then _ else _:Option Tr).isSome=true;split<;>first|rfl|exact h)
   .rcases aZ.mp h with rfl|h
    .left;unfold qw;cases e:r.k with
     |say a b=>show(if r.n=r.n then _ else _:Option Tr).isSome=true;rw[av rfl];rfl
     |_=>rw[e]at q;cases q
    .exact .inr h
 exact lu.mp (go rs none (.inr I))
def Fg{r:Rw}(h:r.Ok)(q:r.k.s=true):∃a b,r.k=.say a b/\ju r=.tup [.int r.n,.str r.z,.str "say",.str a,NG b]:=by
 unfold Rw.Ok at h;cases e:r.k with
 |say a b=>rw[e]at h;exact⟨a,b,rfl,by unfold ju;rw[h.1,h.2]⟩
 |_=>rw[e]at q;cases q
def DB.num (h:DB rows rs)(b:`d<=1000){r:Rw}(m:r∈rs):1<=r.n/\r.n<=1000:=by
 obtain⟨i,hi,rfl⟩:=lC.mp m;have ln:`d=rs.length:=by rw[h.e,aP]
 rw[h.n i hi];omega
theorem R7(S:Seen rows aq v)(h:DB rows rs)(hf:∀t∈rows,∃us,t=.tup us/\us.all rb=true)(hl:`d<=1000):zM [.lst rows,.str aw]=.ok (.tup ((g_ rows rs aw).map (iK (dw rows rs aw) (g_ rows rs aw)))):=by
 show dh (qT.1 [.sh (.lst rows),.sh (.str aw),.no,.no,.no,.no])=_;unfold qT;obtain⟨up,lo⟩:=S.f.up aw;have ln:`d=rs.length:=by rw[h.e,aP]
 have l1:(dw rows rs aw).length<=1000:=aV (gF ..) ∎;have l2:(g_ rows rs aw).length<=1000:=aV (gF ..) l1;have sz:1000<=dy:=∅
 have sq:uO (.ok (.tup ((sb aw rows).1.map .int)))=.ok ((dw rows rs aw).map λr=>.int r.n):=by
  show Rs.ok _=_;congr 1
  conv=>lhs;rw[<-h.sel up lo]
  rw[cg];rfl
 have R8:∀n,G7 (.int n) (.int 1)=.ok (.int (n - 1)):=λ_=>rfl;simp only[ev,bw,E9 S.w hf ∎,sq];rw[dk (sF:=[.sh (.lst rows)]) (λ_=>true) (λr:Rw=>.int r.n) ju (xs:=dw rows rs aw) rfl (aV l1 sz) rfl (λ_ _=>rfl) ?h1]
 case h1=>
  intro r m _;have m:=(bP.mp m).1;obtain⟨r',m',e,q,_⟩:=h.at (n:=r.n) (by have:=h.num hl m;obtain⟨i,hi,rfl⟩:=lC.mp m;rw[h.n i hi];omega);rw[h.inj m' m e]at q;simp only[ev,bw,R8,q]
 have M:∀L:List Rw,L.filter (λ_=>true)=L:=λL=>lE.mpr λ_ _=>rfl;have sw:∀l,uO (.ok (.lst l))=.ok l:=λ_=>rfl;rw[M];simp only[ev,bw,sw,aT,aU];rw[dk (sF:=[]) (λr:Rw=>r.k.s) ju ju (xs:=dw rows rs aw) rfl (aV l1 sz) rfl ?h2 (λ_ _ _=>rfl)]
 case h2=>
  intro r m;have e2:fU (ju r) (.int 2)=.ok (.str r.w):=by unfold ju;simp only[jq]
  simp only[ev,bw,e2,(Rw.sg (h.ok r (bP.mp m).1)).1]
 have I:∀r∈dw rows rs aw,r.Ok:=λr m=>h.ok r (bP.mp m).1;have fR:∀t∈(dw rows rs aw).map ju,∃us,t=.tup us/\us.all rb=true:=λt m=>by
  obtain⟨r,mr,rfl⟩:=bQ.mp m;exact hf _ (by rw[h.e];exact fE (bP.mp mr).1)
 simp only[ev,bw,sw,K1 I fR l1,aT,aU];rw[dk (sF:=[]) (λ_=>true) ju (λr=>.tup [.int r.n,.bl true]) (xs:=g_ rows rs aw) rfl (aV l2 sz) rfl (λ_ _=>rfl) ?h3]
 case h3=>
  intro r _ _;have e0:fU (ju r) (.int 0)=.ok (.int r.n):=by unfold ju;simp only[jq]
  simp only[ev,bw,e0]
 obtain⟨n1,n2⟩:=yB (V:=g_ rows rs aw) (d:=[]) (λr m=>h.num hl (bP.mp (bP.mp m).1).1) rfl;have dl:AH [.lst ((g_ rows rs aw).map λr=>.tup [.int r.n,.bl true])]=.ok (.bh (gn [] ((g_ rows rs aw).map λr=>(.inl r.n,.bl true)))):=by
  show(match vR _ with|some aS=>if aS.length<=100000 then Rs.ok (Tr.bh (gn [] aS))else .bad|none=>.bad)=_;rw[DD];exact av (by rw[aP];omega)
 rw[M];simp only[ev,bw,sw,dl,aT,aU];generalize gn [] ((g_ rows rs aw).map λr=>((.inl r.n:Key),Tr.bl true))=N at n1 n2;rw[dk (sF:=[.sh (.bh ((dw rows rs aw).foldl o8 [])),.sh (.bh N)]) (λ_=>true) ju (iK (dw rows rs aw) (g_ rows rs aw)) (xs:=g_ rows rs aw) rfl (aV l2 sz) rfl (λ_ _=>rfl) ?h4]
 case h4=>
  intro r m _;obtain⟨mR,hk⟩:=bP.mp m;obtain⟨a,b,e,t⟩:=Fg (I r mR) hk;obtain⟨w,hw⟩:=R6 mR hk;have ex:fU (.bh ((dw rows rs aw).foldl o8 [])) (.int r.n)=.ok w:=by
   rw[Mi];show jx (du _ _)=_;rw[Gu];show jx (OI _ _)=_;rw[hw];rfl
  have ei:Yl (NG b) (.bh N)=.ok (.bl (inV (g_ rows rs aw) b)):=by
   cases b with
   |none=>exact av n1
   |some k=>
    show zl (.int k) (.bh N)=_;rw[Mh];show Rs.ok (Tr.bl (du N (.inl k)).isSome)=_;rw[n2];rfl
  simp only[ev,bw,t,jq,ex,ei];unfold iK Gv VF;rw[hw,e];cases b with
  |none=>rfl
  |some k=>
   rw[show inV (g_ rows rs aw) (some k)=((g_ rows rs aw).map (·.n)).contains k from rfl];show _=Rs.ok (Tr.tup [_,_,_,if((g_ rows rs aw).map (·.n)).contains k=true then .int k else .bM]);cases((g_ rows rs aw).map (·.n)).contains k<;>rfl
 rw[M]
 rfl
def yC(n:Int)(r:Rw):Bool:=match r.k with
 |.lj m _=>m==n
 |.gone m=>m==n
 |_=>false
def vZ(n:Int)(r:Rw):Bool:=r.k.s&&r.n==n||yC n r
def Gw(h:vZ n r=false):qw n o r=o:=by
 unfold vZ yC at h;unfold qw;cases e:r.k with
 |say a b=>
  rw[e]at h;have h:(r.n==n)=false:=by simpa[Kd.s]using h
  show(if n=r.n then _ else o)=o;rw[aA λq=>by rw[q,bD]at h;cases h]
 |lj m a=>
  rw[e]at h;have h:(m==n)=false:=by simpa[Kd.s]using h
  show(if n=m then _ else o)=o;rw[aA λq=>by rw[q,bD]at h;cases h]
 |gone m=>
  rw[e]at h;have h:(m==n)=false:=by simpa[Kd.s]using h
  show(if n=m then _ else o)=o;rw[aA λq=>by rw[q,bD]at h;cases h]
 |Gr=>rfl
theorem wA:∀{R:List Rw} {o:Option Tr},R.foldl (qw n) o=(R.filter (vZ n)).foldl (qw n) o
 |[],_=>rfl
 |r::R,o=>by
  rw[fY];cases e:vZ n r with
  |false=>rw[i_ (by rw[e];exact hX),Gw e];exact wA
  |true=>rw[jW e,fY];exact wA
def K2{p q:Rw->Bool}(h:∀r∈rs,vZ n r=true->p r=q r):OI (rs.filter p) n=OI (rs.filter q) n:=by
 unfold OI;rw[wA,wA (R:=rs.filter q),ph,ph];congr 1;refine nJ λr m=>?_
 cases e:vZ n r with
 |false=>rfl
 |true=>rw[h r m e]
def gm(rs:List Rw)(n:Int):List Int:=(rs.filter (yC n)).map (·.n)
def K3{S T:List Int}(b:S.contains n=true)(I:T.contains n=true)(h:(gm rs n).filter S.contains=(gm rs n).filter T.contains):∀r∈rs,vZ n r=true->Rw.Gs S r=Rw.Gs T r:=λr m q=>by
 unfold vZ at q;rcases Bool.or_eq_true_iff.mp q with q|q
 .rw[bg]at q;have e:r.n=n:=by simpa using q.2
  unfold Rw.Gs;rw[e,b,I]
 .have L:r.n∈gm rs n:=fE (bP.mpr ⟨m,q⟩);unfold Rw.Gs;rw[kC];constructor
  .intro a;have:r.n∈(gm rs n).filter T.contains:=by rw[<-h];exact bP.mpr ⟨L,a⟩
   exact(bP.mp this).2
  .intro a;have:r.n∈(gm rs n).filter S.contains:=by rw[h];exact bP.mpr ⟨L,a⟩
   exact(bP.mp this).2
def iP(n:Int)(o:Tr)(r:Rw):Tr:=match r.k with
 |.lj m a=>if m=n then .str a else o
 |.gone m=>if m=n then .bM else o
 |_=>o
def DE{n:Int}{r:Rw}(h:r.Ok)(b:r.n<=n):iP n o r=o:=by
 unfold Rw.Ok at h;unfold iP;cases e:r.k with
 |lj m a=>rw[e]at h;show(if m=n then _ else o)=o;rw[aA λq=>by have:=h.2.2;omega]
 |gone m=>rw[e]at h;show(if m=n then _ else o)=o;rw[aA λq=>by have:=h.2.2;omega]
 |_=>rfl
def R9{n:Int}{r:Rw}(h:r.Ok)(b:r.n<n):vZ n r=false:=by
 unfold Rw.Ok at h;unfold vZ yC;have:(r.n==n)=false:=by simp;omega
 rw[this,sV,j_];cases e:r.k with
 |lj m a=>rw[e]at h;show(m==n)=false;have:=h.2.2;simp;omega
 |gone m=>rw[e]at h;show(m==n)=false;have:=h.2.2;simp;omega
 |_=>rfl
def K4{n:Int}(h:∀r∈rs,r.Ok/\n<r.n):∀{t:Tr},rs.foldl (qw n) (some t)=some (rs.foldl (iP n) t):=by
 induction rs with
 |nil=>exact rfl
 |cons r rs L=>
  intro t;rw[fY,fY,<-L λr m=>h r (bG _ m)];congr 1;have:=(h r (bF ..)).2;unfold qw iP;cases r.k with
  |say a b=>show(if n=r.n then _ else _)=_;rw[aA ∎]
  |lj m a=>
   show(if n=m then _ else _)=some (if m=n then _ else _);by_cases e:m=n
   .rw[av e,av e.symm]
   .rw[aA e,aA (Ne.symm e)]
  |gone m=>
   show(if n=m then _ else _)=some (if m=n then _ else _);by_cases e:m=n
   .rw[av e,av e.symm]
   .rw[aA e,aA (Ne.symm e)]
  |Gr=>rfl
theorem DB.last {r:Rw}(h:DB rows rs)(m:r∈rs)(e:r.k=.say a b):OI rs r.n=some (rs.foldl (iP r.n) (.str a)):=by
 have ln:`d=rs.length:=by rw[h.e,aP]
 have q:1<=r.n/\r.n<=rows.length:=by obtain⟨i,hi,rfl⟩:=lC.mp m;rw[h.n i hi];omega
 obtain⟨r',m',e',_,_,sp⟩:=h.at q;cases h.inj m' m e';have t1:∀x∈rs.take (r.n - 1).toNat,x.Ok/\x.n<r.n:=λx I=>by
  refine⟨h.ok x (List.mem_of_mem_take I),?_⟩;obtain⟨i,hi,rfl⟩:=lC.mp I;rw[w_]at hi;rw[List.getElem_take,h.n i ∎];omega
 have t2:∀x∈rs.drop r.n.toNat,x.Ok/\r.n<x.n:=λx I=>by
  refine⟨h.ok x (List.mem_of_mem_drop I),?_⟩;obtain⟨i,hi,rfl⟩:=lC.mp I;rw[List.length_drop]at hi;rw[List.getElem_drop,h.n _ ∎];omega
 have z1:∀(L:List Rw),(∀x∈L,x.Ok/\x.n<r.n)->L.foldl (qw r.n) none=none/\∀t,L.foldl (iP r.n) t=t:=λL=>by
  induction L with
  |nil=>exact λ_=>⟨rfl,λ_=>rfl⟩
  |cons x L ih=>
   intro hL;obtain⟨S,x2⟩:=hL x (bF ..);obtain⟨i1,M⟩:=ih λy m=>hL y (bG _ m);exact⟨by rwa[fY,Gw (R9 S x2)],λt=>by rw[fY,DE S ∎];exact M t⟩
 obtain⟨i1,M⟩:=z1 _ t1;unfold OI;rw[sp,w6,w6,fY,fY,i1,M,DE (h.ok r m) (Int.le_refl _),show qw r.n none r=some (.str a) by unfold qw;rw[e];exact av rfl];exact K4 t2
theorem zZ{Z:Type}{T:xR}{G:bS->Rs Out}{f:Z->α->Z}{g:α->Tr}{P:α->Prop}(I:Z->bS->Prop)(h:∀x r Y,P r->I x Y->∃M,T (g r) Y=.ok M/\∃b,G M=.ok (.nx b)/\I (f x r) b):
  ∀(R:List α) (x:Z) (Y:bS),(∀r∈R,P r)->I x Y->∃q,vP T G (R.map g) Y=.ok (.nx q)/\I (R.foldl f x) q
 |[],x,Y,_,hi=>⟨Y,rfl,hi⟩
 |r::R,x,Y,L,hi=>by
  obtain⟨M,S,b,e2,h2⟩:=h x r Y (L r (bF ..)) hi;obtain⟨q,e3,h3⟩:=zZ I h R (f x r) b (λu hu=>L u (bG _ hu)) h2;refine⟨q,?_,h3⟩;rw[a_];simp only[SF,S,bw,e2];exact e3
def z3{Z:Type}{T:xR}{G K:bS->Rs Out}{f:Z->α->Z}{g:α->Tr}{P:α->Prop}{R:List α}{x:Z}{Y:bS}{r:Rs Tr}(I:Z->bS->Prop)(hi:I x Y)(S:∀r∈R,P r)(h:∀x r Y,P r->I x Y->∃b,T (g r) Y=.ok b/\∃M,G b=.ok (.nx M)/\I (f x r) M)
  (hK:∀Y,I (R.foldl f x) Y->dh (K Y)=r):dh (B5 (vP T G (R.map g) Y) K)=r:=by
 obtain⟨L,e,q⟩:=zZ I h R x Y S hi;rw[e];exact hK L q
theorem R_{r:Rw}(h:DB rows rs)(m:r∈rs)(e:r.k=.say a b):Dn [.tup rows,.int r.n]=.ok (rs.foldl (iP r.n) (.str a)):=by
 show dh (uC.1 [.sh (.tup rows),.sh (.int r.n),.no,.no])=_;unfold uC;have ln:`d=rs.length:=by rw[h.e,aP]
 have q:1<=r.n/\r.n<=rows.length:=by obtain⟨i,hi,rfl⟩:=lC.mp m;rw[h.n i hi];omega
 obtain⟨r',m',e',_,q2,_⟩:=h.at q;cases h.inj m' m e';obtain⟨a',b',ea,er⟩:=Fg (h.ok r m) (by rw[e];rfl);rw[e]at ea;cases ea;have R8:∀n,G7 (.int n) (.int 1)=.ok (.int (n - 1)):=λ_=>rfl;have sw:∀l,uO (.ok (.tup l))=.ok l:=λ_=>rfl;have I:fU (ju r) (.int 3)=.ok (.str a):=by rw[er];simp only[jq]
 simp only[ev,bw,R8,q2,I,sw,aT,aU];generalize Cell.sh (.tup rows)=cr;rw[h.e];refine z3 (f:=iP r.n) (x:=.str a) (P:=λr=>r.Ok) (λt Y=>∃c,Y=[cr,.sh (.int r.n),.sh t,c]) ⟨_,rfl⟩ h.ok (λx y Y M hI=>?_) λY hI=>?_
 .obtain⟨c,rfl⟩:=hI;refine⟨_,rfl,?_⟩;obtain⟨_,g2,g3⟩:=Rw.sg M;have S:fU (ju y) (.int 2)=.ok (.str y.w):=by unfold ju;simp only[jq]
  have fin:∀t,iP r.n x y=t->∃dM,Rs.ok (Out.nx [cr,.sh (.int r.n),.sh t,.sh (ju y)])=.ok (.nx dM)/\∃c,dM=[cr,.sh (.int r.n),.sh (iP r.n x y),c]:=λt e=>⟨_,rfl,_,by rw[e]⟩;unfold Rw.Ok at M;have ei:∀i j:Int,Qe (.int i) (.int j)=.ok (.bl (i==j)):=λ_ _=>rfl;cases L:y.k with
  |lj m a'=>
   rw[L]at M g2 g3;have g2:(y.w==Str.ofString "mend")=true:=g2;have g3:(y.w==Str.ofString "gone")=false:=g3;have I:fU (ju y) (.int 3)=.ok (.int m):=by unfold ju;rw[M.2.1];simp only[jq]
   have e4:fU (ju y) (.int 4)=.ok (.str a'):=by unfold ju;rw[M.2.1];simp only[jq]
   cases q:m==r.n with
   |false=>
    simp only[ev,bw,S,I,ei,g2,g3,q,aT,aU];exact fin _ (by unfold iP;rw[L];exact aA λz=>by rw[z,bD]at q;cases q)
   |true=>
    simp only[ev,bw,S,I,e4,ei,g2,g3,q,aT,aU];exact fin _ (by unfold iP;rw[L];exact av (by simpa using q))
  |gone m=>
   rw[L]at M g2 g3;have g2:(y.w==Str.ofString "mend")=false:=g2;have g3:(y.w==Str.ofString "gone")=true:=g3;have I:fU (ju y) (.int 3)=.ok (.int m):=by unfold ju;rw[M.2.1];simp only[jq]
   cases q:m==r.n with
   |false=>
    simp only[ev,bw,S,I,ei,g2,g3,q,aT,aU];exact fin _ (by unfold iP;rw[L];exact aA λz=>by rw[z,bD]at q;cases q)
   |true=>
    simp only[ev,bw,S,I,ei,g2,g3,q,aT,aU];exact fin _ (by unfold iP;rw[L];exact av (by simpa using q))
  |say a' b'=>
   rw[L]at g2 g3;have g2:(y.w==Str.ofString "mend")=false:=g2;have g3:(y.w==Str.ofString "gone")=false:=g3;simp only[ev,bw,S,g2,g3,aT,aU];exact fin _ (by unfold iP;rw[L])
  |Gr=>
   rw[L]at g2 g3;have g2:(y.w==Str.ofString "mend")=false:=g2;have g3:(y.w==Str.ofString "gone")=false:=g3;simp only[ev,bw,S,g2,g3,aT,aU];exact fin _ (by unfold iP;rw[L])
 .obtain⟨c,rfl⟩:=hI;simp only[ev,bw,SF]
def NI(h:bN A aB b8)(b:(aB.lookup aw).isSome=true):iO [aF 5 A (.at 0),.tup [.str aw]]=.ok .bM:=by
 show dh (d6.1 [.sh (aF 5 A (.at 0)),.sh (.tup [.str aw]),.no])=_;unfold d6;have L:uO (.ok (.tup [.str aw]))=.ok [.str aw]:=rfl;simp only[ev,bw,SF,EL,L,aT,aU,h.JZ,dS,nH,b,dG]
def Gx(h:bN A aB b8)(hi:b8.lookup name=some i)(b:(aB.lookup aw).isSome=true):jT [aF 5 A (.at 0),.tup [.str aw],.str name]=.ok (aF 3 A (.at i)):=by
 show dh (eV.1 [.sh (aF 5 A (.at 0)),.sh (.tup [.str aw]),.sh (.str name)])=_;unfold eV;have L:∀t Y,N6 (.ok t) Y=.ok (.nx Y):=λ_ _=>rfl;simp only[ev,bw,SF,L,h.d9 (n:=4) (m:="need_people") rfl,h.d9 (n:=4) (m:="place") rfl,NI h b,DA h hi]
def Gy(h:bN A aB b8)(hi:b8.lookup name=some i)(P:Pr A i j D t)(b:(aB.lookup aw).isSome=true)(q:D.rows.length<=1000):vD [aF 5 A (.at 0),.str name,.str aw]=.ok (.tup ((sb aw D.rows).1.map .int)):=by
 show dh (l6.1 [.sh (aF 5 A (.at 0)),.sh (.str name),.sh (.str aw)])=_;unfold l6;simp only[ev,bw,h.d9 (n:=4) (m:="place_for") rfl,Gx h hi b,P.r.Rq (n:=1) P.g.fr.tu,E9 P.se.w P.g.fr.fr (aV q ∅)]
def Gz(h:bN A aB b8)(hi:b8.lookup name=some i)(P:Pr A i j D t)(b:(aB.lookup aw).isSome=true)(q:D.rows.length<=1000)(w:DB D.rows rs):vF [aF 5 A (.at 0),.str name,.str aw]=.ok (.tup ((g_ D.rows rs aw).map (iK (dw D.rows rs aw) (g_ D.rows rs aw)))):=by
 show dh (l7.1 [.sh (aF 5 A (.at 0)),.sh (.str name),.sh (.str aw)])=_;unfold l7;simp only[ev,bw,h.d9 (n:=4) (m:="place_for") rfl,Gx h hi b,P.r.Rq (n:=1) P.g.fr.tu,R7 P.se w P.g.fr.fr q]
theorem DF(s:Wr A t aB bB D D')(r:t<=50):jk [aF 5 A (.at 0)]=.ok (.tup ((eJ bB).map .str)):=by
 show dh (jj.1 [.sh (aF 5 A (.at 0))])=_;unfold jj;have L:aB.length<64:=by have:=s.pl;have h2:=cF List.length s.pp;rw[aP]at h2;omega
 have q:∀p∈aB,p.1.length<=1000:=λp L=>fc (s.p6 p.1 (by rw[<-s.pp];exact fE L));have b:=M9 (f:=Tr.bl) (l:=aB) q L;rw[s.pp]at b;simp only[ev,bw,s.h.JZ,b,SF]
theorem GA:∀{S T:List Int},xU (S.map .int) (T.map .int)=(S==T)
 |[],[]=>rfl
 |[],_::_=>rfl
 |_::_,[]=>rfl
 |i::S,j::T=>by
  show((i==j)&&xU (S.map .int) (T.map .int))=_;rw[GA (S:=S)];rfl
theorem Bq:∀{S:List Int},ub (S.map .int)=true
 |[]=>rfl
 |_::S=>Bq (S:=S)
theorem K5:∀{S:List Int},La (S.map .int)=0
 |[]=>rfl
 |_::S=>by show max 0 _=0;rw[K5 (S:=S)];rfl
def K6{S T:List Int}:Qe (.lst (S.map .int)) (.lst (T.map .int))=.ok (.bl (S==T)):=by
 unfold Qe;rw[av ⟨by rw[pT];exact Bq,by rw[pT];exact Bq,by rw[dT,K5];decide⟩,eqT,GA]
def OJ(r:Rw):Tr:=.tup [.int r.n,.str r.z]
theorem R':HP (.lst (rs.map OJ)) (.lst (rs.map OJ))=.ok (.bl false):=by
 have h:ub (rs.map OJ)=true/\La (rs.map OJ)<=1/\xU (rs.map OJ) (rs.map OJ)=true:=by
  induction rs with
  |nil=>exact⟨rfl,gH _,rfl⟩
  |cons r rs L=>
   obtain⟨h1,h2,h3⟩:=L;refine⟨?_,?_,?_⟩
   .rw[a_,ub,h1];rfl
   .rw[a_,La];exact Nat.max_le.mpr ⟨by show max 0 (max 0 0)+1<=1;decide,h2⟩
   .rw[a_,xU,h3];show(((r.n==r.n)&&((r.z==r.z)&&true))&&true)=true;rw[bD,bD];rfl
 unfold HP;rw[av ⟨by rw[pT];exact h.1,by rw[pT];exact h.1,by rw[dT];have:=h.2.1;omega⟩,eqT,h.2.2];rfl
def Sa(t:Tr):Prop:=t=.bM\/∃z,t=.str z
def OK(h:Sa t):HP t t=.ok (.bl false):=by
 rcases h with rfl|⟨z,rfl⟩
 .rfl
 .show Rs.ok (Tr.bl (!(z==z)))=_;rw[bD];rfl
theorem OL:Sa (Gv R n):=by
 have go:∀(R:List Rw) (o:Option Tr),Sa (o.getD .bM)->Sa ((R.foldl (qw n) o).getD .bM):=λR=>by
  induction R with
  |nil=>exact λ_ h=>h
  |cons r R L=>
   intro o h;refine L _ ?_
   unfold qw;cases r.k with
   |say a b=>
    show Sa ((if _ then _ else _:Option Tr).getD .bM);split
    .exact .inr ⟨a,rfl⟩
    .exact h
   |lj m a=>
    show Sa ((if _ then _ else _:Option Tr).getD .bM);split
    .exact .inr ⟨a,rfl⟩
    .exact h
   |gone m=>
    show Sa ((if _ then _ else _:Option Tr).getD .bM);split
    .exact .inl rfl
    .exact h
   |Gr=>exact h
 exact go R none (.inl rfl)
def yD:((rs.filter (Rw.Gs S)).filter (·.k.s)).filter (λr=>(((rs.filter (Rw.Gs T)).filter (·.k.s)).map (·.n)).contains r.n)=rs.filter λr=>r.k.s&&(Rw.Gs S r&&Rw.Gs T r):=by
 rw[ph,ph];refine nJ λr m=>?_
 rw[kC];simp only[bg,dz];constructor
 .rintro ⟨⟨hm,hs⟩,L⟩
  obtain⟨x,q,e⟩:=bQ.mp hm;have b:=(bP.mp (bP.mp q).1).2;exact⟨hs,L,by unfold Rw.Gs at b⊢;rwa[<-e]⟩
 .rintro ⟨hs,L,b⟩
  exact⟨⟨bQ.mpr ⟨r,bP.mpr ⟨bP.mpr ⟨m,b⟩,hs⟩,rfl⟩,hs⟩,L⟩
theorem NJ(h:bN A aB b8)(hi:b8.lookup name=some i)(P:Pr A i j D t)(h1:(aB.lookup one).isSome=true)(h2:(aB.lookup other).isSome=true)(hl:D.rows.length<=1000)(w:DB D.rows rs):mG [aF 5 A (.at 0),.str name,.str one,.str other]=.ok (.bl true):=by
 show dh (jl.1 [.sh (aF 5 A (.at 0)),.sh (.str name),.sh (.str one),.sh (.str other),.no,.no,.no,.no,.no,.no,.no,.no,.no,.no])=_;unfold jl;have sz:1000<=dy:=∅
 have ln:D.rows.length=rs.length:=by rw[w.e,aP]
 have lR:∀z,(dw D.rows rs z).length<=1000:=λz=>aV (gF ..) ∎;have lV:∀z,(g_ D.rows rs z).length<=1000:=λz=>aV (gF ..) (lR z);have sw:∀l,uO (.ok (.tup l))=.ok l:=λ_=>rfl;have sl:∀l,uO (.ok (.lst l))=.ok l:=λ_=>rfl;have fT:∀{α:Type} (L:List α),L.filter (λ_=>true)=L:=λL=>lE.mpr λ_ _=>rfl;have l2:∀a b,Aj (.ok [a,b])=.ok (.lst [a,b]):=λ_ _=>rfl;simp only[ev,bw,h.d9 (n:=4) (m:="rows") rfl,h.d9 (n:=4) (m:="view") rfl,h.d9 (n:=4) (m:="sees") rfl,NF h hi P,Gz h hi P h1 hl w,Gz h hi P h2 hl w,Gy h hi P h1 hl,Gy h hi P h2 hl,l2,sw,sl,aT,aU];generalize VG:g_ D.rows rs one=I;generalize VH:g_ D.rows rs other=V2;rw[dk (sF:=[]) (λ_=>true) (iK (dw D.rows rs other) V2) (λr=>.int r.n) (xs:=V2) rfl (aV (by rw[<-VH];exact lV _) sz) rfl (λ_ _=>rfl) (λr _ _=>by simp only[ev,bw,iK,jq])];simp only[fT,ev,bw,sw,sl,aT,aU];have eI:∀V:List Rw,(V.map λr=>Tr.int r.n)=(V.map (·.n)).map .int:=λV=>by rw[cg];rfl
 rw[dk (sF:=[.sh (.lst (V2.map λr=>.int r.n))]) (λr=>(V2.map (·.n)).contains r.n) (iK (dw D.rows rs one) I) (iK (dw D.rows rs one) I) (xs:=I) rfl (aV (by rw[<-VG];exact lV _) sz) rfl (λr _=>by simp only[ev,bw,iK,jq,eI,wy]) (λr _ _=>rfl)];have hB:I.filter (λr=>(V2.map (·.n)).contains r.n)=V2.filter λr=>(I.map (·.n)).contains r.n:=by
  rw[<-VG,<-VH,yD,yD];exact nJ λr _=>by rw[Bool.and_comm (Rw.Gs _ r)]
 have lB:(I.filter λr=>(V2.map (·.n)).contains r.n).length<=dy:=aV (gF ..) (aV (by rw[<-VG];exact lV _) sz);have mB:∀r∈I.filter (λr=>(V2.map (·.n)).contains r.n),r∈rs/\r.k.s=true/\(sb one D.rows).1.contains r.n=true/\(sb other D.rows).1.contains r.n=true/\r∈V2:=λr m=>by
  have m2:r∈V2:=by rw[hB]at m;exact(bP.mp m).1
  rw[<-VG,<-VH,yD]at m;obtain⟨m1,q⟩:=bP.mp m;simp only[bg]at q;exact⟨m1,q.1,q.2.1,q.2.2,m2⟩
 have p2:∀a b c d,nW (.ok (.tup [a,b,c,d])) (.ok none) (Aq (.ok (.int 2)))=.ok (.tup [a,b]):=λ_ _ _ _=>rfl;simp only[ev,bw,sw,sl,aT,aU];rw[dk (sF:=[]) (λ_=>true) (iK (dw D.rows rs one) I) OJ (xs:=I.filter λr=>(V2.map (·.n)).contains r.n) rfl lB rfl (λ_ _=>rfl) (λr _ _=>by simp only[ev,bw,iK,p2];rfl)];rw[dk (sF:=[.sh (.tup (I.map (iK (dw D.rows rs one) I)))]) (λr=>(I.map (·.n)).contains r.n) (iK (dw D.rows rs other) V2) OJ (xs:=V2) rfl (aV (by rw[<-VH];exact lV _) sz) rfl ?hC (λr _ _=>by simp only[ev,bw,iK,p2];rfl)]
 case hC=>
  intro r _;simp only[ev,bw,iK,jq,sw];rw[dk (sF:=[]) (λ_=>true) (iK (dw D.rows rs one) I) (λr=>.int r.n) (xs:=I) rfl (aV (by rw[<-VG];exact lV _) sz) rfl (λ_ _=>rfl) (λr _ _=>by simp only[ev,bw,iK,jq])];simp only[ev,bw,fT,eI,wy]
 rw[fT,<-hB];simp only[ev,bw,R'];generalize hBB:(I.filter λr=>(V2.map (·.n)).contains r.n)=B at mB lB⊢;refine z3 (f:=λ_ _=>()) (x:=()) (P:=λr=>r∈B) (λ_ Y=>∃a b c d,Y=[.sh (aF 5 A (.at 0)),.sh (.str name),.sh (.str one),.sh (.str other),.sh (.tup D.rows),.sh (.tup (I.map (iK (dw D.rows rs one) I))),.sh (.tup (V2.map (iK (dw D.rows rs other) V2))),.sh (.lst [.tup ((sb one D.rows).1.map .int),.tup ((sb other D.rows).1.map .int)]),.sh (.lst (V2.map λr=>.int r.n)),.sh (.lst (B.map (iK (dw D.rows rs one) I))),a,b,c,d]) ⟨_,_,_,_,rfl⟩ (λ_ h=>h) (λx r Y hr hI=>?_) λY hI=>rfl;obtain⟨a,b,c,d,rfl⟩:=hI;obtain⟨m1,hk,c1,c2,m2⟩:=mB r hr;refine⟨_,rfl,?_⟩;have ei:∀i j:Int,Qe (.int i) (.int j)=.ok (.bl (i==j)):=λ_ _=>rfl;simp only[ev,bw,sw,aT,aU];rw[dk (sF:=[.sh (iK (dw D.rows rs one) I r)]) (yC r.n) ju (λx=>.int x.n) (xs:=rs) (by rw[<-w.e]) (aV ∎ sz) rfl ?hL (λx _ _=>by simp only[ev,bw,ju,jq])]
 case hL=>
  intro x mx;have ok:=w.ok x mx;obtain⟨_,g2,g3⟩:=Rw.sg ok;have e2:fU (ju x) (.int 2)=.ok (.str x.w):=by unfold ju;simp only[jq]
  have iw:zl (.str x.w) (.tup [.str "mend",.str "gone"])=.ok (.bl (x.k.m||x.k.g)):=by
   show Rs.ok (Tr.bl ((Str.ofString "mend"==x.w)||((Str.ofString "gone"==x.w)||false)))=_;rw[mV,g2,mV (a:=Str.ofString "gone"),g3,pE]
  unfold Rw.Ok at ok;unfold yC;cases ex:x.k with
  |lj m a'=>
   rw[ex]at ok iw;have e3:fU (ju x) (.int 3)=.ok (.int m):=by unfold ju;rw[ok.2.1];simp only[jq]
   simp only[ev,bw,e2,e3,iw,ei,iK,jq,Kd.m,Kd.g,sY]
  |gone m=>
   rw[ex]at ok iw;have e3:fU (ju x) (.int 3)=.ok (.int m):=by unfold ju;rw[ok.2.1];simp only[jq]
   simp only[ev,bw,e2,e3,iw,ei,iK,jq,Kd.m,Kd.g,j_]
  |_=>rw[ex]at iw;simp only[ev,bw,e2,iw,Kd.m,Kd.g,j_]
 have eL:((rs.filter (yC r.n)).map λx=>Tr.int x.n)=(gm rs r.n).map .int:=by unfold gm;rw[cg];rfl
 rw[eL];simp only[ev,bw,sw,sl,aT,aU];rw[dk (r:=.ok [.tup ((sb one D.rows).1.map .int),.tup ((sb other D.rows).1.map .int)]) (sF:=[.sh (.lst ((gm rs r.n).map .int))]) (λ_=>true) (λS:List Int=>.tup (S.map .int)) (λS=>.lst (((gm rs r.n).filter S.contains).map .int)) (xs:=[(sb one D.rows).1,(sb other D.rows).1]) rfl (by show 2<=dy;decide) rfl (λ_ _=>rfl) ?hK]
 case hK=>
  intro S _ _;simp only[ev,bw,sl];exact dk (sF:=[.sh (.tup (S.map .int))]) S.contains Tr.int Tr.int (xs:=gm rs r.n) rfl (by unfold gm;rw[aP];exact aV (gF ..) (aV ∎ sz)) rfl (λn _=>by simp only[ev,bw,wy]) (λ_ _ _=>rfl)
 simp only[fT,a_,sZ,ev,bw,sw,sl,aT,aU];rw[dk (sF:=[.sh (iK (dw D.rows rs one) I r)]) (λx=>x.n==r.n) (iK (dw D.rows rs other) V2) (λx=>Gv (dw D.rows rs other) x.n) (xs:=V2) rfl (aV (by rw[<-VH];exact lV _) sz) rfl (λx _=>by simp only[ev,bw,iK,jq,ei]) (λx _ _=>by simp only[ev,bw,iK,jq])];have e0:fU (.lst ((V2.filter λx=>x.n==r.n).map λx=>Gv (dw D.rows rs other) x.n)) (.int 0)=.ok (Gv (dw D.rows rs other) r.n):=by
  have m3:r∈V2.filter λx=>x.n==r.n:=bP.mpr ⟨m2,by simp⟩;cases q:V2.filter λx=>x.n==r.n with
  |nil=>rw[q]at m3;cases m3
  |cons y l=>
   have:y∈V2.filter λx=>x.n==r.n:=by rw[q];exact bF ..
   have:y.n=r.n:=by simpa using(bP.mp this).2
   rw[a_,this];show jx (L2.qZ _ ((0:Nat):Int))=_;rw[lJ (j:=0) rfl];rfl
 have iA:∀a b,fU (.lst [a,b]) (.int 0)=.ok a:=λ_ _=>rfl;have iB:∀a b,fU (.lst [a,b]) (.int 1)=.ok b:=λ_ _=>rfl;obtain⟨a',b',ek,_⟩:=Fg (w.ok r m1) hk;have z1:Ed (.ok ((gm rs r.n).filter (sb one D.rows).1.contains==(gm rs r.n).filter (sb other D.rows).1.contains)) (TY (HP (Gv (dw D.rows rs other) r.n) (Gv (dw D.rows rs one) r.n)))=.ok false:=by
  cases q:(gm rs r.n).filter (sb one D.rows).1.contains==(gm rs r.n).filter (sb other D.rows).1.contains with
  |false=>rfl
  |true=>
   have q:=K3 c1 c2 (by simpa using q);rw[show Gv (dw D.rows rs other) r.n=Gv (dw D.rows rs one) r.n by unfold Gv;rw[K2 q],OK OL];rfl
 have z2:Ed (.ok ((gm rs r.n).filter (sb one D.rows).1.contains==gm rs r.n)) (TY (HP (Gv (dw D.rows rs one) r.n) (rs.foldl (iP r.n) (.str a'))))=.ok false:=by
  cases q:(gm rs r.n).filter (sb one D.rows).1.contains==gm rs r.n with
  |false=>rfl
  |true=>
   have q:(gm rs r.n).filter (sb one D.rows).1.contains=gm rs r.n:=by simpa using q
   have q:∀x∈rs,vZ r.n x=true->Rw.Gs (sb one D.rows).1 x=(λ_=>true) x:=λx mx M=>by
    unfold vZ at M;rcases Bool.or_eq_true_iff.mp M with M|M
    .rw[bg]at M;unfold Rw.Gs;rwa[show x.n=r.n by simpa using M.2]
    .have mm:x.n∈(gm rs r.n).filter (sb one D.rows).1.contains:=by rw[q];exact fE (bP.mpr ⟨mx,M⟩)
     exact(bP.mp mm).2
   have e:=K2 q;rw[fT,w.last m1 ek]at e;have e:Gv (dw D.rows rs one) r.n=rs.foldl (iP r.n) (.str a'):=by unfold Gv;rw[e];rfl
   rw[<-e,OK OL];rfl
 simp only[ev,bw,sw,e0,iA,iB,K6,iK,jq,z1,R_ w m1 ek,z2,aT,aU];exact⟨_,rfl,_,_,_,_,rfl⟩
def LI(ns:List Int)(k:Nat)(Y:bS)(A:Ab):Prop:=St A k/\∃a b,Y=[.sh (.uI ns),.sh (.at 0),.sh (.at 4),.sh (.tup (w8.map .str)),a,b,.no,.no]
def K7(Y:bS)(A:Ab):Rz Out:=We (kJ (IQ ((d9 Mv (rq (zh [none,some 1,some 6,some 7] (gN 0) (λ_=>Rs.ok true) (λY=>d9 mG (rq (uM Y 1) (rq (uM Y 2) (rq (uM Y 3) (rq (uM Y 0) (Rs.ok [])))))) (uO (vw "Hall" "people" jk (uM (dJ A Y) 1) (Rs.ok []))) (dJ A Y)) (Rs.ok []))).bind nO)) A) (λA=>.ok (.ret (.bl false)) A) λA=>.ok (.nx Y) A
theorem GB:∀{l:List Str},jy (l.map .str)=true
 |[]=>rfl
 |_::l=>GB (l:=l)
theorem all_true:∀{l:List α},yS (l.map λ_=>.bl true)=.ok (l.map λ_=>true)
 |[]=>rfl
 |_::l=>by
  show(yS (l.map λ_=>.bl true)).bind _=_;rw[all_true (l:=l)];rfl
theorem yE{z:Str}:∀{l:List (Str×α)},z∈l.map (·.1)->(l.lookup z).isSome=true
 |p::l,h=>by
  rw[bT];cases e:(z==p.1)with
  |true=>rfl
  |false=>
   rcases aZ.mp h with q|q
   .rw[q,bD]at e;cases e
   .exact yE q
def Sd{c0 c2 c3 a b:Cell}(s:Wr A t aB bB D1 D2)(q:t<=50)(hi:([("hall",7),("yard",27)]:List (Str×Nat)).lookup name=some i)(P:Pr A i j D t)(r:D.rows.length<=1000)(I:aw∈eJ bB):K7 [c0,.sh (.at 0),c2,c3,a,b,.sh (.str name),.sh (.str aw)] A=.ok (.nx [c0,.sh (.at 0),c2,c3,a,b,.sh (.str name),.sh (.str aw)]) A:=by
 obtain⟨rs,w⟩:=P.se.f.rws;have look:∀z∈eJ bB,(aB.lookup z).isSome=true:=λz L=>yE (by rw[s.pp];exact(iU _).mem_iff.mp L);have pl:=s.pl;have M:(eJ bB).length<=dy:=by rw[(iU _).length_eq];exact cP (cw ∎)
 have g1:uM (dJ A [c0,.sh (.at 0),c2,c3,a,b,.sh (.str name),.sh (.str aw)]) 1=.ok (aF 5 A (.at 0)):=rfl;have S:uO (.ok (.tup ((eJ bB).map .str)))=.ok ((eJ bB).map .str):=rfl;unfold K7;simp only[g1,s.h.d9 (n:=4) (m:="people") rfl,ev,bw,DF s q,S];rw[dk (sF:=[.sh (aF 5 A (.at 0)),.sh (.str name),.sh (.str aw)]) (λ_=>true) Tr.str (λ_=>.bl true) (xs:=eJ bB) rfl M rfl (λ_ _=>rfl) (λz L _=>by simp only[ev,bw,NJ s.h hi P (look aw I) (look z L) r w])];have al:Mv [.lst (((eJ bB).filter λ_=>true).map λ_=>Tr.bl true)]=.ok (.bl true):=by
  show(yS _).bind _=_;rw[all_true];show Rs.ok (Tr.bl _)=_;congr 2;exact fh.mpr λb hb=>by obtain⟨_,_,rfl⟩:=bQ.mp hb;rfl
 have tb:nO (.bl true)=.ok true:=rfl;simp only[ev,bw,cI,al,tb,dG]
def OM{c0 c2 c3 a b x:Cell}(s:Wr A t aB bB D1 D2)(I:t<=50)(hi:([("hall",7),("yard",27)]:List (Str×Nat)).lookup name=some i)(P:Pr A i j D t)(M:D.rows.length<=1000):∃r,FX (gN 7) K7 (Rg (mH (vw "Hall" "people" jk (.ok (aF 5 A (.at 0))) (.ok [])) A)) [c0,.sh (.at 0),c2,c3,a,b,.sh (.str name),x]=.ok (.nx [c0,.sh (.at 0),c2,c3,a,b,.sh (.str name),r]) A:=by
 have fl:mH (.ok (.tup ((eJ bB).map .str))) A=.ok (.tup ((eJ bB).map .str)) A:=av (by rw[G9];exact GB);have tw:Rg (.ok (.tup ((eJ bB).map .str)) A)=.ok ((eJ bB).map .str) A:=rfl;have go:∀(l:List Str),(∀z∈l,z∈eJ bB)->∀x,∃r,mv (gN 7) K7 (l.map .str) [c0,.sh (.at 0),c2,c3,a,b,.sh (.str name),x] A=.ok (.nx [c0,.sh (.at 0),c2,c3,a,b,.sh (.str name),r]) A:=λl=>by
  induction l with
  |nil=>exact λ_ x=>⟨x,rfl⟩
  |cons z l L=>
   intro h x;obtain⟨r,q⟩:=L (λy m=>h y (bG _ m)) (.sh (.str z));refine⟨r,?_⟩;rw[a_];simp only[EL,cI,bw,aT,aU,Sd s I hi P M (h z (bF ..))];exact q
 obtain⟨r,q⟩:=go (eJ bB) (λ_ h=>h) x;refine⟨r,?_⟩;rw[s.h.d9 (n:=4) (m:="people") rfl];simp only[bw,DF s I,fl,tw];exact q
theorem K8(ns:List Int):yt [.uI ns]=.ok (.bl true):=by
 unfold yt vQ;rw[av ⟨rfl,rfl⟩];show nk (Gh.1 [.sh (.uI ns),.no,.no,.no,.no,.no,.no,.no] [])=_;unfold Gh;have S:∀A,mH (.ok (.tup [.str "ann",.str "bo",.str "cy",.str "dee",.str "ed"])) A=.ok (.tup [.str "ann",.str "bo",.str "cy",.str "dee",.str "ed"]) A:=λA=>rfl;have t8:∀a b c d e f g h,yQ (.ok [a,b,c,d,e,f,g,h])=.ok (.tup [a,b,c,d,e,f,g,h]):=λ_ _ _ _ _ _ _ _=>rfl;have e8:∀A,mH (.ok (.tup [.str "say",.str "say",.str "say",.str "mend",.str "mend",.str "take_back",.str "enter",.str "enter"])) A=.ok (.tup [.str "say",.str "say",.str "say",.str "mend",.str "mend",.str "take_back",.str "enter",.str "enter"]) A:=λA=>rfl;have a8:rX (.tup [.str "say",.str "say",.str "say",.str "mend",.str "mend",.str "take_back",.str "enter",.str "enter"]) (.tup [.str "leave",.str "arrange",.str "role",.str "out"])=.ok (.tup (w8.map .str)):=rfl;have eg:∀A,mH (.ok (.tup (w8.map .str))) A=.ok (.tup (w8.map .str)) A:=λA=>rfl;simp![RZ,S,NC,R0,t8,e8,a8,eg,aT,aU,VC,EL];refine K0 (LI ns) ⟨st0,.no,.no,rfl⟩ (λk Y A hk r=>?_) λY A r=>?_
 .obtain⟨hs,a,b,rfl⟩:=r;obtain⟨c0,ec⟩:=RX ns ((0+(k:Nat):Int) % 11) (xk _ ∅);obtain⟨ts,ed,hd⟩:=R4 (ws:=w8) ∅ ∅ (c0+41*(0+(k:Nat))) (aF 5 A (.at 4)) (hs.rm ∎);obtain⟨A',eb,XT⟩:=step hs hd ∎;have m1:Cd (.int (0+(k:Nat))) (.int 11)=.ok (.int ((0+(k:Nat):Int) % 11)):=Fc ∅;have m2:Eg (.int 41) (.int (0+(k:Nat)))=.ok (.int (41*(0+(k:Nat)))):=KN (.inl ⟨∅,∅⟩);have fz:∀A,mH (.ok (.tup ts)) A=.ok (.tup ts) A:=λA=>av (HM hd);refine⟨_,rfl,?_⟩;simp![m1,ec,m2,ed,fz,aT,aU];refine⟨[.sh (.uI ns),.sh (.at 0),.sh (.at 4),.sh (.tup (w8.map .str)),.sh (.int (0+(k:Nat))),.sh (.tup ts),.no,.no],A',?_,XT,_,_,rfl⟩;rcases KG eb with⟨w,q⟩|⟨u,I,v,hu,q,L⟩
  .rw[q];rfl
  .rw[q];rcases hu with rfl|⟨n,rfl⟩
   .show oF (cM [.at 4,.tup ts] I) _=_;rw[L];rfl
   .show oF (cM [.at 4,.tup ts] I) _=_;rw[L];rfl
 .obtain⟨⟨aB,bB,D1,D2,s⟩,a,b,rfl⟩:=r;have r1:=s.r1.b.b1;have r2:=s.r2.b.b1;obtain⟨x1,M⟩:=OM (name:="hall") (c0:=.sh (.uI ns)) (c2:=.sh (.at 4)) (c3:=.sh (.tup (w8.map .str))) (a:=a) (b:=b) (x:=.no) s ∅ ∅ s.r1 ∎;obtain⟨x2,L⟩:=OM (name:="yard") (c0:=.sh (.uI ns)) (c2:=.sh (.at 4)) (c3:=.sh (.tup (w8.map .str))) (a:=a) (b:=b) (x:=x1) s ∅ ∅ s.r2 ∎;unfold K7 at M L;simp only[ev,bw,aT,aU];rw[M];simp only[ev,bw,aT,aU];rw[L]
  rfl
def O:SG:=⟨["ValueError","all","any","dict","int","isinstance","len","list","max","min","range","sorted","str","tuple"],["Barred","Hall","Known","NoHand","NoLine","NoPerson","NoRight","NoRoom","NoRow","NotAsked","NotIn","Room","TalkError"],["Hall","Room"],[("Room",["banned","chosen","entries","invited","log","ranks","read_marks","said_by_key"]),("Hall",["hands","persons","places"])],[iz],["Known","NoPerson","NoRoom","NotIn","NotAsked","Barred","NoRight","NoRow","NoHand","NoLine"],[.inl "Barred",.inl "Known",.inl "NoHand",.inl "NoLine",.inl "NoPerson",.inl "NoRight",.inl "NoRoom",.inl "NoRow",.inl "NotAsked",.inl "NotIn",.inr "ValueError"],["TalkError"],["Barred","Known","NoPerson","NoRight","NoRoom","NoRow","NotAsked","NotIn"]⟩
set_option maxHeartbeats 8000000 in
theorem all_mk{l:PySem.W.OpenLaw}{w:World}{K:Frag}(X:K.In h)(G:h.Ns mainGlobals mg)(q:mg "law"=some (.ref fa))
  (c1:DS.map (Df.fd K)=DS.map (λd=>d.re (d.fd K))) (c2:DS.all (Df.OC K)=true) (c3:O.OC K=true)
   {K9:Array (Option Value)} (r:PySem.W.nsIn K mainGlobals "ROLES"=some (some (.ref I))) (M:K.lookup I=some ⟨.type "tuple",none,.seq #[.str "guest" SN,.str "speaker" SO,.str "keeper" SQ,.str "owner" SR] VI,K9⟩)
    (S:PySem.W.nsIn K mainGlobals "SETTINGS"=some (some (.ref b))) (d1:K.lookup b=some ⟨.type "dict",none,.dict #[⟨PyData.keyHash w.params "door",.str "door" aak,.ref YR⟩,⟨PyData.keyHash w.params "voice",.str "voice" aal,.ref YS⟩,⟨PyData.keyHash w.params "past",.str "past" aam,.ref YT⟩] dn1,#[]⟩) (s1:(b==sysModules)=false)
   {VJ:Array (Option Value)} (VL:K.lookup YR=some ⟨.type "tuple",none,.seq #[.str "open" YU,.str "asked" YV] aaa,VJ⟩)
   {VM:Array (Option Value)} (VN:K.lookup YS=some ⟨.type "tuple",none,.seq #[.str "all" YW,.str "some" YX] aab,VM⟩)
   {VO:Array (Option Value)} (VP:K.lookup YT=some ⟨.type "tuple",none,.seq #[.str "shown" YY,.str "hidden" YZ] aac,VO⟩)
  :∃fd:FuncData,(∀(s:Shared) (v:Value),BindsTo s fd ⟨[v],[]⟩ [("_law_script",v)])/\∀base:Heap,K.In base->base.Ns mainGlobals mg->fK l.prog w K mg base rj 9 fa fd ["_law_script"] (spT K yt):=by
 have o:=O.ok X G c3;have T:SH K w mg:=⟨λi d e=>JP X G c1 c2 d (eK e),o.bl rfl,o.bl rfl,o.bl rfl,o.bl rfl,o.bl rfl,o.bl rfl,o.bl rfl,o.bl rfl,o.bl rfl,o.bl rfl,o.bl rfl,o.bl rfl,o.bl rfl,o.bl rfl,o.bn 0 rfl,o.ZY rfl,o.ZY rfl,⟨⟨.ref I,_,W.mg_of X G r,rfl,λH=>.tup (vs:=[.str "guest",.str "speaker",.str "keeper",.str "owner"]) (.inr ⟨_,_,_,M,rfl,rfl,rfl,by show 4<=sizeLine;decide,(.cons ⟨_,rfl⟩ (.cons ⟨_,rfl⟩ (.cons ⟨_,rfl⟩ (.cons ⟨_,rfl⟩ .nil))))⟩) (.cons (.str _ ∅) (.cons (.str _ ∅) (.cons (.str _ ∅) (.cons (.str _ ∅) .nil))))⟩,⟨_,_,W.mg_of X G r,M,rfl,rfl⟩⟩,o.fl (c:="Room") rfl rfl,o.fl (c:="Room") rfl rfl,o.fl (c:="Room") rfl rfl,o.fl (c:="Hall") rfl rfl,o.fl (c:="Room") rfl rfl,o.fl (c:="Room") rfl rfl,o.fl (c:="Hall") rfl rfl,o.fl (c:="Hall") rfl rfl,o.fl (c:="Room") rfl rfl,o.fl (c:="Room") rfl rfl,o.fl (c:="Room") rfl rfl,Em.gd (aS:=[("door",.tup [.str "open",.str "asked"]),("voice",.tup [.str "all",.str "some"]),("past",.tup [.str "shown",.str "hidden"])]) (.cons (v:=.ref _) rfl (λH=>.tup (vs:=[.str "open",.str "asked"]) (.inr ⟨_,_,_,VL,rfl,rfl,rfl,by show 2<=sizeLine;decide,(.cons ⟨_,rfl⟩ (.cons ⟨_,rfl⟩ .nil))⟩) (.cons (.str _ ∅) (.cons (.str _ ∅) .nil))) (.cons (v:=.ref _) rfl (λH=>.tup (vs:=[.str "all",.str "some"]) (.inr ⟨_,_,_,VN,rfl,rfl,rfl,by show 2<=sizeLine;decide,(.cons ⟨_,rfl⟩ (.cons ⟨_,rfl⟩ .nil))⟩) (.cons (.str _ ∅) (.cons (.str _ ∅) .nil))) (.cons (v:=.ref _) rfl (λH=>.tup (vs:=[.str "shown",.str "hidden"]) (.inr ⟨_,_,_,VP,rfl,rfl,rfl,by show 2<=sizeLine;decide,(.cons ⟨_,rfl⟩ (.cons ⟨_,rfl⟩ .nil))⟩) (.cons (.str _ ∅) (.cons (.str _ ∅) .nil))) .nil))) (W.mg_of X G S) d1 s1 (show List.Nodup (["door","voice","past"]:List Str) by decide),Em.gk (aS:=[("door",.tup [.str "open",.str "asked"]),("voice",.tup [.str "all",.str "some"]),("past",.tup [.str "shown",.str "hidden"])]) (.cons (v:=.ref _) rfl (λH=>.tup (vs:=[.str "open",.str "asked"]) (.inr ⟨_,_,_,VL,rfl,rfl,rfl,by show 2<=sizeLine;decide,(.cons ⟨_,rfl⟩ (.cons ⟨_,rfl⟩ .nil))⟩) (.cons (.str _ ∅) (.cons (.str _ ∅) .nil))) (.cons (v:=.ref _) rfl (λH=>.tup (vs:=[.str "all",.str "some"]) (.inr ⟨_,_,_,VN,rfl,rfl,rfl,by show 2<=sizeLine;decide,(.cons ⟨_,rfl⟩ (.cons ⟨_,rfl⟩ .nil))⟩) (.cons (.str _ ∅) (.cons (.str _ ∅) .nil))) (.cons (v:=.ref _) rfl (λH=>.tup (vs:=[.str "shown",.str "hidden"]) (.inr ⟨_,_,_,VP,rfl,rfl,rfl,by show 2<=sizeLine;decide,(.cons ⟨_,rfl⟩ (.cons ⟨_,rfl⟩ .nil))⟩) (.cons (.str _ ∅) (.cons (.str _ ∅) .nil))) .nil))) (W.mg_of X G S) d1 s1 (show List.Nodup (["door","voice","past"]:List Str) by decide) (show∀z∈(["door","voice","past"]:List Str),z.length<=cH by decide),o.xc 0 rfl,o.xc 1 rfl,o.xc 2 rfl,o.xc 3 rfl,o.xc 4 rfl,o.xc 5 rfl,o.xc 6 rfl,o.xc 7 rfl,o.xc 8 rfl,o.xc 9 rfl,o.xc 10 rfl,o.Ge rfl,o.Ge rfl,o.Ge rfl,o.Ge rfl,o.Ge rfl,o.Ge rfl,o.Ge rfl,o.Ge rfl,o.Ge rfl,o.Ge rfl,o.ca rfl rfl,o.er rfl rfl,o.er rfl rfl,o.er rfl rfl,o.er rfl rfl,o.er rfl rfl,o.er rfl rfl,o.er rfl rfl,o.er rfl rfl⟩;cases q.symm.trans ((T.d 66 rfl:zL.Ok K mg).m0 rfl);obtain⟨oc,od,kV,doc,pm,an,fL,ct,Ir,L,_,_⟩:=(T.d 66 rfl:zL.Ok K mg).fn.ex;exact⟨_,λs v=>by rw[L];exact .of_eq rfl,λbase _ _=>(Vh T).ok⟩
def Se{K:Frag}{Q:VK}{ns:List Int}(q:lI K H a (ns.map V.int))(I:∀H',Q (.bl true) H'):spT K yt [.ref a] H Q E:=
 ⟨⟨λ_=>false,λ_=>none⟩,[.uI ns],λb e=>(nomatch e),.cons (.uI q) .nil,.bl true,K8 ns,λv H' _ r=>by rw[r.rW];exact I H'⟩
def walk{l:PySem.W.OpenLaw}{b:World->Heap->Prop}{d:DefRec}{K:Params->Frag}(r:l.most=some 63)(I:d.params.defaults=[])
  (M:∀(w:World) (h:Heap),b w h->(K w.params).In h)
  (F:∀(w:World) (mg:Str->Option Value) (fa:Addr) (h:Heap),(K w.params).In h->h.Ns mainGlobals mg->mg d.name=some (.ref fa)->
   ∃fd:FuncData,(∀(s:Shared) (u:Value),BindsTo s fd ⟨[u],[]⟩ [("_law_script",u)])/\∀base:Heap,(K w.params).In base->base.Ns mainGlobals mg->fK l.prog w (K w.params) mg base rj 9 fa fd ["_law_script"] (spT (K w.params) yt)):
  PySem.W.WalkO q loose S b l.row.toRowW d [] (λf vs=>PySem.call f vs):=
 L2.LO (n:=63) (k:=9) (x:="_law_script") (CX:=λ_=>rj) (sp:=λw=>spT (K w.params) yt) r ∅ I ⟨rfl,∅,∅⟩ M F (λ_ _ a ns hl _ L=>Se L λ_=>rfl) λ_ _ _ _ _ z=>z
end YF
end
open PySem PySem.W PyProof.Rows
set_option maxRecDepth 100000 in
set_option maxHeartbeats 0 in
theorem PySem.Challenge.cw_talkhall_k20_whole_all_see_alike_holds : PySem.Challenge.rw_talkhall_k20_whole_all_see_alike.Holds := by
 w_on;o_law;k_head;(case hw=>w_witness2)
 k_fill
 refine YF.walk (l:=PySem.Challenge.rw_talkhall_k20_whole_all_see_alike) rfl rfl (λw h ρ=>PySem.W.kIn_of ρ) ?F
 case F=>
  intro w mg fa h KX G SV
  refine' YF.all_mk KX G SV ?_ ?_ ?_ ?_ ?_ ?_ ?_ ?_ ?_ ?_ ?_
  all_goals first|k_is|kernel_rfl|skip
